/- Joined texts. Conditions: as each theorem lists them. -/
import Derived.Test.YtoahkffdoaphlaaJSc
set_option linter.unusedSimpArgs false
set_option linter.unusedVariables false
set_option maxRecDepth 100000
set_option maxHeartbeats 80000000
namespace Go.Proofs.Ytoahkffdoaphlaa.Sp
open Go Go.RowKit
theorem count_any (es:List Int) (p o:Nat) (T:TypeId) (cur:Array Value) (w:World) (h:SetIn w p o T cur es) (hm:es.length * 8≤140737488355328) :
  Calls Try.prog 48 #[.pointer (some ⟨p,o,none⟩)] w fun e w'=>e=.returned (.int .i64 (cnt es))∧Below w.heap.size w w':=by
 have HOk:=Lib.hid h.1
 obtain ⟨A,c,hat,hcur,_⟩:=h.at hm
 have hhp:=h.2.1
 have hcell:w.cell? ⟨p,o,none⟩=some (.slice A es.length c):=cell_slot hhp hcur
 have HP:=Lib.hid (pairs_any es w.heap.size A c w hat.2.2.2.2.1 (Nat.le_refl _) hat.1.2.1 hm hat.2.2.1)
 have he2:=hat.1.2.1
 obtain ⟨n,hn⟩:∃ n,Hid (es.length=2 * n):=⟨es.length / 2,by show _=_;omega⟩
 have hnb:(n:Int)≤17592186044416:=by have:=hn.out;omega
 clear hat hhp h
 have hdiv:Hid (es.length / 2=n):=by have:=hn.out;show _=_;omega
 rw [hdiv.out] at HP
 go_enter Try.func48,Try.ntmps48
 go_wp2_with fail
 refine HP.out.mono ?_
 rintro e w1 ⟨v1,rfl,h1,h2⟩
 obtain ⟨A1,c1,e1,hc1,hcm,hok1,hrd1⟩:=own_form h1
 subst e1
 have HR:Hid (Rd w1 w1.heap.size A1 (n * 2) (ints es)):=hrd1
 have HB1:=Lib.hid h2
 clear h1 h2 hok1 hrd1 hcell hcm
 have hncI:(n:Int)≤(c1:Int):=by omega
 go_wp2
 go_loopw [3,12,5] (fun v i _ wr=>∃ k:Nat,k≤n∧i=.int .i64 k∧v=.int .i64 (cnt (es.take (2 * k)))∧Hid (Below w1.heap.size w1 wr)) (fun _ i _ _=>n - (intOf i).toNat)
 case atStart=>exact ⟨0,Nat.zero_le _,rfl,rfl,Below.refl _ _⟩
 case round =>
  obtain ⟨k,hk,rfl,rfl,HK⟩:=hrel
  have hb0:=cnt_take_bound HOk.out k
  by_cases hlt:k<n
  ·have hlti:(k:Int)<(n:Int):=by omega
   obtain ⟨b,off,hA,hbn,hcs⟩:=HR.out.2 (by omega)
   subst hA
   have hl1:2 * k+1<es.length:=by have:=hn.out;omega
   obtain ⟨x,hx⟩:∃ x,Hid (es.getD (2 * k) 0=x):=⟨_,rfl⟩
   obtain ⟨y,hy⟩:∃ y,Hid (es.getD (2 * k+1) 0=y):=⟨_,rfl⟩
   have hcx:wr.cell? ⟨b,off+k * 2,none⟩=some (.int .i64 x):=by
    rw [HK.out.cell (p:=⟨b,off+k * 2,none⟩) hbn,show off+k * 2=off+2 * k by omega,hcs (2 * k) _ (ints_get es _ (by omega)),hx.out]
   have hcy:wr.cell? ⟨b,off+k * 2+1,none⟩=some (.int .i64 y):=by
    rw [HK.out.cell (p:=⟨b,off+k * 2+1,none⟩) hbn,show off+k * 2+1=off+(2 * k+1) by omega,hcs (2 * k+1) _ (ints_get es _ (by omega)),hy.out]
   clear hcs
   have hx0:=get_in HOk.out (2 * k) (by omega)
   have hy0:=get_in HOk.out (2 * k+1) (by omega)
   rw [hx.out] at hx0
   rw [hy.out] at hy0
   have hb1:=cnt_take_bound HOk.out (k+1)
   have hsn:Hid (cnt (es.take (2 * (k+1)))=cnt (es.take (2 * k))+(y - x)):=by
    show _=_
    rw [take_pair es k hl1,cnt_snoc _ _ _ (by rw [List.length_take];omega),hx.out,hy.out]
   rw [hsn.out] at hb1
   obtain ⟨s,hs⟩:∃ s,Hid (cnt (es.take (2 * k))=s):=⟨_,rfl⟩
   rw [hs.out] at hb0 hb1 hsn ⊢
   have hxy:0≤y - x∧y - x≤4611686018427387904:=by
    have:=get_mono HOk.out.1 (2 * k) (2 * k+1) (by omega) (by omega)
    rw [hx.out,hy.out] at this
    omega
   have nb:=World.new_ne wr _ hcx
   have HSW:Hid (w1.heap.size≤wr.heap.size):=HK.out.size
   go_wp2
   go_roundw
   case rel=>exact ⟨k+1,by omega,by go_num,by rw [hsn.out],HK.out.alloc HSW.out _⟩
   case measure=>simp [intOf];omega
  ·have hlti:¬ (k:Int)<(n:Int):=by omega
   obtain rfl:k=n:=by omega
   go_wp2
   go_ret
   exact ⟨ret_int (by rw [List.take_of_length_le (by rw [hn.out];exact Nat.le_refl _)]),HB1.out.trans (HK.out.mono HB1.out.size)⟩
end Go.Proofs.Ytoahkffdoaphlaa.Sp
