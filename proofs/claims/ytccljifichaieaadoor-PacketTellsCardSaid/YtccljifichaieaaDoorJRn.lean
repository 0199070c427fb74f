/- Joined texts. Conditions: as each theorem lists them. -/
import Derived.Test.YtccljifichaieaaDoorJRv
import Derived.Test.YtccljifichaieaaDoorJ5b
import Derived.BigQuiet
import Derived.Laws.Rows
set_option linter.unusedSimpArgs false
set_option linter.unusedVariables false
set_option maxRecDepth 100000
set_option maxHeartbeats 8000000
namespace Go.Proofs.YtccljifichaieaaDoor
open Go Go.RowKit
theorem below_drewN' {B:Nat} {w w1:World} (h:Below B w w1) (m:Nat):Below B w (w1.drewN m):=⟨h.os,h.tape,h.output,h.size,h.block⟩
theorem rspans_yes (es:List Int) (n:Nat) (B:Nat) (A:Option Addr) (c:Nat) (w:World) (hs:SpsOk es n) (h1:1≤n) (h8:n≤8) (hx:Rd w B A (n * 2) (ints es)) (hB:B≤w.heap.size) (hc:n≤c) :
  Calls Tryd.prog 71 #[.slice A n c] w fun e w'=>e=.returned (.bool true)∧Below w.heap.size w w':=by
 have HS:=Lib.hid hs
 have HX:=Lib.hid hx
 have hl:=hs.1
 obtain ⟨b,off,rfl,hb,hcell⟩:=hx.2 (by omega)
 have HCE:Hid (∀ W,Below w.heap.size w W→∀ j,j<es.length→W.cell? ⟨b,off+j,none⟩=some (.int .i64 (es.getD j 0))):=fun W hW j hj=>(hW.cell (p:=⟨b,off+j,none⟩) (Nat.lt_of_lt_of_le hb hB)).trans (hcell j _ (ints_get es j hj))
 have h1i:¬ (n:Int)<1:=by omega
 have h8i:¬ (8:Int)<(n:Int):=by omega
 have hci:(n:Int)≤(c:Int):=by omega
 have HL:=Lib.hid hl
 clear hs hx hcell hl
 go_enter Tryd.func71,Tryd.ntmps71
 go_wp2_with fail
 go_loopw [3] (fun i wr=>∃ k:Nat,k≤n∧i=.int .i64 k∧Hid (Below w.heap.size w wr)) (fun i _=>n - (intOf i).toNat)
 case atStart=>exact ⟨0,Nat.zero_le _,rfl,Below.refl _ _⟩
 case round =>
  obtain ⟨k,hk,rfl,HK⟩:=hrel
  by_cases hlt:k<n
  ·have hlti:(k:Int)<(n:Int):=by omega
   obtain ⟨s1,s2,s3,s4⟩:=HS.out.2 k hlt
   obtain ⟨x,hx⟩:∃ x,Hid (es.getD (2 * k) 0=x):=⟨_,rfl⟩
   obtain ⟨y,hy⟩:∃ x,Hid (es.getD (2 * k+1) 0=x):=⟨_,rfl⟩
   rw [hx.out] at s1 s2
   rw [hy.out] at s2 s3 s4
   have e1:wr.cell? ⟨b,off+k * 2,none⟩=some (.int .i64 x):=by
    rw [show off+k * 2=off+2 * k by omega,HCE.out wr HK.out (2 * k) (by have:=HL.out;omega),hx.out]
   have e2:wr.cell? ⟨b,off+k * 2+1,none⟩=some (.int .i64 y):=by
    rw [show off+k * 2+1=off+(2 * k+1) by omega,HCE.out wr HK.out (2 * k+1) (by have:=HL.out;omega),hy.out]
   have M1:Hid (∀ W:World,Calls Tryd.prog 19 #[.int .i64 x] W fun e w'=>e=.returned (.bool true)∧w'=W):=fun W=>(Rv.may_t x W (wid_in s1 (by omega))).mono fun _ _ ⟨h1,h2⟩=>⟨h1,h2.symm⟩
   have M2:Hid (∀ W:World,Calls Tryd.prog 19 #[.int .i64 y] W fun e w'=>e=.returned (.bool true)∧w'=W):=fun W=>(Rv.may_t y W (wid_in (by omega) s3)).mono fun _ _ ⟨h1,h2⟩=>⟨h1,h2.symm⟩
   have hxy:decide (y<x)=false:=decide_eq_false (by omega)
   by_cases hk0:k=0
   ·have hd:decide (0<k)=false:=decide_eq_false (by omega)
    clear hk0 s4
    go_wp2_with fail
    go_quiet ((go_at_call 19;first | exact Calls.quiet_of_same (M1.out _) | exact Calls.quiet_of_same (M2.out _)))
    go_wp2_with fail
    go_roundw
    case rel=>exact ⟨k+1,by omega,by go_num,below_drewN' HK.out _⟩
    case measure=>simp [intOf];omega
   ·obtain ⟨z,hz⟩:∃ x,Hid (es.getD (2 * (k - 1)) 0=x):=⟨_,rfl⟩
    have hd:decide (0<k)=true:=decide_eq_true (by omega)
    have s5:=s4 (by omega)
    rw [hz.out] at s5
    obtain ⟨t1,t2,t3,_⟩:=HS.out.2 (k - 1) (by omega)
    rw [hz.out] at t1 t2
    have hkm:(k:Int) - 1=((k - 1:Nat):Int):=by omega
    have e3:wr.cell? ⟨b,off+(k - 1) * 2,none⟩=some (.int .i64 z):=by
     rw [show off+(k - 1) * 2=off+2 * (k - 1) by omega,HCE.out wr HK.out (2 * (k - 1)) (by have:=HL.out;omega),hz.out]
    have hd2:decide (z - y<2)=false:=decide_eq_false (by omega)
    have hz1:z≤4611686018427387903:=by omega
    clear s4 s5 t2 t3
    go_wp2_with fail
    go_quiet ((go_at_call 19;first | exact Calls.quiet_of_same (M1.out _) | exact Calls.quiet_of_same (M2.out _)))
    go_wp2_with fail
    go_roundw
    case rel=>exact ⟨k+1,by omega,by go_num,below_drewN' HK.out _⟩
    case measure=>simp [intOf];omega
  ·have hlti:¬ (k:Int)<(n:Int):=by omega
   go_wp2_with fail
   go_ret
   exact ⟨rfl,HK.out⟩
/-- What a kind names, in the reference's order: ID, Off, A, B, Fin, Data, Spans. -/
def rnA (k:Int):Array Value:=#[.bool (decide (k=3∨k=4∨k=5∨k=7∨k=10∨k=11)),.bool (decide (k=3∨k=4)),.bool (decide (k=4∨k=5∨k=7∨k=6∨k=12∨k=8)),.bool (decide (k=4)),.bool (decide (k=3∨k=8)),.bool (decide (k=3∨k=9)),.bool (decide (k=2))]
theorem rnames_any (k:Int) (w:World) (h1:1≤k) (h2:k≤12) :
  Calls Tryd.prog 70 #[.int .i64 k] w fun e w'=>e=.returned (.agg (rnA k))∧Below w.heap.size w w':=by
 have hk:k=1∨k=2∨k=3∨k=4∨k=5∨k=6∨k=7∨k=8∨k=9∨k=10∨k=11∨k=12:=by omega
 clear h1 h2
 have FIN:Hid (∀ (W:World),Below W.heap.size W W):=fun W=>Below.refl _ _
 rcases hk with rfl | rfl | rfl | rfl | rfl | rfl | rfl | rfl | rfl | rfl | rfl | rfl
 all_goals
  go_enter Tryd.func70,Tryd.ntmps70
  go_wp2
  refine bodyPost_ret (results_cell_row rfl _ _ w.heap.size 90 _ (0,0) _ rfl (heap_alloc_new _ _) Tryd.underlying90 rfl (by kernel_rfl)) rfl ?_
  exact ⟨rfl,(Below.refl _ _).alloc (Nat.le_refl _) _⟩
end Go.Proofs.YtccljifichaieaaDoor
