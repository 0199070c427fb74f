/- Joined texts. Conditions: as each theorem lists them. -/
import Derived.Test.YtoahkffdoaphlaaJWh
set_option linter.unusedSimpArgs false
set_option linter.unusedVariables false
set_option maxRecDepth 100000
set_option maxHeartbeats 80000000
namespace Go.Proofs.Ytoahkffdoaphlaa.Se
open Go Go.RowKit Go.Proofs.Ytoahkffdoaphlaa Go.Proofs.Ytoahkffdoaphlaa.Sp
def TextW (w wr:World) (v:Value) (k:Nat):Prop:=∃ out:List Nat,out.length=k∧(∀ c ∈ out,c<256)∧wr.ownsRow w.heap.size 5 1 v k (bv out)∧Below w.heap.size w wr
def TextP (w:World) (n:Nat) (e:Ending) (w':World):Prop:=∃ A c,e=.returned (.slice A n c)∧TextW w w' (.slice A n c) n
theorem u8_in (x:Int):0≤IntKind.u8.wrap x∧IntKind.u8.wrap x<256:=by
 have:IntKind.u8.wrap x=x % 256:=by simp [IntKind.wrap,IntKind.signed,IntKind.bits]
 rw [this];omega
theorem text_any (bs:List Nat) (A:Option Addr) (cap:Nat) (n:Nat) (w:World) (hx:Rd w w.heap.size A bs.length (bv bs)) (hn:n≤1000000) (hl:bs.length≤cap) (hm:bs.length≤140737488355328) :
  Calls Try.prog 9 #[.slice A bs.length cap,.int .i64 (n:Int)] w (TextP w n):=by
 have HX:=Lib.hid hx
 obtain ⟨i0,hi,hz0,hz1,hz2⟩:=info_parts infoB
 have HI:=Lib.hid (And.intro hi (And.intro hz0 (And.intro hz1 hz2)))
 have hnI:(n:Int)≤1000000:=by omega
 have hlI:(bs.length:Int)≤(cap:Int):=by omega
 have hmI:(bs.length:Int)≤140737488355328:=by omega
 clear hx hi hz0 hz1 hz2
 go_enter Try.func9,Try.ntmps9
 go_wp2_with fail
 go_loopw [5,6,7] (fun v i _ wr=>∃ k:Nat,k≤n∧i=.int .i64 (k:Int)∧Hid (TextW w wr v k)) (fun _ i _ _=>n - (intOf i).toNat)
 case atStart=>exact ⟨0,Nat.zero_le _,rfl,[],rfl,(fun c hc=>by cases hc),own_nil _ _ _ _,Below.refl _ _⟩
 case round =>
  obtain ⟨k,hk,rfl,HK⟩:=hrel
  by_cases hlt:k<n
  ·have hlti:(k:Int)<(n:Int):=by omega
   have hki:(k:Int)≤1000000:=by omega
   obtain ⟨out,ho1,ho2,ho3,ho4⟩:=HK.out
   obtain ⟨Ao,co,eo,_⟩:=own_form ho3
   subst eo
   have HO:=Lib.hid ho3
   have HB:=Lib.hid ho4
   have HN:∀ (c:Nat) (w2:World) (v2:Value),c<256→w2.ownsRow w.heap.size 5 1 v2 (k+1) (bv out ++ [.int .u8 (c:Int)])→Below w.heap.size w w2→TextW w w2 v2 (k+1):=fun c w2 v2 hc h1 h2 =>
    ⟨out ++ [c],by simp [ho1],fun x hx=>by simp at hx;rcases hx with hx | rfl;exact ho2 x hx;exact hc,by rw [bv_app];exact h1,h2⟩
   have HNN:=Lib.hid HN
   have HSZ:Hid (w.heap.size≤wr.heap.size):=ho4.size
   clear ho1 ho2 ho3 ho4 HN HK
   by_cases hb0:bs.length=0
   ·have hb0I:decide (0<bs.length)=false:=decide_eq_false (by omega)
    have HB0:=Lib.hid hb0
    clear hb0
    obtain ⟨c,hc⟩:∃ c:Nat,IntKind.u8.wrap ((k:Int) * 7)=(c:Int):=⟨(IntKind.u8.wrap ((k:Int) * 7)).toNat,by have:=u8_in ((k:Int) * 7);omega⟩
    have HC:Hid (c<256):=by have:=u8_in ((k:Int) * 7);show _<_;omega
    have hd1:Hid (Rd (wr.alloc (.cells #[.int .u8 (c:Int)] 5)) (wr.heap.size+1) (some ⟨wr.heap.size,0,none⟩) (1 * 1) [.int .u8 (c:Int)]):=rd_new _ _ _ _ _ _ _ rfl (by omega) rfl rfl
    have hd2:Hid (k+1≤maxLen∧(k+1) * 1≤140737488355328):=⟨by unfold maxLen;omega,by omega⟩
    have hd4:Hid (w.heap.size≤(wr.alloc (.cells #[.int .u8 (c:Int)] 5)).heap.size):=by have:=HSZ.out;show _≤_;simp only [World.size_alloc];omega
    have hd5:Hid (ones [Value.int .u8 (c:Int)]):=fun u hu=>by simp at hu;subst hu;rfl
    go_wp2_with (at_builtin;refine wpList_app _ rfl (.tmp 28) (.tmp 30) 30 rfl w.heap.size 5 i0 (.int .u8 0) 1 1 Try.underlying30 HI.out.1 HI.out.2.1 HI.out.2.2.1 HI.out.2.2.2 rfl (by decide) (.slice Ao k co) k (bv out) rfl (HO.out.alloc _) (wr.heap.size+1) (some ⟨wr.heap.size,0,none⟩) 1 _ [.int .u8 (c:Int)] rfl hd1.out hd5.out hd2.out.1 hd2.out.2 hd4.out ?_)
    intro v3 w3 hown3 hgrow3
    have HT3:Hid (TextW w w3 v3 (k+1)):=HNN.out c w3 v3 HC.out hown3 ((HB.out.alloc HSZ.out _).grown hgrow3 hd4.out (fun g hg=>(HO.out.lt g hg).1))
    obtain ⟨A3,c3,e3,_⟩:=own_form hown3
    subst e3
    clear hown3 hgrow3
    go_wp2_with fail
    go_roundw
    case rel=>first | exact ⟨k+1,by omega,by go_num,HT3⟩ | exact ⟨_,_,_,_,_,_,_,_,_,_,_,_,_,_,_,_,_,_,_,_,_,_,_,_,_,_,_,⟨k+1,by omega,by go_num,HT3⟩,rfl⟩
    case measure=>simp [intOf];omega
   ·have hb1I:0<(bs.length:Int):=by omega
    have hb2I:(bs.length:Int)≠0:=by omega
    obtain ⟨b,off,hA,hbn,hcs⟩:=HX.out.2 (by omega)
    subst hA
    obtain ⟨q,hq⟩:∃ q,k % bs.length=q:=⟨_,rfl⟩
    have hql:q<bs.length:=by rw [← hq];exact Nat.mod_lt _ (by omega)
    have hmod:(k:Int).tmod (bs.length:Int)=(q:Int):=by rw [← hq];exact (Int.ofNat_tmod k bs.length).symm
    have hqI:(q:Int)<(bs.length:Int):=by omega
    have hcell:wr.cell? ⟨b,off+q,none⟩=some (.int .u8 ((bs.getD q 0:Nat):Int)):=by
     rw [HB.out.cell (p:=⟨b,off+q,none⟩) hbn]
     exact hcs q _ (bv_get bs q hql)
    obtain ⟨y,hy⟩:∃ y:Int,((bs.getD q 0:Nat):Int)=y:=⟨_,rfl⟩
    rw [hy] at hcell
    obtain ⟨c0,hc0⟩:∃ c:Int,IntKind.u8.wrap ((k:Int) * 7)=c:=⟨_,rfl⟩
    obtain ⟨c,hc⟩:∃ c:Nat,IntKind.u8.wrap (c0+y)=(c:Int):=⟨(IntKind.u8.wrap (c0+y)).toNat,by have:=u8_in (c0+y);omega⟩
    have HC:Hid (c<256):=by have:=u8_in (c0+y);show _<_;omega
    have nx:=World.new_ne wr _ hcell
    clear hq hcs hy hb0 hb2I
    have hd1:Hid (Rd (wr.alloc (.cells #[.int .u8 (c:Int)] 5)) (wr.heap.size+1) (some ⟨wr.heap.size,0,none⟩) (1 * 1) [.int .u8 (c:Int)]):=rd_new _ _ _ _ _ _ _ rfl (by omega) rfl rfl
    have hd2:Hid (k+1≤maxLen∧(k+1) * 1≤140737488355328):=⟨by unfold maxLen;omega,by omega⟩
    have hd4:Hid (w.heap.size≤(wr.alloc (.cells #[.int .u8 (c:Int)] 5)).heap.size):=by have:=HSZ.out;show _≤_;simp only [World.size_alloc];omega
    have hd5:Hid (ones [Value.int .u8 (c:Int)]):=fun u hu=>by simp at hu;subst hu;rfl
    go_wp2_with (at_builtin;refine wpList_app _ rfl (.tmp 28) (.tmp 30) 30 rfl w.heap.size 5 i0 (.int .u8 0) 1 1 Try.underlying30 HI.out.1 HI.out.2.1 HI.out.2.2.1 HI.out.2.2.2 rfl (by decide) (.slice Ao k co) k (bv out) rfl (HO.out.alloc _) (wr.heap.size+1) (some ⟨wr.heap.size,0,none⟩) 1 _ [.int .u8 (c:Int)] rfl hd1.out hd5.out hd2.out.1 hd2.out.2 hd4.out ?_)
    intro v3 w3 hown3 hgrow3
    have HT3:Hid (TextW w w3 v3 (k+1)):=HNN.out c w3 v3 HC.out hown3 ((HB.out.alloc HSZ.out _).grown hgrow3 hd4.out (fun g hg=>(HO.out.lt g hg).1))
    obtain ⟨A3,c3,e3,_⟩:=own_form hown3
    subst e3
    clear hown3 hgrow3
    go_wp2_with fail
    go_roundw
    case rel=>exact ⟨k+1,by omega,by go_num,HT3⟩
    case measure=>simp [intOf];omega
  ·have hlti:¬ (k:Int)<(n:Int):=by omega
   obtain rfl:k=n:=by omega
   have HT:=HK
   obtain ⟨out,ho1,ho2,ho3,ho4⟩:=HK.out
   obtain ⟨Ao,co,eo,_⟩:=own_form ho3
   subst eo
   clear ho1 ho2 ho3 ho4 HK
   go_wp2_with fail
   go_ret
   exact ⟨_,_,rfl,HT.out⟩
/-- A row of frames: each has its nine cells, small numbers in them; what its slices lead to is not looked at. -/
structure Fv where
 k:Int
 id:Int
 off:Int
 a:Int
 b:Int
 note:Int
 fin:Bool
 A:Option Addr
 n:Nat
 c:Nat
 A2:Option Addr
 n2:Nat
 c2:Nat
def Fv.cells (f:Fv):List Value:=[.int .i64 f.k,.int .i64 f.id,.int .i64 f.off,.int .i64 f.a,.int .i64 f.b,.int .i64 f.note,.bool f.fin,.slice f.A f.n f.c,.slice f.A2 f.n2 f.c2]
def Fv.ok (f:Fv):Prop:=(0≤f.off∧f.off≤4611686018427387903)∧f.n≤1099511627776
def Fv.fk (f:Fv):Fk:=⟨f.k,f.id,f.off,f.b,f.fin,f.n⟩
def fvs (l:List Fv):List Value:=l.flatMap Fv.cells
theorem fvs_app (a b:List Fv):fvs (a ++ b)=fvs a ++ fvs b:=by simp [fvs]
theorem fvs_one (f:Fv):fvs [f]=f.cells:=by simp [fvs]
theorem ones_fv (f:Fv):ones f.cells:=fun u hu=>by
 simp only [Fv.cells,List.mem_cons,List.not_mem_nil,or_false] at hu
 rcases hu with rfl | rfl | rfl | rfl | rfl | rfl | rfl | rfl | rfl <;> rfl
theorem fvs_get:∀ (l:List Fv) (i:Nat) (f:Fv),l[i]?=some f→∀ j,j<9→(fvs l)[i * 9+j]?=f.cells[j]?
 | [],i,k,h,_,_=>by simp at h
 | x :: r,0,k,h,j,hj=>by
   simp only [List.length_cons,List.getElem?_cons_zero,Option.some.injEq] at h
   subst h
   show (x.cells ++ fvs r)[0 * 9+j]?=_
   rw [Nat.zero_mul,Nat.zero_add,List.getElem?_append_left (by show j<9;exact hj)]
 | x :: r,i+1,k,h,j,hj=>by
   show (x.cells ++ fvs r)[(i+1) * 9+j]?=_
   rw [List.getElem?_append_right (by show 9≤_;omega)]
   rw [show (i+1) * 9+j - x.cells.length=i * 9+j by show _ - 9=_;omega]
   exact fvs_get r i k (by simpa using h) j hj
theorem infoF:(Try.prog.info? 54).map (fun i=>(i.zero,i.size,i.bytes))=some (some (.agg #[.int .i64 0,.int .i64 0,.int .i64 0,.int .i64 0,.int .i64 0,.int .i64 0,.bool false,.slice none 0 0,.slice none 0 0]),9,104):=by kernel_rfl
/-- Such a row of the call's own, apart from the blocks F. -/
def FRow (w:World) (lo:Nat) (F:List Nat) (v:Value) (l:List Fv):Prop:=w.ownsRow lo 54 9 v l.length (fvs l)∧(∀ k ∈ fp v,k ∉ F)∧∀ f ∈ l,f.ok
theorem FRow.kept {w w':World} {lo:Nat} {F F':List Nat} {v:Value} {l:List Fv} (h:FRow w lo F v l) (hk:Kept F w w') (hn:∀ k ∈ F',k ∈ F∨w.heap.size≤k):FRow w' lo F' v l :=
 ⟨own_kept h.1 hk h.2.1,fun k hk' hm=>(hn k hm).elim (h.2.1 k hk') (fun hx=>by have:=(h.1.lt k (fp_own.1 hk')).2;omega),h.2.2⟩
theorem FRow.below {w w':World} {lo:Nat} {F:List Nat} {v:Value} {l:List Fv} (h:FRow w lo F v l) (hb:Below w.heap.size w w'):FRow w' lo F v l:=h.kept (Kept.ofBelow F hb) fun _ hk=>.inl hk
/-- The q-th of them. -/
theorem FRow.get {w:World} {lo:Nat} {F:List Nat} {A:Option Addr} {m c:Nat} {l:List Fv} (h:FRow w lo F (.slice A m c) l) (q:Nat) (hq:q<l.length):∃ b o f,A=some ⟨b,o,none⟩∧l[q]?=some f∧f.ok∧∀ (j:Nat) (u:Value),f.cells[j]?=some u→w.cell? ⟨b,o+q * 9+j,none⟩=some u:=by
 obtain ⟨A',c',e,_,_,_,hr⟩:=own_form h.1
 simp only [Value.slice.injEq] at e
 obtain ⟨rfl,_,_⟩:=e
 obtain ⟨b,o,rfl,_,hc⟩:=hr.2 (by omega)
 have hf:l[q]?=some (l[q]'hq):=List.getElem?_eq_getElem hq
 refine ⟨b,o,_,rfl,hf,h.2.2 _ (List.getElem_mem _),fun j u hu=>?_⟩
 have hj:j<9:=(List.getElem?_eq_some_iff.1 hu).1
 rw [Nat.add_assoc]
 exact hc _ u ((fvs_get l q _ hf j hj).trans hu)
end Go.Proofs.Ytoahkffdoaphlaa.Se
