/- Joined texts. Conditions: as each theorem lists them. -/
import Derived.Test.YtoahkffdoaphlaaJE1
import Derived.Laws.StructEq
import Derived.ChangeKeysEq
import Derived.BigQuiet
import Derived.Deep.RegionHeld3
set_option linter.unusedSimpArgs false
set_option linter.unusedVariables false
set_option maxRecDepth 100000
set_option maxHeartbeats 80000000
namespace Go.Proofs.Ytoahkffdoaphlaa.Sq
open Go Go.RowKit Go.Proofs.Ytoahkffdoaphlaa
theorem below_drewN {B:Nat} {w w1:World} (h:Below B w w1) (m:Nat):Below B w (w1.drewN m):=⟨h.os,h.tape,h.output,h.size,h.block⟩
theorem infoInt:(Try.prog.info? 3).map (fun i=>(i.zero,i.size,i.bytes))=some (some (.int .i64 0),1,8):=by kernel_rfl
theorem eq2 (x1 y1:Int) (w:World):(Op.equalIn 10000 88 (.agg #[.int .i64 x1,.int .i64 y1]) (.agg #[.int .i64 x1,.int .i64 y1])).run Try.prog w=.ok true w:=by
 obtain ⟨i,hi,_⟩:=info_parts infoInt
 have hc:Try.prog.cellsOf 3=1:=by kernel_rfl
 have u3:=Try.underlying3
 have a3:=Try.isAgg3
 have z3:=Try.sizeOf3
 rw [show (10000:Nat)=9999+1 from rfl,run_equalIn_array w 9999 _ _ Try.underlying88 hi,hc,show List.range 2=[0,1] from rfl]
 simp only [Op.eqItems]
 go_simp
theorem rsame_same (k id off a b no no':Int) (fin:Bool) (d:List Nat) (es:List Int) (B B':Nat) (A A' A2 A2':Option Addr) (n c c' n2 c2 c2':Nat) (w:World) (h1:Rd w B A n (bv d)) (h2:Rd w B' A' n (bv d)) (h3:Rd w B A2 (n2 * 2) (ints es)) (h4:Rd w B' A2' (n2 * 2) (ints es)) (hB:B≤w.heap.size) (hB':B'≤w.heap.size) (hm:n2≤17592186044416) (hc1:n2≤c2) (hc2:n2≤c2') :
  Calls Try.prog 20 #[.agg #[.int .i64 k,.int .i64 id,.int .i64 off,.int .i64 a,.int .i64 b,.int .i64 no,.bool fin,.slice A n c,.slice A2 n2 c2],.agg #[.int .i64 k,.int .i64 id,.int .i64 off,.int .i64 a,.int .i64 b,.int .i64 no',.bool fin,.slice A' n c',.slice A2' n2 c2']] w fun e w'=>e=.returned (.bool true)∧Below w.heap.size w w':=by
 obtain ⟨g,hg⟩:∃ g,Hid (w.heap.size=g):=⟨_,rfl⟩
 have hba:Hid (Below w.heap.size w ((w.alloc (.cells #[.int .i64 k,.int .i64 id,.int .i64 off,.int .i64 a,.int .i64 b,.int .i64 no,.bool fin,.slice A n c,.slice A2 n2 c2] 54)).alloc (.cells #[.int .i64 k,.int .i64 id,.int .i64 off,.int .i64 a,.int .i64 b,.int .i64 no',.bool fin,.slice A' n c',.slice A2' n2 c2'] 54))):=((Below.refl w.heap.size w).alloc (Nat.le_refl _) _).alloc (by simp) _
 have C1:=conv_run (P:=Try.prog) ((w.alloc (.cells #[.int .i64 k,.int .i64 id,.int .i64 off,.int .i64 a,.int .i64 b,.int .i64 no,.bool fin,.slice A n c,.slice A2 n2 c2] 54)).alloc (.cells #[.int .i64 k,.int .i64 id,.int .i64 off,.int .i64 a,.int .i64 b,.int .i64 no',.bool fin,.slice A' n c',.slice A2' n2 c2'] 54)) 30 9 5 Try.underlying30 Try.underlying5 Try.underlying9 B A n c d (h1.below hba.out hB)
 have C2:=conv_run (P:=Try.prog) ((w.alloc (.cells #[.int .i64 k,.int .i64 id,.int .i64 off,.int .i64 a,.int .i64 b,.int .i64 no,.bool fin,.slice A n c,.slice A2 n2 c2] 54)).alloc (.cells #[.int .i64 k,.int .i64 id,.int .i64 off,.int .i64 a,.int .i64 b,.int .i64 no',.bool fin,.slice A' n c',.slice A2' n2 c2'] 54)) 30 9 5 Try.underlying30 Try.underlying5 Try.underlying9 B' A' n c' d (h2.below hba.out hB')
 have HX:=Lib.hid h3
 have HY:=Lib.hid h4
 have HBB:=Lib.hid (And.intro hB hB')
 have l1:Hid (es.length=n2 * 2):=by have:=h3.1;rw [ints_len] at this;exact this
 have k1:Hid (((w.alloc (.cells #[.int .i64 k,.int .i64 id,.int .i64 off,.int .i64 a,.int .i64 b,.int .i64 no,.bool fin,.slice A n c,.slice A2 n2 c2] 54)).alloc (.cells #[.int .i64 k,.int .i64 id,.int .i64 off,.int .i64 a,.int .i64 b,.int .i64 no',.bool fin,.slice A' n c',.slice A2' n2 c2'] 54)).heap[w.heap.size]?=some (.cells #[.int .i64 k,.int .i64 id,.int .i64 off,.int .i64 a,.int .i64 b,.int .i64 no,.bool fin,.slice A n c,.slice A2 n2 c2] 54 (0,0))):=by
  show _=_
  rw [((Below.refl (w.heap.size+1) (w.alloc (.cells #[.int .i64 k,.int .i64 id,.int .i64 off,.int .i64 a,.int .i64 b,.int .i64 no,.bool fin,.slice A n c,.slice A2 n2 c2] 54))).alloc (by simp) (.cells #[.int .i64 k,.int .i64 id,.int .i64 off,.int .i64 a,.int .i64 b,.int .i64 no',.bool fin,.slice A' n c',.slice A2' n2 c2'] 54)).block w.heap.size (by omega)]
  exact heap_alloc_new _ _
 have k2:Hid (((w.alloc (.cells #[.int .i64 k,.int .i64 id,.int .i64 off,.int .i64 a,.int .i64 b,.int .i64 no,.bool fin,.slice A n c,.slice A2 n2 c2] 54)).alloc (.cells #[.int .i64 k,.int .i64 id,.int .i64 off,.int .i64 a,.int .i64 b,.int .i64 no',.bool fin,.slice A' n c',.slice A2' n2 c2'] 54)).heap[w.heap.size+1]?=some (.cells #[.int .i64 k,.int .i64 id,.int .i64 off,.int .i64 a,.int .i64 b,.int .i64 no',.bool fin,.slice A' n c',.slice A2' n2 c2'] 54 (0,0))):=by
  show _=_
  have:=heap_alloc_new (w.alloc (.cells #[.int .i64 k,.int .i64 id,.int .i64 off,.int .i64 a,.int .i64 b,.int .i64 no,.bool fin,.slice A n c,.slice A2 n2 c2] 54)) (.cells #[.int .i64 k,.int .i64 id,.int .i64 off,.int .i64 a,.int .i64 b,.int .i64 no',.bool fin,.slice A' n c',.slice A2' n2 c2'] 54)
  simpa using this
 have hff:(fin == fin)=true:=by cases fin <;> rfl
 have hmI1:(n2:Int)≤17592186044416:=by omega
 have hcI1:(n2:Int)≤(c2:Int):=by omega
 have hcI2:(n2:Int)≤(c2':Int):=by omega
 clear h1 h2 h3 h4 hB hB' hm hc1 hc2
 go_enter Try.func20,Try.ntmps20
 go_wp2_with fail
 obtain ⟨W2,hW2⟩:∃ W2,(w.alloc (.cells #[.int .i64 k,.int .i64 id,.int .i64 off,.int .i64 a,.int .i64 b,.int .i64 no,.bool fin,.slice A n c,.slice A2 n2 c2] 54)).alloc (.cells #[.int .i64 k,.int .i64 id,.int .i64 off,.int .i64 a,.int .i64 b,.int .i64 no',.bool fin,.slice A' n c',.slice A2' n2 c2'] 54)=W2:=⟨_,rfl⟩
 rw [hW2] at hba k1 k2 ⊢
 clear C1 C2 hW2
 go_loopw [5] (fun i wr=>∃ k:Nat,k≤n2∧i=.int .i64 k∧Hid (Below W2.heap.size W2 wr)) (fun i _=>n2 - (intOf i).toNat)
 case atStart=>exact ⟨0,Nat.zero_le _,rfl,Below.refl _ _⟩
 case round =>
  obtain ⟨q,hq,rfl,HK⟩:=hrel
  have HKW:Hid (Below w.heap.size w wr):=hba.out.trans (HK.out.mono hba.out.size)
  have f1:wr.heap[w.heap.size]?=some (.cells #[.int .i64 k,.int .i64 id,.int .i64 off,.int .i64 a,.int .i64 b,.int .i64 no,.bool fin,.slice A n c,.slice A2 n2 c2] 54 (0,0)):=(HK.out.block _ (Array.getElem?_eq_some_iff.1 k1.out).1).trans k1.out
  have f2:wr.heap[w.heap.size+1]?=some (.cells #[.int .i64 k,.int .i64 id,.int .i64 off,.int .i64 a,.int .i64 b,.int .i64 no',.bool fin,.slice A' n c',.slice A2' n2 c2'] 54 (0,0)):=(HK.out.block _ (Array.getElem?_eq_some_iff.1 k2.out).1).trans k2.out
  have y8:=cell_of_row wr w.heap.size 8 _ _ _ f1
  have z8:=cell_of_row wr (w.heap.size+1) 8 _ _ _ f2
  clear f1 f2
  by_cases hlt:q<n2
  ·have hlti:(q:Int)<(n2:Int):=by omega
   obtain ⟨b1,off1,hA1,hbn1,hcs1⟩:=HX.out.2 (by omega)
   subst hA1
   obtain ⟨b2,off2,hA2,hbn2,hcs2⟩:=HY.out.2 (by omega)
   subst hA2
   obtain ⟨hB,hB'⟩:=HBB.out
   have q1:2 * q+1<es.length:=by have:=l1.out;omega
   obtain ⟨x1,hx1⟩:∃ x,Hid (es.getD (2 * q) 0=x):=⟨_,rfl⟩
   obtain ⟨y1,hy1⟩:∃ x,Hid (es.getD (2 * q+1) 0=x):=⟨_,rfl⟩
   have e1:wr.cell? ⟨b1,off1+q * 2,none⟩=some (.int .i64 x1):=by
    rw [HKW.out.cell (p:=⟨b1,off1+q * 2,none⟩) (Nat.lt_of_lt_of_le hbn1 hB),show off1+q * 2=off1+2 * q by omega,hcs1 (2 * q) _ (ints_get _ _ (by omega)),hx1.out]
   have e2:wr.cell? ⟨b1,off1+q * 2+1,none⟩=some (.int .i64 y1):=by
    rw [HKW.out.cell (p:=⟨b1,off1+q * 2+1,none⟩) (Nat.lt_of_lt_of_le hbn1 hB),show off1+q * 2+1=off1+(2 * q+1) by omega,hcs1 (2 * q+1) _ (ints_get _ _ (by omega)),hy1.out]
   have e3:wr.cell? ⟨b2,off2+q * 2,none⟩=some (.int .i64 x1):=by
    rw [HKW.out.cell (p:=⟨b2,off2+q * 2,none⟩) (Nat.lt_of_lt_of_le hbn2 hB'),show off2+q * 2=off2+2 * q by omega,hcs2 (2 * q) _ (ints_get _ _ (by omega)),hx1.out]
   have e4:wr.cell? ⟨b2,off2+q * 2+1,none⟩=some (.int .i64 y1):=by
    rw [HKW.out.cell (p:=⟨b2,off2+q * 2+1,none⟩) (Nat.lt_of_lt_of_le hbn2 hB'),show off2+q * 2+1=off2+(2 * q+1) by omega,hcs2 (2 * q+1) _ (ints_get _ _ (by omega)),hy1.out]
   clear hcs1 hcs2 hB hB' hbn1 hbn2
   have hguard:=Try.eqGuardType88
   have heq:=fun W=>eq2 x1 y1 W
   go_wp2_with fail
   go_quiet (fail)
   go_wp2_with fail
   go_roundw
   case rel=>exact ⟨q+1,by omega,by go_num,below_drewN HK.out _⟩
   case measure=>simp [intOf];omega
  ·have hlti:¬ (q:Int)<(n2:Int):=by omega
   obtain rfl:q=n2:=by omega
   go_wp2_with fail
   go_ret
   exact ⟨rfl,HKW.out⟩
end Go.Proofs.Ytoahkffdoaphlaa.Sq
