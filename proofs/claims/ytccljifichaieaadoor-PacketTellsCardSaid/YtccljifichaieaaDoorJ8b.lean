/- Joined texts. Conditions: as each theorem lists them. -/
import Derived.Test.YtccljifichaieaaDoorJ7
import Derived.Laws.StructEq
import Derived.ChangeKeysEq
import Derived.BigQuiet
import Derived.Test.YtccljifichaieaaDoorJ5
set_option linter.unusedSimpArgs false
set_option linter.unusedVariables false
set_option maxRecDepth 100000
set_option maxHeartbeats 8000000
namespace Go.Proofs.YtccljifichaieaaDoor
open Go Go.RowKit
theorem below_drewN {B:Nat} {w w1:World} (h:Below B w w1) (m:Nat):Below B w (w1.drewN m):=⟨h.os,h.tape,h.output,h.size,h.block⟩
theorem eq2 (x1 y1:Int) (w:World):(Op.equalIn 10000 67 (.agg #[.int .i64 x1,.int .i64 y1]) (.agg #[.int .i64 x1,.int .i64 y1])).run Tryd.prog w=.ok true w:=by
 obtain ⟨i,hi,_⟩:=info_parts infoInt
 have hc:Tryd.prog.cellsOf 3=1:=by kernel_rfl
 have u3:=Tryd.underlying3
 have a3:=Tryd.isAgg3
 have z3:=Tryd.sizeOf3
 rw [show (10000:Nat)=9999+1 from rfl,run_equalIn_array w 9999 _ _ Tryd.underlying67 hi,hc,show List.range 2=[0,1] from rfl]
 simp only [Op.eqItems]
 go_simp
end Go.Proofs.YtccljifichaieaaDoor
namespace Go.Proofs.YtccljifichaieaaDoor
open Go Go.RowKit
theorem FrC.parts {w:World} {f:Fr} {A1:Option Addr} {n1 c1:Nat} {A2:Option Addr} {n2 c2:Nat} (h:FrC w f (frC f (.slice A1 n1 c1) (.slice A2 n2 c2))):f.data.length=n1∧f.spans.length=n2 * 2∧n2≤c2∧Rd w w.heap.size A1 n1 (bv f.data)∧Rd w w.heap.size A2 (n2 * 2) (ints f.spans):=by
 obtain ⟨_,_,_,_,_,_,e,l1,l2,o1,o2⟩:=h
 simp only [frC,List.cons.injEq,Value.slice.injEq,true_and,and_true] at e
 obtain ⟨⟨rfl,rfl,rfl⟩,rfl,rfl,rfl⟩:=e
 obtain ⟨_,_,ev,_,_,_,r1⟩:=own_form o1
 simp only [Value.slice.injEq] at ev
 obtain ⟨rfl,_,rfl⟩:=ev
 obtain ⟨_,_,ev,hc2,_,_,r2⟩:=own_form o2
 simp only [Value.slice.injEq] at ev
 obtain ⟨rfl,_,rfl⟩:=ev
 rw [Nat.mul_one] at r1
 exact ⟨l1,l2,hc2,r1,r2⟩
theorem bare_inj {f g:Fr} (h:bare f=bare g):g.k=f.k∧g.id=f.id∧g.off=f.off∧g.a=f.a∧g.b=f.b∧g.fin=f.fin∧g.data=f.data∧g.spans=f.spans:=by
 unfold bare at h
 simp only [Fr.mk.injEq] at h
 obtain ⟨h1,h2,h3,h4,h5,_,h6,h7,h8⟩:=h
 exact ⟨h1.symm,h2.symm,h3.symm,h4.symm,h5.symm,h6.symm,h7.symm,h8.symm⟩
end Go.Proofs.YtccljifichaieaaDoor
