/- Joined texts. Conditions: as each theorem lists them. -/
import Derived.Test.YtoahkffdoaphlaaJWk
import Derived.Test.YtoahkffdoaphlaaJWi
import Derived.Test.YtoahkffdoaphlaaJWo
import Derived.Test.YtoahkffdoaphlaaJSnKn
set_option linter.unusedSimpArgs false
set_option linter.unusedVariables false
set_option maxRecDepth 100000
set_option maxHeartbeats 80000000
namespace Go.Proofs.Ytoahkffdoaphlaa.Se
open Go Go.RowKit Go.Proofs.Ytoahkffdoaphlaa Go.Proofs.Ytoahkffdoaphlaa.Sp Go.Proofs.Ytoahkffdoaphlaa.Sp.Ref
theorem StTo.rest {W W':World} {p lo:Nat} {F:List Nat} {s':St} (ht:StTo W W' p F s') (hF:∀ k ∈ F,lo≤k) (hlo:lo≤W.heap.size):∃ F' a b c,StIn W' p F' a b c s'∧Kept F W W'∧(∀ k ∈ F',k ∈ F∨W.heap.size≤k)∧(∀ k ∈ F',lo≤k)∧Below lo W W':=by
 obtain ⟨F',a,b,c,h1,h2,h3⟩:=ht
 exact ⟨F',a,b,c,h1,h2,h3,fun k hk=>(h3 k hk).elim (hF k) (fun h=>Nat.le_trans hlo h),h2.below hlo hF⟩
/-- What SendFresh holds at each call. -/
structure FreshI (w wr:World) (p n j:Nat) (v:Value) (F:List Nat) (v3 v4 v5:Value) (s:St) (l:List Fv):Prop where
 st:StIn wr p F v3 v4 v5 s
 ok:StOk s
 fd:s.fd=false
 rs:s.rs=false
 n:s.bs.length=n
 row:FRow wr w.heap.size F v l
 len:l.length≤j
 low:Below w.heap.size w wr
 lo:∀ k ∈ F,w.heap.size≤k
theorem FreshI.step {w wr w':World} {p n j:Nat} {v:Value} {F:List Nat} {v3 v4 v5:Value} {s s':St} {l:List Fv} (h:FreshI w wr p n j v F v3 v4 v5 s l) (ht:StTo wr w' p F s') (hok:StOk s') (h1:s'.fd=false) (h2:s'.rs=false) (h3:s'.bs=s.bs):∃ F' a b c,FreshI w w' p n j v F' a b c s' l:=by
 obtain ⟨F',a,b,c,g1,g2,g3,g4,g5⟩:=ht.rest h.lo h.low.size
 exact ⟨F',a,b,c,g1,hok,h1,h2,by rw [h3];exact h.n,h.row.kept g2 g3,h.len,h.low.trans g5,g4⟩
theorem FreshI.below {w wr w':World} {p n j:Nat} {v:Value} {F:List Nat} {v3 v4 v5:Value} {s:St} {l:List Fv} (h:FreshI w wr p n j v F v3 v4 v5 s l) (hb:Below wr.heap.size wr w'):FreshI w w' p n j v F v3 v4 v5 s l :=
 ⟨h.st.below hb,h.ok,h.fd,h.rs,h.n,h.row.below hb,h.len,h.low.trans (hb.mono h.low.size),h.lo⟩
theorem FreshI.succ {w wr:World} {p n j:Nat} {v:Value} {F:List Nat} {v3 v4 v5:Value} {s:St} {l:List Fv} (h:FreshI w wr p n j v F v3 v4 v5 s l):FreshI w wr p n (j+1) v F v3 v4 v5 s l :=
 ⟨h.st,h.ok,h.fd,h.rs,h.n,h.row,Nat.le_succ_of_le h.len,h.low,h.lo⟩
theorem FreshI.push {w wr w':World} {p n j:Nat} {v v':Value} {F:List Nat} {v3 v4 v5:Value} {s:St} {l:List Fv} {f:Fv} (h:FreshI w wr p n j v F v3 v4 v5 s l) (hg:wr.grownBy w' v.ownBlock) (ho:w'.ownsRow w.heap.size 54 9 v' (l.length+1) (fvs l ++ f.cells)) (hn:∀ k ∈ fp v',k ∈ fp v∨k=wr.heap.size) (hf:f.ok):FreshI w w' p n (j+1) v' F v3 v4 v5 s (l ++ [f]):=by
 have hk:Kept (fp v) wr w':=⟨hg.os,hg.tape,hg.output,hg.size,fun k hk hm=>hg.block k hk fun e=>hm (fp_own.2 e.symm)⟩
 refine ⟨h.st.kept hk fun k hk' hm=>h.row.2.1 k hm hk',h.ok,h.fd,h.rs,h.n,⟨?_,fun k hk' hm=>?_,fun x hx=>?_⟩,?_,h.low.grown hg h.low.size (fun k hk'=>(h.row.1.lt k hk').1),h.lo⟩
 ·rw [fvs_app,fvs_one,List.length_append];exact ho
 ·rcases hn k hk' with hx | hx
  ·exact h.row.2.1 k hx hm
  ·have:=h.st.hF k hm;omega
 ·simp only [List.mem_append,List.mem_cons,List.not_mem_nil,or_false] at hx
  rcases hx with hx | rfl
  ·exact h.row.2.2 x hx
  ·exact hf
 ·have:=h.len;rw [List.length_append];show l.length+1≤_;omega
theorem below_dn {B:Nat} {w w1:World} (h:Below B w w1) (m:Nat):Below B w (w1.drewN m):=⟨h.os,h.tape,h.output,h.size,h.block⟩
end Go.Proofs.Ytoahkffdoaphlaa.Se
