/- Joined texts. Conditions: as each theorem lists them. -/
import Derived.Test.YtoahkffdoaphlaaJYg
import Derived.Test.YtoahkffdoaphlaaJYc
import Derived.Test.YtoahkffdoaphlaaJYd
import Derived.Test.YtoahkffdoaphlaaJWm
import Derived.Test.YtoahkffdoaphlaaJQt
set_option linter.unusedSimpArgs false
set_option linter.unusedVariables false
set_option maxRecDepth 100000
set_option maxHeartbeats 80000000
namespace Go.Proofs.Ytoahkffdoaphlaa.Se
open Go Go.RowKit Go.Proofs.Ytoahkffdoaphlaa Go.Proofs.Ytoahkffdoaphlaa.Sp Go.Proofs.Ytoahkffdoaphlaa.Sp.Ref
structure SendI (w wr:World) (p q j:Nat) (v:Value) (F:List Nat) (v3 v4 v5:Value) (G:List Nat) (u1 u8 u9:Value) (s r:St) (l:List Fv):Prop where
 st:StIn wr p F v3 v4 v5 s
 rf:RIn wr q G u1 u8 u9 r
 dis:∀ k ∈ F,k ∉ G
 row:FRow wr w.heap.size F v l
 rowG:∀ k ∈ fp v,k ∉ G
 len:l.length≤j
 low:Below w.heap.size w wr
 lo:∀ k ∈ F,w.heap.size≤k
 loG:∀ k ∈ G,w.heap.size≤k
section
variable {w wr w':World} {p q j:Nat} {v v':Value} {F:List Nat} {v3 v4 v5:Value} {G:List Nat} {u1 u8 u9:Value} {s s' r r':St} {l:List Fv}
theorem SendI.stepP (h:SendI w wr p q j v F v3 v4 v5 G u1 u8 u9 s r l) (ht:StTo wr w' p F s'):∃ F' a b c,SendI w w' p q j v F' a b c G u1 u8 u9 s' r l:=by
 obtain ⟨F',a,b,c,g1,g2,g3,g4,g5⟩:=ht.rest h.lo h.low.size
 refine ⟨F',a,b,c,g1,h.rf.kept g2 fun k hk hm=>h.dis k hm hk,fun k hk hm=>?_,h.row.kept g2 g3,h.rowG,h.len,h.low.trans g5,g4,h.loG⟩
 rcases g3 k hk with hx | hx
 ·exact h.dis k hx hm
 ·have:=h.rf.hG k hm;omega
theorem SendI.stepR (h:SendI w wr p q j v F v3 v4 v5 G u1 u8 u9 s r l) (ht:RTo wr w' q G r'):∃ G' a b c,SendI w w' p q j v F v3 v4 v5 G' a b c s r' l:=by
 obtain ⟨G',a,b,c,g1,g2,g3⟩:=ht
 have hqF:q ∉ F:=fun hm=>h.dis q hm h.rf.pG
 have hqv:q ∉ fp v:=fun hm=>h.rowG q hm h.rf.pG
 refine ⟨G',a,b,c,h.st.kept g2 (fun k hk hm=>by simp at hm;exact hqF (hm ▸ hk)),g1,fun k hk hm=>?_,⟨own_kept h.row.1 g2 (fun k hk hm=>by simp at hm;exact hqv (hm ▸ hk)),h.row.2.1,h.row.2.2⟩,fun k hk hm=>?_,h.len,h.low.trans (g2.below h.low.size (fun k hk=>by simp at hk;exact hk ▸ h.loG q h.rf.pG)),h.lo,fun k hk=>?_⟩
 ·rcases g3 k hm with hx | hx
  ·exact h.dis k hk hx
  ·have:=h.st.hF k hk;omega
 ·rcases g3 k hm with hx | hx
  ·exact h.rowG k hk hx
  ·have:=(h.row.1.lt k (fp_own.1 hk)).2;omega
 ·rcases g3 k hk with hx | hx
  ·exact h.loG k hx
  ·exact Nat.le_trans h.low.size hx
theorem SendI.below (h:SendI w wr p q j v F v3 v4 v5 G u1 u8 u9 s r l) (hb:Below wr.heap.size wr w'):SendI w w' p q j v F v3 v4 v5 G u1 u8 u9 s r l :=
 ⟨h.st.below hb,h.rf.below hb,h.dis,h.row.below hb,h.rowG,h.len,h.low.trans (hb.mono h.low.size),h.lo,h.loG⟩
theorem SendI.succ (h:SendI w wr p q j v F v3 v4 v5 G u1 u8 u9 s r l):SendI w wr p q (j+1) v F v3 v4 v5 G u1 u8 u9 s r l :=
 ⟨h.st,h.rf,h.dis,h.row,h.rowG,Nat.le_succ_of_le h.len,h.low,h.lo,h.loG⟩
theorem SendI.push {f:Fv} (h:SendI w wr p q j v F v3 v4 v5 G u1 u8 u9 s r l) (hg:wr.grownBy w' v.ownBlock) (ho:w'.ownsRow w.heap.size 54 9 v' (l.length+1) (fvs l ++ f.cells)) (hn:∀ k ∈ fp v',k ∈ fp v∨k=wr.heap.size) (hf:f.ok):SendI w w' p q (j+1) v' F v3 v4 v5 G u1 u8 u9 s r (l ++ [f]):=by
 have hk:Kept (fp v) wr w':=⟨hg.os,hg.tape,hg.output,hg.size,fun k hk hm=>hg.block k hk fun e=>hm (fp_own.2 e.symm)⟩
 refine ⟨h.st.kept hk fun k hk' hm=>h.row.2.1 k hm hk',h.rf.kept hk fun k hk' hm=>h.rowG k hm hk',h.dis,⟨?_,fun k hk' hm=>?_,fun x hx=>?_⟩,fun k hk' hm=>?_,?_,h.low.grown hg h.low.size (fun k hk'=>(h.row.1.lt k hk').1),h.lo,h.loG⟩
 ·rw [fvs_app,fvs_one,List.length_append];exact ho
 ·rcases hn k hk' with hx | hx
  ·exact h.row.2.1 k hx hm
  ·have:=h.st.hF k hm;omega
 ·simp only [List.mem_append,List.mem_cons,List.not_mem_nil,or_false] at hx
  rcases hx with hx | rfl
  ·exact h.row.2.2 x hx
  ·exact hf
 ·rcases hn k hk' with hx | hx
  ·exact h.rowG k hx hm
  ·have:=h.rf.hG k hm;omega
 ·have:=h.len;rw [List.length_append];show l.length+1≤_;omega
/-- Both Nexts tell the same: the program's, told in one form (Next1), meets the reference's. -/
theorem next_meet {w1 w2 w3:World} {room most:Int} {e:Ending} {P Q:List Nat} (h:NextP s room most w1 p P e w2) {e':Ending} (h':RNextP s room most w2 q Q e' w3) :
  (nextS s room most=none∧e=.returned (.tuple #[.agg #[.int .i64 0,.int .i64 0,.int .i64 0,.int .i64 0,.int .i64 0,.int .i64 0,.bool false,.slice none 0 0,.slice none 0 0],.int .i64 0,.bool false])∧e'=e∧RTo w2 w3 q Q s) ∨
  (∃ (a n:Nat) (fin:Bool) (fresh:Int) (A A':Option Addr) (c c':Nat),NextI s room most a n fin fresh ∧
   e=.returned (.tuple #[.agg #[.int .i64 3,.int .i64 s.id,.int .i64 (a:Int),.int .i64 0,.int .i64 0,.int .i64 0,.bool fin,.slice A n c,.slice none 0 0],.int .i64 fresh,.bool true]) ∧
   e'=.returned (.tuple #[.agg #[.int .i64 3,.int .i64 s.id,.int .i64 (a:Int),.int .i64 0,.int .i64 0,.int .i64 0,.bool fin,.slice A' n c',.slice none 0 0],.int .i64 fresh,.bool true]) ∧
   RTo w2 w3 q Q (putS s a n fin fresh)∧Rd w3 w3.heap.size A' n (bv ((s.bs.drop a).take n))):=by
 rcases h with ⟨h1,h2,_⟩ | ⟨a,n,fin,fresh,A,c,F',a3,a4,a5,h1,h2,_⟩
 ·rcases h' with ⟨_,g2,g3⟩ | ⟨a,n,fin,fresh,A,c,g1,_⟩
  ·exact .inl ⟨h1,h2,by rw [g2,h2],g3⟩
  ·rw [next_of g1] at h1;cases h1
 ·rcases h' with ⟨g1,_⟩ | ⟨a',n',fin',fresh',A',c',g1,g2,g3,g4⟩
  ·rw [next_of h1] at g1;cases g1
  ·have e1:=next_of h1
   rw [next_of g1] at e1
   have e2:=congrArg (fun o=>o.map (·.1)) e1
   simp only [Option.map_some,Option.some.injEq] at e2
   have ha:(a':Int)=(a:Int):=congrArg Fd.off e2
   have hn:(n':Int)=(n:Int):=congrArg Fd.n e2
   have hf:fin'=fin:=congrArg Fd.fin e2
   have hr:fresh'=fresh:=congrArg Fd.fresh e2
   obtain rfl:a'=a:=by omega
   obtain rfl:n'=n:=by omega
   subst hf hr
   exact .inr ⟨a',n',fin',fresh',A,A',c,c',h1,h2,g2,g3,g4⟩
end
end Go.Proofs.Ytoahkffdoaphlaa.Se
