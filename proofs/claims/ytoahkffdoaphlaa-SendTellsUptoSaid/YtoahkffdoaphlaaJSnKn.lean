/- Joined texts. Conditions: as each theorem lists them. -/
import Derived.Test.YtoahkffdoaphlaaJAmT
import Derived.Test.YtoahkffdoaphlaaJLp
import Derived.Test.YtoahkffdoaphlaaRows
set_option linter.unusedSimpArgs false
set_option linter.unusedVariables false
set_option maxRecDepth 100000
set_option maxHeartbeats 80000000
namespace Go.Proofs.Ytoahkffdoaphlaa.SnKn
open Go Go.RowKit Go.ChangeShapes Go.WideShapes Go.ChangeAt
theorem run:(Am.evCall Try.prog 0 100000 8 #[] (Am.St.start 0)).map (·.1)=some (.bool true):=by kernel_rfl
theorem known_any (W:World):Calls Try.prog 8 #[] W fun e w'=>e=.returned (.bool true)∧Below W.heap.size W w':=by
 obtain ⟨⟨v,S'⟩,hr,hv⟩:=Option.map_eq_some_iff.1 run
 simp only at hv
 subst hv
 refine (Am.evCall_ok Try.prog 0 W 100000 _ _ _ _ _ hr _ _ W #[] (Am.Rel.start 0 W (Nat.zero_le _)) rfl (fun i x y hx _=>by simp at hx)).mono ?_
 rintro e w' ⟨u,c',g',rfl,_,hR,hu⟩
 exact ⟨by rw [hu.bool_inv],hR.below⟩
end Go.Proofs.Ytoahkffdoaphlaa.SnKn
