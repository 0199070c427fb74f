/- The reference's names of a kind: a contract. Conditions: as the theorem lists them. -/
import Derived.Test.YtkphmgfjlbdpgaaDoorJRv
import Derived.Test.YtkphmgfjlbdpgaaDoorJ5b
import Derived.Laws.Rows
set_option linter.unusedSimpArgs false
set_option linter.unusedVariables false

namespace Go.Proofs.YtkphmgfjlbdpgaaDoor
open Go Go.RowKit

/-- What a kind names, in the reference's order: ID, Off, A, B, Fin, Data, Spans. -/
def rnA (k : Int) : Array Value := #[.bool (decide (k = 3 ∨ k = 4 ∨ k = 5 ∨ k = 7 ∨ k = 10 ∨ k = 11)), .bool (decide (k = 3 ∨ k = 4)), .bool (decide (k = 4 ∨ k = 5 ∨ k = 7 ∨ k = 6 ∨ k = 12 ∨ k = 8)), .bool (decide (k = 4)), .bool (decide (k = 3 ∨ k = 8)), .bool (decide (k = 3 ∨ k = 9)), .bool (decide (k = 2))]

set_option maxRecDepth 100000 in
set_option maxHeartbeats 4000000 in
theorem rnames_any (k : Int) (w : World) (h1 : 1 ≤ k) (h2 : k ≤ 12) :
    Calls Tryd.prog 94 #[.int .i64 k] w fun e w' => e = .returned (.agg (rnA k)) ∧ Below w.heap.size w w' := by
  have hk : k = 1 ∨ k = 2 ∨ k = 3 ∨ k = 4 ∨ k = 5 ∨ k = 6 ∨ k = 7 ∨ k = 8 ∨ k = 9 ∨ k = 10 ∨ k = 11 ∨ k = 12 := by omega
  clear h1 h2
  have FIN : Hid (∀ (W : World), Below W.heap.size W W) := fun W => Below.refl _ _
  rcases hk with rfl | rfl | rfl | rfl | rfl | rfl | rfl | rfl | rfl | rfl | rfl | rfl
  all_goals
    go_enter Tryd.func94, Tryd.ntmps94
    go_wp2
    refine bodyPost_ret (results_cell_row rfl _ _ w.heap.size 101 _ (0, 0) _ rfl (heap_alloc_new _ _) Tryd.underlying101 rfl (by kernel_rfl)) rfl ?_
    exact ⟨rfl, (Below.refl _ _).alloc (Nat.le_refl _) _⟩
end Go.Proofs.YtkphmgfjlbdpgaaDoor
