/- odd, within: contracts. Conditions: as each theorem lists them. -/
import Derived.Test.YtoglpjgmnojdjaaM2
import Derived.Test.YtoglpjgmnojdjaaH1
set_option linter.unusedSimpArgs false
set_option linter.unusedVariables false
namespace Go.Proofs.Ytoglpjgmnojdjaa
open Go Go.RowKit

set_option maxHeartbeats 400000 in
theorem odd_any (k : Nat) (w : World) (hk : k ≤ 9223372036854775807) :
    Calls Try.prog 43 #[.int .i64 (k : Int)] w fun e w' => e = .returned (.bool (oddB k)) ∧ w = w' := by
  cases ho : oddB k with
  | true =>
    have h : (((k : Int) % 2) == 1) = true := by unfold oddB at ho; simp at ho ⊢; omega
    clear ho
    go_enter Try.func43, Try.ntmps43
    go_wp2
    go_ret
    exact ⟨rfl, rfl⟩
  | false =>
    have h : (((k : Int) % 2) == 1) = false := by unfold oddB at ho; simp at ho ⊢; omega
    clear ho
    go_enter Try.func43, Try.ntmps43
    go_wp2
    go_ret
    exact ⟨rfl, rfl⟩

set_option maxHeartbeats 400000 in
theorem within_any (n : Int) (w : World) :
    Calls Try.prog 46 #[.int .i64 n] w fun e w' => e = .returned (.int .i64 (clamp n)) ∧ w = w' := by
  have hc : n < 0 ∨ (0 ≤ n ∧ n ≤ 4611686018427387904) ∨ (0 ≤ n ∧ 4611686018427387904 < n) := by omega
  rcases hc with h | ⟨h, h'⟩ | ⟨h, h'⟩
  all_goals
    obtain ⟨m, hm⟩ : ∃ m, Hid (clamp n = m) := ⟨_, rfl⟩
    rw [hm.out]
    go_enter Try.func46, Try.ntmps46
    go_wp2
    all_goals
      go_ret
      refine ⟨ret_int ?_, rfl⟩
      rw [← hm.out]
      unfold clamp
      omega
end Go.Proofs.Ytoglpjgmnojdjaa
