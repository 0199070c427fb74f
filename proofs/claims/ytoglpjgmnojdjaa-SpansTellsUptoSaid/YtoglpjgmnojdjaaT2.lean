/- The reference's Within, Drop: contracts. Conditions: as each theorem lists them. -/
import Derived.Test.YtoglpjgmnojdjaaT1
import Derived.Test.YtoglpjgmnojdjaaM5
set_option linter.unusedSimpArgs false
set_option linter.unusedVariables false
namespace Go.Proofs.Ytoglpjgmnojdjaa.Ref
open Go Go.RowKit

set_option maxHeartbeats 400000 in
theorem rwithin_any (m : Int) (w : World) :
    Calls Try.prog 41 #[.int .i64 m, .int .i64 0, .int .i64 4611686018427387904] w fun e w' => e = .returned (.int .i64 (clamp m)) ∧ w = w' := by
  have hc : clamp m = min (max m 0) 4611686018427387904 := rfl
  obtain ⟨r, hr⟩ : ∃ r, Hid (clamp m = r) := ⟨_, rfl⟩
  rw [hr.out] at hc ⊢
  have HC := Lib.hid hc
  clear hc
  by_cases h1 : m < 0
  · go_enter Try.func41, Try.ntmps41
    go_wp2
    all_goals go_ret
    all_goals exact ⟨ret_int (by have := HC.out; omega), rfl⟩
  · by_cases h2 : 4611686018427387904 < m
    · go_enter Try.func41, Try.ntmps41
      go_wp2
      all_goals go_ret
      all_goals exact ⟨ret_int (by have := HC.out; omega), rfl⟩
    · go_enter Try.func41, Try.ntmps41
      go_wp2
      all_goals go_ret
      all_goals exact ⟨ret_int (by have := HC.out; omega), rfl⟩
end Go.Proofs.Ytoglpjgmnojdjaa.Ref
