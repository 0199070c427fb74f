/- The hand's Pick, Num and May; the reference's May. Conditions: the numbers fit their kinds. -/
import Derived.Test.YtlaopkkfgkcejaaProg
import Derived.WalkKit
import Derived.Lib.Hide
import Derived.IntWalk
set_option linter.unusedSimpArgs false
set_option linter.unusedVariables false

namespace Go.Proofs.Ytlaopkkfgkcejaa
open Go Go.RowKit

theorem ret_int {k : IntKind} {a b : Int} (h : a = b) : Ending.returned (.int k a) = .returned (.int k b) := by rw [h]

theorem pick_neg (n m : Int) (hm : 0 < m) (hm2 : m ≤ 9223372036854775807) (h : n.tmod m < 0) : wrap64 (n.tmod m + m) = n % m := by
  have h0 := Int.emod_nonneg n (show m ≠ 0 by omega)
  have h1 := Int.emod_lt_of_pos n hm
  have h2 : n.tmod m + m = n % m := by
    have e := Int.tmod_eq_emod (a := n) (b := m)
    split at e
    · omega
    · have : (m.natAbs : Int) = m := by omega
      omega
  rw [h2]
  exact IntWalk.wrap64_in _ (by omega)

theorem pick_pos (n m : Int) (hm : 0 < m) (h : ¬ n.tmod m < 0) : n.tmod m = n % m := by
  have h1 := Int.emod_lt_of_pos n hm
  have e := Int.tmod_eq_emod (a := n) (b := m)
  split at e
  · omega
  · have : (m.natAbs : Int) = m := by omega
    omega

set_option maxHeartbeats 400000 in
theorem pick_any (n m : Int) (w : World) (hm : 0 < m) (hm2 : m ≤ 9223372036854775807) :
    Calls Try.prog 13 #[.int .i64 n, .int .i64 m] w fun e w' => e = .returned (.int .i64 (n % m)) ∧ w = w' := by
  have hmz : (m == 0) = false := by simp; omega
  by_cases h : n.tmod m < 0
  · have hp := Lib.hid (pick_neg n m hm hm2 h)
    go_enter Try.func13, Try.ntmps13
    go_wp2
    go_ret
    exact ⟨ret_int hp.out, rfl⟩
  · have hp := Lib.hid (pick_pos n m hm h)
    go_enter Try.func13, Try.ntmps13
    go_wp2
    go_ret
    exact ⟨ret_int hp.out, rfl⟩

def mayB (n : Int) : Bool := decide (0 ≤ n) && decide (n ≤ 4611686018427387903)

theorem div9 (n : Int) (h1 : -9223372036854775808 ≤ n) (h2 : n ≤ 9223372036854775807) : wrap64 (n.tdiv 9) = n.tdiv 9 := by
  have e : n.tdiv 9 = if 0 ≤ n then n / 9 else -(-n / 9) := by
    split
    · exact Int.tdiv_eq_ediv_of_nonneg (by assumption)
    · rw [← Int.neg_neg n, Int.neg_tdiv, Int.tdiv_eq_ediv_of_nonneg (by omega), Int.neg_neg]
  rw [e]
  exact IntWalk.wrap64_in _ (by split <;> omega)

/-- What Num tells. -/
def numF (n : Int) : Int :=
  let k := n.tdiv 9 % 3 - 1
  if n % 9 = 0 then 64 + k else if n % 9 = 1 then 16384 + k else if n % 9 = 2 then 1073741824 + k else if n % 9 = 3 then 4611686018427387903 + k else if n % 9 = 4 then n else n.tdiv 9 % 500

def mayF (n : Int) : Int := if mayB (numF n) = true then numF n else n % 1048576

theorem mayF_in (n : Int) : 0 ≤ mayF n ∧ mayF n ≤ 4611686018427387903 := by
  unfold mayF
  split
  · rename_i h
    simp only [mayB, Bool.and_eq_true, decide_eq_true_eq] at h
    exact h
  · omega

end Go.Proofs.Ytlaopkkfgkcejaa
