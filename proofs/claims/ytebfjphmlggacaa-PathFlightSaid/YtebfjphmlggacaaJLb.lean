/- The ledger's small calls: Next, Acked, Flight, whatever, aged, trim. Conditions: as each theorem lists them. -/
import Derived.Test.YtebfjphmlggacaaJLa
set_option linter.unusedSimpArgs false
set_option linter.unusedVariables false

namespace Go.Proofs.Ytebfjphmlggacaa.Ld
open Go Go.RowKit Go.Proofs.Ytebfjphmlggacaa Go.Proofs.Ytebfjphmlggacaa.Sp

section
variable {w : World} {lo hi p o : Nat} {T : TypeId} {cur : Array Value} {os : List (Option Pk)} {fl next behind : Nat}
theorem next_any (h : LedIn w lo hi p o T cur os fl next behind) :
    Calls Try.prog 14 #[.pointer (some ⟨p, o, none⟩)] w fun e w' => e = .returned (.int .i64 (next : Int)) ∧ w = w' := by
  have hc := h.cell.1
  clear h
  go_enter Try.func14, Try.ntmps14
  go_wp2
  go_ret
  exact ⟨rfl, rfl⟩
theorem flight_any (h : LedIn w lo hi p o T cur os fl next behind) :
    Calls Try.prog 19 #[.pointer (some ⟨p, o, none⟩)] w fun e w' => e = .returned (.int .i64 (fl : Int)) ∧ w = w' := by
  have hc := h.cell.2.2
  clear h
  go_enter Try.func19, Try.ntmps19
  go_wp2
  go_ret
  exact ⟨rfl, rfl⟩
theorem acked_any (h : LedIn w lo hi p o T cur os fl next behind) (hn : next ≤ 4611686018427387904) :
    Calls Try.prog 13 #[.pointer (some ⟨p, o, none⟩)] w fun e w' => e = .returned (.int .i64 ((behind : Int) - 1)) ∧ w = w' := by
  have hc := h.cell.2.1
  have hb : (behind : Int) ≤ 4611686018427387904 := by have := h.beh; omega
  clear h
  go_enter Try.func13, Try.ntmps13
  go_wp2
  go_ret
  exact ⟨rfl, rfl⟩
end

theorem whatever_any (v : Value) (w : World) : Calls Try.prog 44 #[v] w fun e w' => e = .returned (.bool true) ∧ w = w' := by
  go_enter Try.func44, Try.ntmps44
  go_wp2
  go_ret
  exact ⟨rfl, rfl⟩

theorem aged_any (a n l : Int) (w : World) (ha : -9223372036854775808 ≤ a ∧ a ≤ 9223372036854775807) (hn : -9223372036854775808 ≤ n ∧ n ≤ 9223372036854775807) (hl : -9223372036854775808 ≤ l ∧ l ≤ 9223372036854775807) :
    Calls Try.prog 50 #[.int .i64 a, .int .i64 n, .int .i64 l] w fun e w' => e = .returned (.bool (decide (a ≤ n - l))) ∧ w = w' := by
  obtain ⟨ha1, ha2⟩ := ha
  obtain ⟨hn1, hn2⟩ := hn
  obtain ⟨hl1, hl2⟩ := hl
  by_cases h0 : l < 0
  · by_cases h1 : 9223372036854775807 + l < n
    · have hr : Hid (decide (a ≤ n - l) = true) := by show _ = _; simp; omega
      rw [hr.out]
      go_enter Try.func50, Try.ntmps50
      go_wp2
      go_ret
      exact ⟨rfl, rfl⟩
    · by_cases h2 : a ≤ n - l
      · have hr : Hid (decide (a ≤ n - l) = true) := by show _ = _; simp; omega
        rw [hr.out]
        go_enter Try.func50, Try.ntmps50
        go_wp2
        go_ret
        exact ⟨rfl, rfl⟩
      · have hr : Hid (decide (a ≤ n - l) = false) := by show _ = _; simp; omega
        rw [hr.out]
        go_enter Try.func50, Try.ntmps50
        go_wp2
        go_ret
        exact ⟨rfl, rfl⟩
  · by_cases h1 : -9223372036854775808 + l ≤ n
    · by_cases h2 : a ≤ n - l
      · have hr : Hid (decide (a ≤ n - l) = true) := by show _ = _; simp; omega
        rw [hr.out]
        go_enter Try.func50, Try.ntmps50
        go_wp2
        go_ret
        exact ⟨rfl, rfl⟩
      · have hr : Hid (decide (a ≤ n - l) = false) := by show _ = _; simp; omega
        rw [hr.out]
        go_enter Try.func50, Try.ntmps50
        go_wp2
        go_ret
        exact ⟨rfl, rfl⟩
    · have hr : Hid (decide (a ≤ n - l) = false) := by show _ = _; simp; omega
      rw [hr.out]
      go_enter Try.func50, Try.ntmps50
      go_wp2
      go_ret
      exact ⟨rfl, rfl⟩
end Go.Proofs.Ytebfjphmlggacaa.Ld
