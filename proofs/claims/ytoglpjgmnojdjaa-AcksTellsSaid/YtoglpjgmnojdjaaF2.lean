/- rightNumbers, rightData of package frame: contracts. Conditions: as each theorem lists them. -/
import Derived.Test.YtoglpjgmnojdjaaF1
set_option linter.unusedSimpArgs false
set_option linter.unusedVariables false
namespace Go.Proofs.Ytoglpjgmnojdjaa
open Go Go.RowKit

theorem ret_bool {a b : Bool} (h : a = b) : Ending.returned (.bool a) = .returned (.bool b) := by rw [h]

def rnB (id a off b : Int) : Bool := decide (allMay [id, a, off, b]) && decide (b ≤ off)

set_option maxHeartbeats 400000 in
theorem rnums_any (k id off a b note : Int) (fin : Bool) (A : Option Addr) (n c : Nat) (A2 : Option Addr) (n2 c2 : Nat) (w : World) :
    Calls Try.prog 50 #[.agg #[.int .i64 k, .int .i64 id, .int .i64 off, .int .i64 a, .int .i64 b, .int .i64 note, .bool fin, .slice A n c, .slice A2 n2 c2]] w fun e w' => e = .returned (.bool (rnB id a off b)) ∧ Below w.heap.size w w' := by
  have H := Lib.hid (fun (g : Nat) (W : World) (hx : Rd W (g + 1) (some ⟨g, 0, none⟩) 4 (ints [id, a, off, b])) => size_any [id, a, off, b] (g + 1) (some ⟨g, 0, none⟩) 4 W (fun h => by cases h) hx (by simp))
  by_cases hm : allMay [id, a, off, b]
  · have H2 : Hid (∀ (g : Nat) (W : World) (hx : Rd W (g + 1) (some ⟨g, 0, none⟩) 4 (ints [id, a, off, b])), Calls Try.prog 61 #[.slice (some ⟨g, 0, none⟩) 4 4] W fun e w' => e = .returned (.int .i64 (sumW [id, a, off, b])) ∧ W = w') := fun g W hx => by
      have := H.out g W hx
      rw [if_pos hm] at this
      exact this
    obtain ⟨s, hs⟩ : ∃ s, Hid (sumW [id, a, off, b] = s) := ⟨_, rfl⟩
    rw [hs.out] at H2
    have e1 : rnB id a off b = decide (b ≤ off) := by simp [rnB, hm]
    rw [e1]
    clear e1 hm H
    by_cases hb : b ≤ off
    · have d1 : decide (b ≤ off) = true := decide_eq_true hb
      rw [d1]
      go_enter Try.func50, Try.ntmps50
      go_wp2_with (go_at_call 61; refine (H2.out (w.heap.size + 1) _ (rd_new _ _ _ _ _ _ _ (by simp) (by simp) rfl rfl)).mono ?_; rintro e w' ⟨rfl, rfl⟩)
      go_ret
      exact ⟨rfl, ((Below.refl _ _).alloc (Nat.le_refl _) _).alloc (by simp) _⟩
    · have d1 : decide (b ≤ off) = false := decide_eq_false hb
      rw [d1]
      go_enter Try.func50, Try.ntmps50
      go_wp2_with (go_at_call 61; refine (H2.out (w.heap.size + 1) _ (rd_new _ _ _ _ _ _ _ (by simp) (by simp) rfl rfl)).mono ?_; rintro e w' ⟨rfl, rfl⟩)
      go_ret
      exact ⟨rfl, ((Below.refl _ _).alloc (Nat.le_refl _) _).alloc (by simp) _⟩
  · have H2 : Hid (∀ (g : Nat) (W : World) (hx : Rd W (g + 1) (some ⟨g, 0, none⟩) 4 (ints [id, a, off, b])), Calls Try.prog 61 #[.slice (some ⟨g, 0, none⟩) 4 4] W fun e w' => e = .returned (.int .i64 (-1)) ∧ W = w') := fun g W hx => by
      have := H.out g W hx
      rw [if_neg hm] at this
      exact this
    have e1 : rnB id a off b = false := by simp [rnB, hm]
    rw [e1]
    clear e1 hm H
    go_enter Try.func50, Try.ntmps50
    go_wp2_with (go_at_call 61; refine (H2.out (w.heap.size + 1) _ (rd_new _ _ _ _ _ _ _ (by simp) (by simp) rfl rfl)).mono ?_; rintro e w' ⟨rfl, rfl⟩)
    go_ret
    exact ⟨rfl, ((Below.refl _ _).alloc (Nat.le_refl _) _).alloc (by simp) _⟩

def rdB (k off : Int) (n : Nat) : Bool := decide (n ≤ 120) && decide ((n : Int) ≤ wrap64 (4611686018427387903 - off)) && (decide (0 < n) || !decide (k = 9))

set_option maxHeartbeats 400000 in
theorem rdata_any (k id off a b note : Int) (fin : Bool) (A : Option Addr) (n c : Nat) (A2 : Option Addr) (n2 c2 : Nat) (w : World) (hn : n ≤ 140737488355328) :
    Calls Try.prog 52 #[.agg #[.int .i64 k, .int .i64 id, .int .i64 off, .int .i64 a, .int .i64 b, .int .i64 note, .bool fin, .slice A n c, .slice A2 n2 c2]] w fun e w' => e = .returned (.bool (rdB k off n)) ∧ Below w.heap.size w w' := by
  obtain ⟨t, ht⟩ : ∃ t, Hid (wrap64 (4611686018427387903 - off) = t) := ⟨_, rfl⟩
  have hd : rdB k off n = (decide (n ≤ 120) && decide ((n : Int) ≤ t) && (decide (0 < n) || !decide (k = 9))) := by unfold rdB; rw [ht.out]
  rw [hd]
  clear hd
  by_cases h1 : n ≤ 120
  · have g1 : decide ((n : Int) ≤ 120) = true := decide_eq_true (by omega)
    by_cases h2 : (n : Int) ≤ t
    · have g2 : decide ((n : Int) ≤ wrap64 (4611686018427387903 - off)) = true := by rw [ht.out]; exact decide_eq_true h2
      have g2' : (n : Int) ≤ wrap64 (4611686018427387903 - off) := by rw [ht.out]; exact h2
      by_cases h3 : 0 < n
      · have e : (decide (n ≤ 120) && decide ((n : Int) ≤ t) && (decide (0 < n) || !decide (k = 9))) = true := by simp [h1, h2, h3]
        rw [e]
        clear e
        have g3 : decide (0 < n) = true := decide_eq_true h3
        go_enter Try.func52, Try.ntmps52
        go_wp2
        go_ret
        exact ⟨rfl, (Below.refl _ _).alloc (Nat.le_refl _) _⟩
      · obtain rfl : n = 0 := by omega
        by_cases h4 : k = 9
        · subst h4
          have e : (decide (0 ≤ 120) && decide (((0 : Nat) : Int) ≤ t) && (decide (0 < 0) || !decide ((9 : Int) = 9))) = false := by simp
          rw [e]
          clear e
          go_enter Try.func52, Try.ntmps52
          go_wp2
          go_ret
          exact ⟨rfl, (Below.refl _ _).alloc (Nat.le_refl _) _⟩
        · have g4 : (k != 9) = true := by simpa using h4
          have h2' : 0 ≤ t := by omega
          have e : (decide (0 ≤ 120) && decide (((0 : Nat) : Int) ≤ t) && (decide (0 < 0) || !decide (k = 9))) = true := by simp [h4, h2']
          rw [e]
          clear e h4
          go_enter Try.func52, Try.ntmps52
          go_wp2
          go_ret
          exact ⟨rfl, (Below.refl _ _).alloc (Nat.le_refl _) _⟩
    · have g2 : decide ((n : Int) ≤ wrap64 (4611686018427387903 - off)) = false := by rw [ht.out]; exact decide_eq_false h2
      have g2' : ¬ (n : Int) ≤ wrap64 (4611686018427387903 - off) := by rw [ht.out]; exact h2
      have e : (decide (n ≤ 120) && decide ((n : Int) ≤ t) && (decide (0 < n) || !decide (k = 9))) = false := by simp [h2]
      rw [e]
      clear e
      go_enter Try.func52, Try.ntmps52
      go_wp2
      go_ret
      exact ⟨rfl, (Below.refl _ _).alloc (Nat.le_refl _) _⟩
  · have g1 : decide ((n : Int) ≤ 120) = false := decide_eq_false (by omega)
    have e : (decide (n ≤ 120) && decide ((n : Int) ≤ t) && (decide (0 < n) || !decide (k = 9))) = false := by simp [h1]
    rw [e]
    clear e
    go_enter Try.func52, Try.ntmps52
    go_wp2
    go_ret
    exact ⟨rfl, (Below.refl _ _).alloc (Nat.le_refl _) _⟩
end Go.Proofs.Ytoglpjgmnojdjaa
