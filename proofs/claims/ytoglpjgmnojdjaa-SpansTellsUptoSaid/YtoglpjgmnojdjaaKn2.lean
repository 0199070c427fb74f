/- known: a contract, over those of the package. Conditions: none. -/
import Derived.Test.YtoglpjgmnojdjaaS10
set_option linter.unusedSimpArgs false
set_option linter.unusedVariables false
namespace Go.Proofs.Ytoglpjgmnojdjaa.Known
open Go Go.RowKit

theorem known_es (es : List Int) (hok : Ok es) (h : ∀ n, mem es n = (mayN n && [3, 1, 2, 7].contains n)) : es = [1, 4, 7, 8] := by
  refine ok_eq hok ⟨by decide, by decide, by decide⟩ fun n => ?_
  rw [h n, mem_cons, mem_cons, mem_cons, mem_cons, show mem [] n = false from rfl]
  unfold mayN
  rw [Bool.eq_iff_iff]
  by_cases h1 : (1 : Int) ≤ n <;> by_cases h2 : (4 : Int) ≤ n <;> by_cases h3 : (7 : Int) ≤ n <;> by_cases h4 : (8 : Int) ≤ n <;> simp [h1, h2, h3, h4] <;> omega

set_option maxRecDepth 100000 in
set_option maxHeartbeats 4000000 in
theorem known_any (w : World) : Calls Try.prog 19 #[] w fun e w' => e = .returned (.bool true) ∧ Below w.heap.size w w' := by
  go_enter Try.func19, Try.ntmps19
  go_wp2_with fail
  have O1 := Lib.hid (of_any [3, 1, 2, 7] (w.heap.size + 1) (some ⟨w.heap.size, 0, none⟩) 4 (w.alloc (.cells #[.int .i64 3, .int .i64 1, .int .i64 2, .int .i64 7] 3)) (rd_new _ _ _ _ _ _ _ rfl (by omega) rfl rfl) (by simp) (by decide) (by decide) (.inr (by decide)) (by decide))
  refine O1.out.mono ?_
  rintro e w3 ⟨es, A3, c3, rfl, hsv, hmem, _, hb, _⟩
  have e0 := known_es es hsv.1 hmem
  subst e0
  have V3 := Lib.hid hsv
  have B3 : Hid (Below w.heap.size w w3) := ((Below.refl _ _).alloc (Nat.le_refl _) _).trans (hb.mono (by simp))
  clear hsv hmem hb O1
  go_wp2_with fail
  obtain ⟨q, hq⟩ : ∃ q, Hid (w3.heap.size = q) := ⟨_, rfl⟩
  obtain ⟨w4, hw4⟩ : ∃ w4, w3.alloc (.cells #[.slice A3 ([1, 4, 7, 8] : List Int).length c3] 27) = w4 := ⟨_, rfl⟩
  have Q4 : Hid (SetIn w4 q [1, 4, 7, 8]) := by rw [← hw4, ← hq.out]; exact V3.out.put
  have B4 : Hid (Below w.heap.size w w4) := by rw [← hw4]; exact B3.out.alloc B3.out.size _
  change w3.alloc (.cells #[.slice A3 4 c3] 27) = w4 at hw4
  rw [hw4]
  try rw [hq.out]
  clear hw4
  have SPN : Hid (Calls Try.prog 21 #[.pointer (some ⟨q, 0, none⟩)] w4 fun e w' => ∃ A c, e = .returned (.slice A 2 c) ∧ 2 ≤ c ∧ Rd w' w'.heap.size A (2 * 2) (ints [1, 4, 7, 8]) ∧ Below w4.heap.size w4 w') :=
    (spans_in [1, 4, 7, 8] q w4 Q4.out (by decide)).mono fun e w' h => by
      obtain ⟨A, c, h1, h2, _, h4, h5⟩ := h
      exact ⟨A, c, h1, h2, h4, h5⟩
  refine SPN.out.mono ?_
  rintro e w5 ⟨A6, c6, rfl, hc6, hrd6, hb⟩
  have Q5 := Lib.hid (Q4.out.below hb)
  have B5 : Hid (Below w.heap.size w w5) := B4.out.trans (hb.mono B4.out.size)
  have R6 : Hid (2 ≤ c6 ∧ Rd w5 w5.heap.size A6 (2 * 2) (ints [1, 4, 7, 8])) := ⟨hc6, hrd6⟩
  clear hb hc6 hrd6 Q4 B4 SPN
  go_wp2_with fail
  have hb6 : Below w5.heap.size w5 (w5.alloc (.cells #[.int .i64 1, .int .i64 4, .int .i64 7, .int .i64 8] 57)) := (Below.refl _ _).alloc (Nat.le_refl _) _
  have Q6 := Lib.hid (Q5.out.below hb6)
  have B6 : Hid (Below w.heap.size w _) := B5.out.trans (hb6.mono B5.out.size)
  refine (same_any [1, 4, 7, 8] [1, 4, 7, 8] (w5.heap.size + 1) A6 (some ⟨w5.heap.size, 0, none⟩) c6 2 2 2 (w5.alloc (.cells #[.int .i64 1, .int .i64 4, .int .i64 7, .int .i64 8] 57)) ((R6.out.2.below hb6 (Nat.le_refl _)).more (by omega)) (rd_new _ _ _ _ _ _ _ rfl (by omega) rfl rfl) (by simp) (by decide) (by decide) R6.out.1 (by decide) true (by decide)).mono ?_
  clear hb6
  rintro e w7 ⟨rfl, hb⟩
  have Q7 := Lib.hid (Q6.out.below hb)
  have B7 : Hid (Below w.heap.size w w7) := B6.out.trans (hb.mono B6.out.size)
  clear hb
  go_wp2_with fail
  have C1 := has_in [1, 4, 7, 8] q 3 w7 Q7.out (by decide)
  rw [show mem [1, 4, 7, 8] 3 = true by decide] at C1
  refine C1.mono ?_
  rintro e w8 ⟨rfl, hb⟩
  have Q8 := Lib.hid (Q7.out.below hb)
  have B8 : Hid (Below w.heap.size w w8) := B7.out.trans (hb.mono B7.out.size)
  clear hb C1
  go_wp2_with fail
  have C2 := has_in [1, 4, 7, 8] q 4 w8 Q8.out (by decide)
  rw [show mem [1, 4, 7, 8] 4 = false by decide] at C2
  refine C2.mono ?_
  rintro e w9 ⟨rfl, hb⟩
  have B9 : Hid (Below w.heap.size w w9) := B8.out.trans (hb.mono B8.out.size)
  clear hb C2
  go_wp2_with fail
  go_ret
  exact ⟨rfl, B9.out⟩
end Go.Proofs.Ytoglpjgmnojdjaa.Known
