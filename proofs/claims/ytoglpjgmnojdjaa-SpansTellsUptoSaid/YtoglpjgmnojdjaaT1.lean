/- The reference's set in a variable; its Count, Has, First: contracts. Conditions: as each theorem lists them. -/
import Derived.Test.YtoglpjgmnojdjaaS5
set_option linter.unusedSimpArgs false
set_option linter.unusedVariables false
namespace Go.Proofs.Ytoglpjgmnojdjaa.Ref
open Go Go.RowKit

/-- The reference's set in a variable: its runs are the edges, two and two. -/
def RefIn (w : World) (p : Nat) (es : List Int) : Prop :=
  Ok es ∧ ∃ A n c, es.length = n * 2 ∧ w.heap[p]? = some (.cells #[.slice A n c] 32 (0, 0)) ∧ n ≤ c ∧ Rd w w.heap.size A (n * 2) (ints es)

theorem RefIn.lt {w : World} {p : Nat} {es : List Int} (h : RefIn w p es) : p < w.heap.size := by
  obtain ⟨_, A, n, c, _, h2, _⟩ := h
  exact (Array.getElem?_eq_some_iff.1 h2).1
theorem RefIn.below {w w' : World} {p : Nat} {es : List Int} (h : RefIn w p es) (hb : Below w.heap.size w w') : RefIn w' p es := by
  have hl := h.lt
  obtain ⟨h1, A, n, c, h0, h2, h3, h4⟩ := h
  exact ⟨h1, A, n, c, h0, by rw [hb.block p hl]; exact h2, h3, (h4.below hb (Nat.le_refl _)).more hb.size⟩

theorem wrap_two (s y x : Int) (h : 0 ≤ s + (y - x) ∧ s + (y - x) ≤ 4611686018427387904) : wrap64 (wrap64 (s + y) - x) = s + (y - x) := by unfold wrap64; omega

theorem ret_bool {a b : Bool} (h : a = b) : Ending.returned (.bool a) = .returned (.bool b) := by rw [h]

/-- n lies in run k. -/
theorem run_up {es : List Int} (h : Ok es) (n : Int) (k : Nat) (hk : 2 * k + 1 < es.length) (h1 : es.getD (2 * k) 0 ≤ n) (h2 : n < es.getD (2 * k + 1) 0) : up es n = 2 * k + 1 :=
  up_at h.1 (2 * k + 1) hk n (fun i hi => by
    rcases Nat.lt_or_ge i (2 * k) with hlt | hge
    · have := get_mono h.1 i (2 * k) hlt (by omega); omega
    · obtain rfl : i = 2 * k := by omega
      exact h1) h2
theorem odd_two (k : Nat) : oddB (2 * k + 1) = true := by unfold oddB; rw [decide_eq_true]; omega
theorem run_hit {es : List Int} (h : Ok es) (n : Int) (k : Nat) (hk : 2 * k + 1 < es.length) (h1 : es.getD (2 * k) 0 ≤ n) (h2 : n < es.getD (2 * k + 1) 0) : mem es n = true ∧ firstF es n = es.getD (2 * k + 1) 0 := by
  have := run_up h n k hk h1 h2
  refine ⟨by unfold mem; rw [this, odd_two], ?_⟩
  unfold firstF
  rw [this, if_pos (odd_two k)]
theorem run_miss {es : List Int} (h : Ok es) (n : Int) (hm : ∀ k, 2 * k + 1 < es.length → ¬ (es.getD (2 * k) 0 ≤ n ∧ n < es.getD (2 * k + 1) 0)) : mem es n = false ∧ firstF es n = n := by
  have ho : oddB (up es n) = false := by
    cases hb : oddB (up es n) with
    | false => rfl
    | true =>
      have hlt := up_lt_of_odd h n hb
      unfold oddB at hb
      have h2 : up es n % 2 = 1 := of_decide_eq_true hb
      obtain ⟨k, hk⟩ : ∃ k, up es n = 2 * k + 1 := ⟨up es n / 2, by omega⟩
      have g1 := up_get h.1 n (2 * k) (by omega)
      have g2 := get_up h.1 n hlt
      rw [hk] at g2
      exact absurd ⟨g1, g2⟩ (hm k (by omega))
  refine ⟨ho, ?_⟩
  unfold firstF
  rw [ho]
  rfl

set_option maxHeartbeats 1000000 in
theorem rcount_any (es : List Int) (p : Nat) (w : World) (h : RefIn w p es) (hm : es.length * 8 ≤ 140737488355328) :
    Calls Try.prog 27 #[.pointer (some ⟨p, 0, none⟩)] w fun e w' => e = .returned (.int .i64 (cnt es)) ∧ Below w.heap.size w w' := by
  have HOk := Lib.hid h.1
  obtain ⟨_, A, n, c, hn0, hhp, hnc, hrd⟩ := h
  have HHP := Lib.hid hhp
  have hn := Lib.hid hn0
  have HR := Lib.hid hrd
  have hcell : w.cell? ⟨p, 0, none⟩ = some (.slice A n c) := cell_of_one hhp
  have hnb : (n : Int) ≤ 17592186044416 := by have := hn.out; omega
  have hncI : (n : Int) ≤ (c : Int) := by omega
  clear hhp hrd hn0
  go_enter Try.func27, Try.ntmps27
  go_wp2_with fail
  go_loopw [3, 4] (fun v i wr => ∃ k : Nat, k ≤ n ∧ i = .int .i64 k ∧ v = .int .i64 (cnt (es.take (2 * k))) ∧ Hid (∃ q, wr = w.drewN q)) (fun _ i _ => n - (intOf i).toNat)
  case atStart => exact ⟨0, Nat.zero_le _, rfl, rfl, 0, rfl⟩
  case round =>
    obtain ⟨k, hk, rfl, rfl, HK⟩ := hrel
    obtain ⟨q, hq⟩ := HK.out
    subst hq
    have hb0 := cnt_take_bound HOk.out k
    by_cases hlt : k < n
    · have hlti : (k : Int) < (n : Int) := by omega
      obtain ⟨b, off, hA, hbn, hcs⟩ := HR.out.2 (by omega)
      subst hA
      have hl1 : 2 * k + 1 < es.length := by have := hn.out; omega
      obtain ⟨x, hx⟩ : ∃ x, Hid (es.getD (2 * k) 0 = x) := ⟨_, rfl⟩
      obtain ⟨y, hy⟩ : ∃ y, Hid (es.getD (2 * k + 1) 0 = y) := ⟨_, rfl⟩
      have hcx : w.cell? ⟨b, off + k * 2, none⟩ = some (.int .i64 x) := by
        rw [show off + k * 2 = off + 2 * k by omega, hcs (2 * k) _ (ints_get es _ (by omega)), hx.out]
      have hcy : w.cell? ⟨b, off + k * 2 + 1, none⟩ = some (.int .i64 y) := by
        rw [show off + k * 2 + 1 = off + (2 * k + 1) by omega, hcs (2 * k + 1) _ (ints_get es _ (by omega)), hy.out]
      clear hcs
      have hx0 := get_in HOk.out (2 * k) (by omega)
      have hy0 := get_in HOk.out (2 * k + 1) (by omega)
      rw [hx.out] at hx0
      rw [hy.out] at hy0
      have hb1 := cnt_take_bound HOk.out (k + 1)
      have hsn : Hid (cnt (es.take (2 * (k + 1))) = cnt (es.take (2 * k)) + (y - x)) := by
        show _ = _
        rw [take_pair es k hl1, cnt_snoc _ _ _ (by rw [List.length_take]; omega), hx.out, hy.out]
      rw [hsn.out] at hb1
      obtain ⟨s, hs⟩ : ∃ s, Hid (cnt (es.take (2 * k)) = s) := ⟨_, rfl⟩
      rw [hs.out] at hb0 hb1 hsn ⊢
      go_wp2_with fail
      go_quiet (fail)
      go_wp2_with fail
      go_roundw
      case rel => exact ⟨k + 1, by omega, by go_num, by rw [hsn.out, wrap_two _ _ _ hb1], _, rfl⟩
      case measure => simp [intOf]; omega
    · have hlti : ¬ (k : Int) < (n : Int) := by omega
      obtain rfl : k = n := by omega
      go_wp2_with fail
      go_ret
      exact ⟨ret_int (by rw [List.take_of_length_le (by rw [hn.out]; omega)]), ⟨rfl, rfl, rfl, Nat.le_refl _, fun _ _ => rfl⟩⟩

set_option maxHeartbeats 1000000 in
theorem rfirst_any (es : List Int) (p : Nat) (m : Int) (w : World) (h : RefIn w p es) (hm : es.length * 8 ≤ 140737488355328) :
    Calls Try.prog 18 #[.pointer (some ⟨p, 0, none⟩), .int .i64 m] w fun e w' => e = .returned (.int .i64 (firstF es (max m 0))) ∧ w = w' := by
  have HOk := Lib.hid h.1
  obtain ⟨_, A, n, c, hn0, hhp, hnc, hrd⟩ := h
  have hn := Lib.hid hn0
  have HR := Lib.hid hrd
  have hcell : w.cell? ⟨p, 0, none⟩ = some (.slice A n c) := cell_of_one hhp
  have hnb : (n : Int) ≤ 17592186044416 := by have := hn.out; omega
  have hncI : (n : Int) ≤ (c : Int) := by omega
  clear hhp hrd hn0
  go_enter Try.func18, Try.ntmps18
  go_wp2_with fail
  go_loop [5] (fun i => ∃ k : Nat, k ≤ n ∧ i = .int .i64 k ∧ Hid (∀ j, j < k → ¬ (es.getD (2 * j) 0 ≤ max m 0 ∧ max m 0 < es.getD (2 * j + 1) 0))) (fun i => n - (intOf i).toNat)
  case atStart => exact ⟨0, Nat.zero_le _, rfl, fun j hj => by omega⟩
  case round =>
    obtain ⟨k, hk, rfl, HK⟩ := hrel
    by_cases hlt : k < n
    · have hlti : (k : Int) < (n : Int) := by omega
      obtain ⟨b, off, hA, hbn, hcs⟩ := HR.out.2 (by omega)
      subst hA
      have hl1 : 2 * k + 1 < es.length := by have := hn.out; omega
      have HIT := Lib.hid (run_hit HOk.out (max m 0) k hl1)
      obtain ⟨x, hx⟩ : ∃ x, Hid (es.getD (2 * k) 0 = x) := ⟨_, rfl⟩
      obtain ⟨y, hy⟩ : ∃ y, Hid (es.getD (2 * k + 1) 0 = y) := ⟨_, rfl⟩
      have hcx : w.cell? ⟨b, off + k * 2, none⟩ = some (.int .i64 x) := by
        rw [show off + k * 2 = off + 2 * k by omega, hcs (2 * k) _ (ints_get es _ (by omega)), hx.out]
      have hcy : w.cell? ⟨b, off + k * 2 + 1, none⟩ = some (.int .i64 y) := by
        rw [show off + k * 2 + 1 = off + (2 * k + 1) by omega, hcs (2 * k + 1) _ (ints_get es _ (by omega)), hy.out]
      rw [hx.out, hy.out] at HIT
      clear hcs
      have HNX : Hid (¬ (x ≤ max m 0 ∧ max m 0 < y) → ∀ j, j < k + 1 → ¬ (es.getD (2 * j) 0 ≤ max m 0 ∧ max m 0 < es.getD (2 * j + 1) 0)) := fun h j hj => by
        rcases Nat.lt_or_ge j k with h1 | h1
        · exact HK.out j h1
        · obtain rfl : j = k := by omega
          rw [hx.out, hy.out]; exact h
      by_cases h1 : x ≤ max m 0
      · have d1 : decide (x ≤ max m 0) = true := decide_eq_true h1
        by_cases h2 : max m 0 < y
        · have d2 : decide (max m 0 < y) = true := decide_eq_true h2
          have HV := Lib.hid (HIT.out h1 h2).2
          go_wp2_with fail
          go_ret
          exact ⟨ret_int HV.out.symm, rfl⟩
        · have d2 : decide (max m 0 < y) = false := decide_eq_false h2
          have HN := Lib.hid (HNX.out (fun h => h2 h.2))
          go_wp2_with fail
          go_round
          case rel => exact ⟨k + 1, by omega, by go_num, HN⟩
          case measure => simp [intOf]; omega
      · have d1 : decide (x ≤ max m 0) = false := decide_eq_false h1
        have HN := Lib.hid (HNX.out (fun h => h1 h.1))
        go_wp2_with fail
        go_round
        case rel => exact ⟨k + 1, by omega, by go_num, HN⟩
        case measure => simp [intOf]; omega
    · have hlti : ¬ (k : Int) < (n : Int) := by omega
      obtain rfl : k = n := by omega
      have HV := Lib.hid (run_miss HOk.out (max m 0) (fun j hj => HK.out j (by have := hn.out; omega))).2
      go_wp2_with fail
      go_ret
      exact ⟨ret_int HV.out.symm, rfl⟩
set_option maxHeartbeats 1000000 in
theorem rhas_any (es : List Int) (p : Nat) (m : Int) (w : World) (h : RefIn w p es) (hm : es.length * 8 ≤ 140737488355328) :
    Calls Try.prog 16 #[.pointer (some ⟨p, 0, none⟩), .int .i64 m] w fun e w' => e = .returned (.bool (mem es m)) ∧ w = w' := by
  have HOk := Lib.hid h.1
  obtain ⟨_, A, n, c, hn0, hhp, hnc, hrd⟩ := h
  have hn := Lib.hid hn0
  have HR := Lib.hid hrd
  have hcell : w.cell? ⟨p, 0, none⟩ = some (.slice A n c) := cell_of_one hhp
  have hnb : (n : Int) ≤ 17592186044416 := by have := hn.out; omega
  have hncI : (n : Int) ≤ (c : Int) := by omega
  clear hhp hrd hn0
  go_enter Try.func16, Try.ntmps16
  go_wp2_with fail
  go_loop [5] (fun i => ∃ k : Nat, k ≤ n ∧ i = .int .i64 k ∧ Hid (∀ j, j < k → ¬ (es.getD (2 * j) 0 ≤ m ∧ m < es.getD (2 * j + 1) 0))) (fun i => n - (intOf i).toNat)
  case atStart => exact ⟨0, Nat.zero_le _, rfl, fun j hj => by omega⟩
  case round =>
    obtain ⟨k, hk, rfl, HK⟩ := hrel
    by_cases hlt : k < n
    · have hlti : (k : Int) < (n : Int) := by omega
      obtain ⟨b, off, hA, hbn, hcs⟩ := HR.out.2 (by omega)
      subst hA
      have hl1 : 2 * k + 1 < es.length := by have := hn.out; omega
      have HIT := Lib.hid (run_hit HOk.out m k hl1)
      obtain ⟨x, hx⟩ : ∃ x, Hid (es.getD (2 * k) 0 = x) := ⟨_, rfl⟩
      obtain ⟨y, hy⟩ : ∃ y, Hid (es.getD (2 * k + 1) 0 = y) := ⟨_, rfl⟩
      have hcx : w.cell? ⟨b, off + k * 2, none⟩ = some (.int .i64 x) := by
        rw [show off + k * 2 = off + 2 * k by omega, hcs (2 * k) _ (ints_get es _ (by omega)), hx.out]
      have hcy : w.cell? ⟨b, off + k * 2 + 1, none⟩ = some (.int .i64 y) := by
        rw [show off + k * 2 + 1 = off + (2 * k + 1) by omega, hcs (2 * k + 1) _ (ints_get es _ (by omega)), hy.out]
      rw [hx.out, hy.out] at HIT
      clear hcs
      have HNX : Hid (¬ (x ≤ m ∧ m < y) → ∀ j, j < k + 1 → ¬ (es.getD (2 * j) 0 ≤ m ∧ m < es.getD (2 * j + 1) 0)) := fun h j hj => by
        rcases Nat.lt_or_ge j k with h1 | h1
        · exact HK.out j h1
        · obtain rfl : j = k := by omega
          rw [hx.out, hy.out]; exact h
      by_cases h1 : x ≤ m
      · have d1 : decide (x ≤ m) = true := decide_eq_true h1
        by_cases h2 : m < y
        · have d2 : decide (m < y) = true := decide_eq_true h2
          have HV := Lib.hid (HIT.out h1 h2).1
          go_wp2_with fail
          go_ret
          exact ⟨ret_bool HV.out.symm, rfl⟩
        · have d2 : decide (m < y) = false := decide_eq_false h2
          have HN := Lib.hid (HNX.out (fun h => h2 h.2))
          go_wp2_with fail
          go_round
          case rel => exact ⟨k + 1, by omega, by go_num, HN⟩
          case measure => simp [intOf]; omega
      · have d1 : decide (x ≤ m) = false := decide_eq_false h1
        have HN := Lib.hid (HNX.out (fun h => h1 h.1))
        go_wp2_with fail
        go_round
        case rel => exact ⟨k + 1, by omega, by go_num, HN⟩
        case measure => simp [intOf]; omega
    · have hlti : ¬ (k : Int) < (n : Int) := by omega
      obtain rfl : k = n := by omega
      have HV := Lib.hid (run_miss HOk.out m (fun j hj => HK.out j (by have := hn.out; omega))).1
      go_wp2_with fail
      go_ret
      exact ⟨ret_bool HV.out.symm, rfl⟩
end Go.Proofs.Ytoglpjgmnojdjaa.Ref
