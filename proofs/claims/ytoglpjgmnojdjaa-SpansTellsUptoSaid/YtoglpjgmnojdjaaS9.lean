/- same: a contract. Conditions: as each theorem lists them. -/
import Derived.Test.YtoglpjgmnojdjaaS8t
import Derived.Laws.StructEq
import Derived.ChangeKeysEq
set_option linter.unusedSimpArgs false
set_option linter.unusedVariables false
namespace Go.Proofs.Ytoglpjgmnojdjaa
open Go Go.RowKit

theorem ret_bool {a b : Bool} (h : a = b) : Ending.returned (.bool a) = .returned (.bool b) := by rw [h]
/-- Are the pairs at k and those ahead alike? -/
theorem same_step (xs ys : List Int) (k : Nat) (h1 : 2 * k + 1 < xs.length) (h2 : 2 * k + 1 < ys.length) (h : xs.take (2 * k) = ys.take (2 * k)) (ha : xs.getD (2 * k) 0 = ys.getD (2 * k) 0) (hb : xs.getD (2 * k + 1) 0 = ys.getD (2 * k + 1) 0) : xs.take (2 * (k + 1)) = ys.take (2 * (k + 1)) := by
  rw [take_pair xs k h1, take_pair ys k h2, h, ha, hb]
theorem same_no (xs ys : List Int) (k : Nat) (h : xs.getD k 0 ≠ ys.getD k 0) : xs ≠ ys := fun e => h (by rw [e])

theorem eq2 (x1 y1 x2 y2 : Int) (w : World) : (Op.equalIn 10000 57 (.agg #[.int .i64 x1, .int .i64 y1]) (.agg #[.int .i64 x2, .int .i64 y2])).run Try.prog w = .ok (x1 == x2 && y1 == y2) w := by
  obtain ⟨i, hi, _⟩ := info_parts infoI
  have hc : Try.prog.cellsOf 3 = 1 := by kernel_rfl
  have u3 := Try.underlying3
  have a3 := Try.isAgg3
  have z3 := Try.sizeOf3
  rw [show (10000 : Nat) = 9999 + 1 from rfl, run_equalIn_array w 9999 _ _ Try.underlying57 hi, hc, show List.range 2 = [0, 1] from rfl]
  simp only [Op.eqItems]
  go_simp
  by_cases h1 : x1 = x2 <;> by_cases h2 : y1 = y2 <;> simp [h1, h2]

set_option maxHeartbeats 4000000 in
theorem same_any (xs ys : List Int) (B : Nat) (A1 A2 : Option Addr) (c1 c2 n1 n2 : Nat) (w : World) (h1 : Rd w B A1 (n1 * 2) (ints xs)) (h2 : Rd w B A2 (n2 * 2) (ints ys)) (hB : B ≤ w.heap.size) (hm1 : n1 ≤ 17592186044416) (hm2 : n2 ≤ 17592186044416) (hc1 : n1 ≤ c1) (hc2 : n2 ≤ c2) (b : Bool) (hb : b = decide (xs = ys)) :
    Calls Try.prog 20 #[.slice A1 n1 c1, .slice A2 n2 c2] w fun e w' => e = .returned (.bool b) ∧ Below w.heap.size w w' := by
  have HX := Lib.hid h1
  have HY := Lib.hid h2
  have HBb := Lib.hid hb
  have l1 : Hid (xs.length = n1 * 2) := by have := h1.1; rw [ints_len] at this; exact this
  have l2 : Hid (ys.length = n2 * 2) := by have := h2.1; rw [ints_len] at this; exact this
  have hmI1 : (n1 : Int) ≤ 17592186044416 := by omega
  have hmI2 : (n2 : Int) ≤ 17592186044416 := by omega
  have hcI1 : (n1 : Int) ≤ (c1 : Int) := by omega
  have hcI2 : (n2 : Int) ≤ (c2 : Int) := by omega
  clear h1 h2 hb
  by_cases hn : n1 = n2
  · subst hn
    go_enter Try.func20, Try.ntmps20
    go_wp2_with fail
    go_loopw [13] (fun i wr => ∃ k : Nat, k ≤ n1 ∧ i = .int .i64 k ∧ Hid (xs.take (2 * k) = ys.take (2 * k) ∧ Below w.heap.size w wr)) (fun i _ => n1 - (intOf i).toNat)
    case atStart => exact ⟨0, Nat.zero_le _, rfl, rfl, Below.refl _ _⟩
    case round =>
      obtain ⟨k, hk, rfl, HK⟩ := hrel
      by_cases hlt : k < n1
      · have hlti : (k : Int) < (n1 : Int) := by omega
        obtain ⟨b1, off1, hA1, hbn1, hcs1⟩ := HX.out.2 (by omega)
        subst hA1
        obtain ⟨b2, off2, hA2, hbn2, hcs2⟩ := HY.out.2 (by omega)
        subst hA2
        have q1 : 2 * k + 1 < xs.length := by have := l1.out; omega
        have q2 : 2 * k + 1 < ys.length := by have := l2.out; omega
        obtain ⟨x1, hx1⟩ : ∃ x, Hid (xs.getD (2 * k) 0 = x) := ⟨_, rfl⟩
        obtain ⟨y1, hy1⟩ : ∃ x, Hid (xs.getD (2 * k + 1) 0 = x) := ⟨_, rfl⟩
        obtain ⟨x2, hx2⟩ : ∃ x, Hid (ys.getD (2 * k) 0 = x) := ⟨_, rfl⟩
        obtain ⟨y2, hy2⟩ : ∃ x, Hid (ys.getD (2 * k + 1) 0 = x) := ⟨_, rfl⟩
        have e1 : wr.cell? ⟨b1, off1 + k * 2, none⟩ = some (.int .i64 x1) := by
          rw [HK.out.2.cell (p := ⟨b1, off1 + k * 2, none⟩) (Nat.lt_of_lt_of_le hbn1 hB), show off1 + k * 2 = off1 + 2 * k by omega, hcs1 (2 * k) _ (ints_get _ _ (by omega)), hx1.out]
        have e2 : wr.cell? ⟨b1, off1 + k * 2 + 1, none⟩ = some (.int .i64 y1) := by
          rw [HK.out.2.cell (p := ⟨b1, off1 + k * 2 + 1, none⟩) (Nat.lt_of_lt_of_le hbn1 hB), show off1 + k * 2 + 1 = off1 + (2 * k + 1) by omega, hcs1 (2 * k + 1) _ (ints_get _ _ (by omega)), hy1.out]
        have e3 : wr.cell? ⟨b2, off2 + k * 2, none⟩ = some (.int .i64 x2) := by
          rw [HK.out.2.cell (p := ⟨b2, off2 + k * 2, none⟩) (Nat.lt_of_lt_of_le hbn2 hB), show off2 + k * 2 = off2 + 2 * k by omega, hcs2 (2 * k) _ (ints_get _ _ (by omega)), hx2.out]
        have e4 : wr.cell? ⟨b2, off2 + k * 2 + 1, none⟩ = some (.int .i64 y2) := by
          rw [HK.out.2.cell (p := ⟨b2, off2 + k * 2 + 1, none⟩) (Nat.lt_of_lt_of_le hbn2 hB), show off2 + k * 2 + 1 = off2 + (2 * k + 1) by omega, hcs2 (2 * k + 1) _ (ints_get _ _ (by omega)), hy2.out]
        clear hcs1 hcs2
        have hguard := Try.eqGuardType57
        have heq := fun W => eq2 x1 y1 x2 y2 W
        by_cases hq : x1 = x2 ∧ y1 = y2
        · have hv : (x1 == x2 && y1 == y2) = true := by simp [hq]
          rw [hv] at heq
          have HN : Hid (xs.take (2 * (k + 1)) = ys.take (2 * (k + 1))) := same_step xs ys k q1 q2 HK.out.1 (by rw [hx1.out, hx2.out]; exact hq.1) (by rw [hy1.out, hy2.out]; exact hq.2)
          clear hv hq
          go_wp2_with fail
          go_quiet (fail)
          go_wp2_with fail
          go_roundw
          case rel => exact ⟨k + 1, by omega, by go_num, HN.out, HK.out.2.trans (Below.drewN' _ _ _)⟩
          case measure => simp [intOf]; omega
        · have hv : (x1 == x2 && y1 == y2) = false := by simp; intro e1 e2; exact hq ⟨e1, e2⟩
          rw [hv] at heq
          have HN : Hid (b = false) := by
            show _ = _
            rw [HBb.out]
            simp
            intro e
            refine hq ⟨?_, ?_⟩
            · rw [← hx1.out, ← hx2.out, e]
            · rw [← hy1.out, ← hy2.out, e]
          clear hv hq
          go_wp2_with fail
          go_quiet (fail)
          go_wp2_with fail
          go_ret
          exact ⟨ret_bool HN.out.symm, HK.out.2.trans (Below.drewN' _ _ _)⟩
      · have hlti : ¬ (k : Int) < (n1 : Int) := by omega
        obtain rfl : k = n1 := by omega
        have HN : Hid (b = true) := by
          show _ = _
          have h := HK.out.1
          rw [List.take_of_length_le (by have := l1.out; omega), List.take_of_length_le (by have := l2.out; omega)] at h
          rw [HBb.out]
          simpa using h
        go_wp2_with fail
        go_ret
        exact ⟨ret_bool HN.out.symm, HK.out.2⟩
  · have HN : Hid (b = false) := by
      show _ = _
      rw [HBb.out]
      simp
      intro e
      have := l1.out; have := l2.out
      rw [e] at *
      omega
    have hni : ((n1 : Int) == (n2 : Int)) = false := by simp; omega
    have hni2 : (n1 == n2) = false := by simpa using hn
    have hni3 : decide ((n1 : Int) = (n2 : Int)) = false := by simp; omega
    clear hn
    go_enter Try.func20, Try.ntmps20
    go_wp2_with fail
    go_ret
    exact ⟨ret_bool HN.out.symm, Below.refl _ _⟩

theorem has_in (es : List Int) (p : Nat) (x : Int) (w : World) (h : SetIn w p es) (hm : es.length * 8 ≤ 140737488355328) :
    Calls Try.prog 15 #[.pointer (some ⟨p, 0, none⟩), .int .i64 x] w fun e w' => e = .returned (.bool (mem es x)) ∧ Below w.heap.size w w' := by
  obtain ⟨A, c, hat, _⟩ := h.at hm
  refine (has_any es _ p A c x w hat).mono ?_
  rintro e w' ⟨rfl, q, rfl⟩
  exact ⟨rfl, Below.drewN' _ _ _⟩
theorem first_ptr (es : List Int) (p : Nat) (x : Int) (w : World) (h : SetIn w p es) (hm : es.length * 8 ≤ 140737488355328) :
    Calls Try.prog 17 #[.pointer (some ⟨p, 0, none⟩), .int .i64 x] w fun e w' => e = .returned (.int .i64 (firstF es (max x 0))) ∧ Below w.heap.size w w' := by
  obtain ⟨A, c, hat, _⟩ := h.at hm
  refine (first_any es _ p A c x w hat).mono ?_
  rintro e w' ⟨rfl, q, rfl⟩
  exact ⟨rfl, Below.drewN' _ _ _⟩
theorem all_in (es : List Int) (p : Nat) (f t : Int) (w : World) (h : SetIn w p es) (hm : es.length * 8 ≤ 140737488355328) :
    Calls Try.prog 24 #[.pointer (some ⟨p, 0, none⟩), .int .i64 f, .int .i64 t] w fun e w' => e = .returned (.bool (allF es f t)) ∧ Below w.heap.size w w' := by
  obtain ⟨A, c, hat, _⟩ := h.at hm
  refine (all_any es _ p A c f t w hat).mono ?_
  rintro e w' ⟨rfl, q, rfl⟩
  exact ⟨rfl, Below.drewN' _ _ _⟩
theorem spans_in (es : List Int) (p : Nat) (w : World) (h : SetIn w p es) (hm : es.length * 8 ≤ 140737488355328) :
    Calls Try.prog 21 #[.pointer (some ⟨p, 0, none⟩)] w fun e w' => ∃ A c, e = .returned (.slice A (es.length / 2) c) ∧ es.length / 2 ≤ c ∧ w'.ownsRow w.heap.size 57 2 (.slice A (es.length / 2) c) (es.length / 2) (ints es) ∧ Rd w' w'.heap.size A (es.length / 2 * 2) (ints es) ∧ Below w.heap.size w w' := by
  obtain ⟨A, c, hat, hhp⟩ := h.at hm
  refine (spans_any es _ p 0 A c w (cell_of_one hhp) hat.2.2.2.2.1 (Nat.le_refl _) hat.1.2.1 hat.2.1 hat.2.2.1).mono ?_
  rintro e w' ⟨v, rfl, h1, h2⟩
  obtain ⟨A', c', rfl, hc, _, _, hrd⟩ := own_form h1
  exact ⟨A', c', rfl, hc, h1, hrd, h2⟩
end Go.Proofs.Ytoglpjgmnojdjaa
