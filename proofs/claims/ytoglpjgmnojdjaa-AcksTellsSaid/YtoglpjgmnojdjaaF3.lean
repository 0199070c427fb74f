/- rightSpans of package frame: a contract. Conditions: as the theorem lists them. -/
import Derived.Test.YtoglpjgmnojdjaaF2
import Derived.Deep.RegionHeld3
set_option linter.unusedSimpArgs false
set_option linter.unusedVariables false
namespace Go.Proofs.Ytoglpjgmnojdjaa
open Go Go.RowKit

/-- Whether run k of a flat list of runs is right. -/
def spK (es : List Int) (k : Nat) : Bool := decide (0 ≤ es.getD (2 * k) 0) && decide (es.getD (2 * k + 1) 0 ≤ 4611686018427387903) && decide (es.getD (2 * k) 0 ≤ es.getD (2 * k + 1) 0) && (decide (k = 0) || decide (2 ≤ wrap64 (es.getD (2 * (k - 1)) 0 - es.getD (2 * k + 1) 0)))
def rsB (es : List Int) (m : Nat) : Bool := decide (∀ k, k < m → spK es k = true) && (decide (1 ≤ m) && decide (m ≤ 8))

theorem rsB_no {es : List Int} {m k : Nat} (hk : k < m) (h : spK es k = false) : rsB es m = false := by
  unfold rsB
  rw [decide_eq_false (fun H => by rw [H k hk] at h; cases h)]
  rfl
theorem rsB_all {es : List Int} {m : Nat} (h : ∀ k, k < m → spK es k = true) : rsB es m = (decide (1 ≤ m) && decide (m ≤ 8)) := by
  unfold rsB
  rw [decide_eq_true h]
  rfl
theorem all_snoc {es : List Int} {k : Nat} (h : ∀ j, j < k → spK es j = true) (hk : spK es k = true) : ∀ j, j < k + 1 → spK es j = true := fun j hj => by
  rcases Nat.lt_or_ge j k with h1 | h1
  · exact h j h1
  · obtain rfl : j = k := by omega
    exact hk

set_option maxHeartbeats 2000000 in
theorem rspans_any (es : List Int) (m : Nat) (B : Nat) (A : Option Addr) (c : Nat) (w : World) (hl : es.length = m * 2) (hx : Rd w B A (m * 2) (ints es)) (hB : B ≤ w.heap.size) (hm : m ≤ 17592186044416) (hc : m ≤ c) :
    Calls Try.prog 53 #[.slice A m c] w fun e w' => e = .returned (.bool (rsB es m)) ∧ Below w.heap.size w w' := by
  have HL := Lib.hid hl
  have HX := Lib.hid hx
  have hmi : (m : Int) ≤ 17592186044416 := by omega
  have hci : (m : Int) ≤ (c : Int) := by omega
  clear hl hx hc
  go_enter Try.func53, Try.ntmps53
  go_wp2_with fail
  go_loopw [7] (fun i wr => ∃ k : Nat, k ≤ m ∧ i = .int .i64 k ∧ Hid (∀ j, j < k → spK es j = true) ∧ Hid (Below w.heap.size w wr)) (fun i _ => m - (intOf i).toNat)
  case atStart => exact ⟨0, Nat.zero_le _, rfl, fun j h => by omega, Below.refl _ _⟩
  case round =>
    obtain ⟨k, hk, rfl, HK, HBW⟩ := hrel
    by_cases hlt : k < m
    · have hlti : (k : Int) < (m : Int) := by omega
      obtain ⟨b, off, hA, hbn, hcs⟩ := HX.out.2 (by omega)
      subst hA
      have hl1 : 2 * k + 1 < es.length := by have := HL.out; omega
      obtain ⟨x, hx⟩ : ∃ x, Hid (es.getD (2 * k) 0 = x) := ⟨_, rfl⟩
      obtain ⟨y, hy⟩ : ∃ y, Hid (es.getD (2 * k + 1) 0 = y) := ⟨_, rfl⟩
      obtain ⟨z, hz⟩ : ∃ z, Hid (es.getD (2 * (k - 1)) 0 = z) := ⟨_, rfl⟩
      have hcx : wr.cell? ⟨b, off + k * 2, none⟩ = some (.int .i64 x) := by
        rw [HBW.out.cell (p := ⟨b, off + k * 2, none⟩) (show b < w.heap.size by omega), show off + k * 2 = off + 2 * k by omega, hcs (2 * k) _ (ints_get es _ (by omega)), hx.out]
      have hcy : wr.cell? ⟨b, off + k * 2 + 1, none⟩ = some (.int .i64 y) := by
        rw [HBW.out.cell (p := ⟨b, off + k * 2 + 1, none⟩) (show b < w.heap.size by omega), show off + k * 2 + 1 = off + (2 * k + 1) by omega, hcs (2 * k + 1) _ (ints_get es _ (by omega)), hy.out]
      have HZ : Hid (0 < k → wr.cell? ⟨b, off + (k - 1) * 2, none⟩ = some (.int .i64 z)) := fun h0 => by
        rw [HBW.out.cell (p := ⟨b, off + (k - 1) * 2, none⟩) (show b < w.heap.size by omega), show off + (k - 1) * 2 = off + 2 * (k - 1) by omega, hcs (2 * (k - 1)) _ (ints_get es _ (by omega)), hz.out]
      have hbr : Hid (b < wr.heap.size) := by have := HBW.out.size; exact Nat.lt_of_lt_of_le (Nat.lt_of_lt_of_le hbn hB) this
      clear hcs hbn
      have HS : Hid (spK es k = (decide (0 ≤ x) && decide (y ≤ 4611686018427387903) && decide (x ≤ y) && (decide (k = 0) || decide (2 ≤ wrap64 (z - y))))) := by show _ = _; unfold spK; rw [hx.out, hy.out, hz.out]
      have HBA : Hid (Below w.heap.size w (wr.alloc (.cells #[.int .i64 x, .int .i64 y] 57))) := HBW.out.alloc HBW.out.size _
      by_cases h1 : 0 ≤ x
      · by_cases h2 : y ≤ 4611686018427387903
        · by_cases h3 : x ≤ y
          · by_cases h4 : k = 0
            · have HS1 : Hid (spK es k = true) := by show _ = _; rw [HS.out]; simp [h1, h2, h3, h4]
              have HK1 := Lib.hid (all_snoc HK.out HS1.out)
              have g4 : decide (0 < k) = false := by simp; omega
              have g5 : ¬ (0 : Int) < (k : Int) := by omega
              clear h4
              go_wp2_with fail
              go_quiet (fail)
              go_wp2_with fail
              go_roundw
              case rel => exact ⟨k + 1, by omega, by go_num, HK1, HBA.out.trans ⟨rfl, rfl, rfl, Nat.le_refl _, fun _ _ => rfl⟩⟩
              case measure => simp [intOf]; omega
            · have h0 : 0 < k := by omega
              have hcz := HZ.out h0
              have nb : b < wr.heap.size := hbr.out
              have g4 : decide (0 < k) = true := decide_eq_true h0
              have e1 : IntKind.i64.wrap ((k : Int) - 1) = ((k - 1 : Nat) : Int) := by rw [show ((k - 1 : Nat) : Int) = (k : Int) - 1 by omega]; exact IntWalk.i64_in _ (by omega)
              have hk1 : k - 1 < m := by omega
              by_cases h5 : 2 ≤ wrap64 (z - y)
              · have HS1 : Hid (spK es k = true) := by show _ = _; rw [HS.out]; simp [h1, h2, h3, h5]
                have HK1 := Lib.hid (all_snoc HK.out HS1.out)
                have g5 : decide (wrap64 (z - y) < 2) = false := by simp; omega
                go_wp2_with fail
                go_quiet (fail)
                go_wp2_with fail
                go_roundw
                case rel => exact ⟨k + 1, by omega, by go_num, HK1, HBA.out.trans ⟨rfl, rfl, rfl, Nat.le_refl _, fun _ _ => rfl⟩⟩
                case measure => simp [intOf]; omega
              · have HS1 : Hid (rsB es m = false) := rsB_no hlt (by rw [HS.out]; simp [h4, h5])
                have g5 : decide (wrap64 (z - y) < 2) = true := by simp; omega
                go_wp2_with fail
                go_quiet (fail)
                go_wp2_with fail
                go_ret
                exact ⟨ret_bool HS1.out.symm, HBA.out.trans ⟨rfl, rfl, rfl, Nat.le_refl _, fun _ _ => rfl⟩⟩
          · have HS1 : Hid (rsB es m = false) := rsB_no hlt (by rw [HS.out]; simp [h3])
            go_wp2_with fail
            go_ret
            exact ⟨ret_bool HS1.out.symm, HBA.out⟩
        · have HS1 : Hid (rsB es m = false) := rsB_no hlt (by rw [HS.out]; simp [h2])
          go_wp2_with fail
          go_ret
          exact ⟨ret_bool HS1.out.symm, HBA.out⟩
      · have HS1 : Hid (rsB es m = false) := rsB_no hlt (by rw [HS.out]; simp [h1])
        go_wp2_with fail
        go_ret
        exact ⟨ret_bool HS1.out.symm, HBA.out⟩
    · have hlti : ¬ (k : Int) < (m : Int) := by omega
      obtain rfl : k = m := by omega
      have HS1 := Lib.hid (rsB_all HK.out)
      by_cases h1 : 1 ≤ k
      · by_cases h8 : k ≤ 8
        · have HE : Hid (rsB es k = true) := HS1.out.trans (by simp [h1, h8])
          have g : decide ((k : Int) ≤ 8) = true := decide_eq_true (by omega)
          go_wp2_with fail
          go_ret
          exact ⟨ret_bool HE.out.symm, HBW.out⟩
        · have HE : Hid (rsB es k = false) := HS1.out.trans (by simp [h8])
          have g : decide ((k : Int) ≤ 8) = false := decide_eq_false (by omega)
          go_wp2_with fail
          go_ret
          exact ⟨ret_bool HE.out.symm, HBW.out⟩
      · have HE : Hid (rsB es k = false) := HS1.out.trans (by simp [h1])
        have g : decide (1 ≤ k) = false := decide_eq_false h1
        go_wp2_with fail
        go_ret
        exact ⟨ret_bool HE.out.symm, HBW.out⟩
end Go.Proofs.Ytoglpjgmnojdjaa
