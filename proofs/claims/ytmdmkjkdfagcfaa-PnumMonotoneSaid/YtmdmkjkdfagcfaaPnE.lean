/- PnumMonotone: the walk. Conditions: the numbers fit their kinds. -/
import Derived.Test.YtmdmkjkdfagcfaaPnD
namespace Go.Proofs.Ytmdmkjkdfagcfaa
open Go Go.RowKit

theorem cut_cut (x k j : Int) : cutF (cutF x k) j = cutF x (if k ≤ j then k else j) := by
  have e : ∀ a b : Int, (256 ≤ a ∧ 256 ≤ b) → tn k = a → tn j = b → a ∣ b ∨ b ∣ a → cutF (cutF x k) j = x % (if a ≤ b then a else b) := by
    intro a b h0 ha hb h
    unfold cutF
    rw [ha, hb]
    split
    · rename_i hab
      rcases h with h | h
      · exact Int.emod_eq_of_lt (Int.emod_nonneg _ (by omega)) (by have := Int.emod_lt_of_pos x (show 0 < a by omega); omega)
      · obtain rfl : a = b := by
          have := Int.le_of_dvd (by omega) h
          omega
        exact Int.emod_emod_of_dvd _ (Int.dvd_refl _)
    · rename_i hab
      rcases h with h | h
      · exact absurd (Int.le_of_dvd (by omega) h) hab
      · exact Int.emod_emod_of_dvd x h
  have hm : cutF x (if k ≤ j then k else j) = x % (if tn k ≤ tn j then tn k else tn j) := by
    unfold cutF
    congr 1
    unfold tn
    (repeat' split) <;> omega
  rw [hm]
  rcases tn_or k with h | h | h | h <;> rcases tn_or j with g | g | g | g
  all_goals
    rw [h, g]
    exact e _ _ (by decide) h g (by decide)

theorem cutF_in (x k : Int) : 0 ≤ cutF x k ∧ cutF x k < tn k := by
  unfold cutF
  rcases tn_or k with h | h | h | h <;> rw [h] <;> omega

set_option maxHeartbeats 4000000 in
theorem mono_walk (a0 a1 a2 a3 a4 a5 : Int) (w : World) (_ : -9223372036854775808 ≤ a0) (_ : a0 ≤ 9223372036854775807) (_ : -9223372036854775808 ≤ a1) (_ : a1 ≤ 9223372036854775807) (_ : -9223372036854775808 ≤ a2) (_ : a2 ≤ 9223372036854775807)
    (_ : -9223372036854775808 ≤ a3) (_ : a3 ≤ 9223372036854775807) (_ : -9223372036854775808 ≤ a4) (_ : a4 ≤ 9223372036854775807) (_ : -9223372036854775808 ≤ a5) (_ : a5 ≤ 9223372036854775807) :
    Calls Try.prog 7 #[.int .i64 a0, .int .i64 a1, .int .i64 a2, .int .i64 a3, .int .i64 a4, .int .i64 a5] w fun e w' => e = .returned (.bool true) ∧ Below w.heap.size w w' := by
  obtain ⟨x, hx⟩ : ∃ x, Hid (a0 % 1099511627776 = x) := ⟨_, rfl⟩
  obtain ⟨y, hy⟩ : ∃ x, Hid (a1 % 1099511627776 = x) := ⟨_, rfl⟩
  obtain ⟨d, hd⟩ : ∃ x, Hid (a2 % 8589934592 = x) := ⟨_, rfl⟩
  obtain ⟨e, he⟩ : ∃ x, Hid (a3 % 1048576 = x) := ⟨_, rfl⟩
  obtain ⟨r, hr⟩ : ∃ x, Hid (a5 % 4 = x) := ⟨_, rfl⟩
  have x0 : 0 ≤ x ∧ x < 1099511627776 := by have := hx.out; omega
  have y0 : 0 ≤ y ∧ y < 1099511627776 := by have := hy.out; omega
  have d0 : 0 ≤ d ∧ d < 8589934592 := by have := hd.out; omega
  have e0 : 0 ≤ e ∧ e < 1048576 := by have := he.out; omega
  have r0 : 0 ≤ r ∧ r < 4 := by have := hr.out; omega
  obtain ⟨x0, x1⟩ := x0
  obtain ⟨y0, y1⟩ := y0
  obtain ⟨d0, d1⟩ := d0
  obtain ⟨e0, e1⟩ := e0
  obtain ⟨r0, r1⟩ := r0
  obtain ⟨B, hB⟩ : ∃ B, Hid (bytesF (x + (1 + d)) x = B) := ⟨_, rfl⟩
  have hB2 : Hid (bytesF (y + (1 + d)) y = B) := hid_of (by rw [← hB.out]; unfold bytesF; rw [show y + (1 + d) - y = x + (1 + d) - x by omega])
  obtain ⟨C, hC⟩ : ∃ B, Hid (bytesF (y + (1 + d + e)) y = B) := ⟨_, rfl⟩
  have hBC : B ≤ C := by rw [← hB.out, ← hC.out]; unfold bytesF; (repeat' split) <;> omega
  have hp : a4 % 4 = 0 ∨ a4 % 4 = 1 ∨ a4 % 4 = 2 ∨ a4 % 4 = 3 := by omega
  have hcc := Lib.hid (cut_cut x)
  have hci := Lib.hid (cutF_in x)
  have core : ∀ (p t k : Int) (_ : k = p + 1) (_ : (p = 0 ∧ t = 256) ∨ (p = 1 ∧ t = 65536) ∨ (p = 2 ∧ t = 16777216) ∨ (p = 3 ∧ t = 4294967296)),
      ∃ c c2, Hid (cutF x k = c) ∧ c < t ∧ Hid (cutF c (1 + r) = c2) ∧ Hid (cutF x (if k ≤ 1 + r then k else 1 + r) = c2) := by
    intro p t k hk ht
    refine ⟨_, _, rfl, ?_, rfl, (hcc.out k (1 + r)).symm⟩
    have := (hci.out k).2
    have e : tn k = t := by unfold tn; rcases ht with ⟨h, g⟩ | ⟨h, g⟩ | ⟨h, g⟩ | ⟨h, g⟩ <;> subst h <;> subst hk <;> subst g <;> decide
    rwa [e] at this
  clear hcc hci
  rcases hp with hp | hp | hp | hp
  · obtain ⟨c, c2, h1, h4, h2, h3⟩ := core 0 256 1 (by decide) (by decide)
    have HP := Lib.hid hp
    clear core hp
    obtain rfl : c = c2 := by
      have := h3.out
      rw [if_pos (by omega), h1.out] at this
      exact this
    clear h3
    have h3 := h1
    go_enter Try.func7, Try.ntmps7
    go_wp2_with (first
      | (go_at_call 14; (with_reducible first | refine (pick_at _ _ _ hx.out _ (by decide) (by decide)).mono ?_ | refine (pick_at _ _ _ hy.out _ (by decide) (by decide)).mono ?_ | refine (pick_at _ _ _ hd.out _ (by decide) (by decide)).mono ?_ | refine (pick_at _ _ _ he.out _ (by decide) (by decide)).mono ?_ | refine (pick_at _ _ _ hr.out _ (by decide) (by decide)).mono ?_ | refine (pick_at _ _ _ HP.out _ (by decide) (by decide)).mono ?_); rintro e w' ⟨rfl, rfl⟩)
      | (go_at_call 9; refine (known_any _).mono ?_; rintro e w' ⟨rfl, rfl⟩)
      | (go_at_call 10; (with_reducible first | refine (bytes_at _ _ _ hB.out _ (by omega) (by omega)).mono ?_ | refine (bytes_at _ _ _ hB2.out _ (by omega) (by omega)).mono ?_ | refine (bytes_at _ _ _ hC.out _ (by omega) (by omega)).mono ?_); rintro e w' ⟨rfl, rfl⟩)
      | (go_at_call 11; (with_reducible first | refine (cut_at _ _ _ h1.out _).mono ?_ | refine (cut_at _ _ _ h2.out _).mono ?_ | refine (cut_at _ _ _ h3.out _).mono ?_); rintro e w' ⟨rfl, rfl⟩))
    go_ret
    exact ⟨rfl, Below.refl _ _⟩
  · obtain ⟨c, c2, h1, h4, h2, h3⟩ := core 1 65536 2 (by decide) (by decide)
    have HP := Lib.hid hp
    clear core hp
    by_cases hle : 2 ≤ 1 + r
    · obtain rfl : c = c2 := by
        have := h3.out
        rw [if_pos (by omega), h1.out] at this
        exact this
      clear h3
      have h3 := h1
      go_enter Try.func7, Try.ntmps7
      go_wp2_with (first
        | (go_at_call 14; (with_reducible first | refine (pick_at _ _ _ hx.out _ (by decide) (by decide)).mono ?_ | refine (pick_at _ _ _ hy.out _ (by decide) (by decide)).mono ?_ | refine (pick_at _ _ _ hd.out _ (by decide) (by decide)).mono ?_ | refine (pick_at _ _ _ he.out _ (by decide) (by decide)).mono ?_ | refine (pick_at _ _ _ hr.out _ (by decide) (by decide)).mono ?_ | refine (pick_at _ _ _ HP.out _ (by decide) (by decide)).mono ?_); rintro e w' ⟨rfl, rfl⟩)
        | (go_at_call 9; refine (known_any _).mono ?_; rintro e w' ⟨rfl, rfl⟩)
        | (go_at_call 10; (with_reducible first | refine (bytes_at _ _ _ hB.out _ (by omega) (by omega)).mono ?_ | refine (bytes_at _ _ _ hB2.out _ (by omega) (by omega)).mono ?_ | refine (bytes_at _ _ _ hC.out _ (by omega) (by omega)).mono ?_); rintro e w' ⟨rfl, rfl⟩)
        | (go_at_call 11; (with_reducible first | refine (cut_at _ _ _ h1.out _).mono ?_ | refine (cut_at _ _ _ h2.out _).mono ?_ | refine (cut_at _ _ _ h3.out _).mono ?_); rintro e w' ⟨rfl, rfl⟩))
      go_ret
      exact ⟨rfl, Below.refl _ _⟩
    · replace h3 : Hid (cutF x (1 + r) = c2) := hid_of (by have := h3.out; rw [if_neg (by omega)] at this; exact this)
      go_enter Try.func7, Try.ntmps7
      go_wp2_with (first
        | (go_at_call 14; (with_reducible first | refine (pick_at _ _ _ hx.out _ (by decide) (by decide)).mono ?_ | refine (pick_at _ _ _ hy.out _ (by decide) (by decide)).mono ?_ | refine (pick_at _ _ _ hd.out _ (by decide) (by decide)).mono ?_ | refine (pick_at _ _ _ he.out _ (by decide) (by decide)).mono ?_ | refine (pick_at _ _ _ hr.out _ (by decide) (by decide)).mono ?_ | refine (pick_at _ _ _ HP.out _ (by decide) (by decide)).mono ?_); rintro e w' ⟨rfl, rfl⟩)
        | (go_at_call 9; refine (known_any _).mono ?_; rintro e w' ⟨rfl, rfl⟩)
        | (go_at_call 10; (with_reducible first | refine (bytes_at _ _ _ hB.out _ (by omega) (by omega)).mono ?_ | refine (bytes_at _ _ _ hB2.out _ (by omega) (by omega)).mono ?_ | refine (bytes_at _ _ _ hC.out _ (by omega) (by omega)).mono ?_); rintro e w' ⟨rfl, rfl⟩)
        | (go_at_call 11; (with_reducible first | refine (cut_at _ _ _ h1.out _).mono ?_ | refine (cut_at _ _ _ h2.out _).mono ?_ | refine (cut_at _ _ _ h3.out _).mono ?_); rintro e w' ⟨rfl, rfl⟩))
      go_ret
      exact ⟨rfl, Below.refl _ _⟩
  · obtain ⟨c, c2, h1, h4, h2, h3⟩ := core 2 16777216 3 (by decide) (by decide)
    have HP := Lib.hid hp
    clear core hp
    by_cases hle : 3 ≤ 1 + r
    · obtain rfl : c = c2 := by
        have := h3.out
        rw [if_pos (by omega), h1.out] at this
        exact this
      clear h3
      have h3 := h1
      go_enter Try.func7, Try.ntmps7
      go_wp2_with (first
        | (go_at_call 14; (with_reducible first | refine (pick_at _ _ _ hx.out _ (by decide) (by decide)).mono ?_ | refine (pick_at _ _ _ hy.out _ (by decide) (by decide)).mono ?_ | refine (pick_at _ _ _ hd.out _ (by decide) (by decide)).mono ?_ | refine (pick_at _ _ _ he.out _ (by decide) (by decide)).mono ?_ | refine (pick_at _ _ _ hr.out _ (by decide) (by decide)).mono ?_ | refine (pick_at _ _ _ HP.out _ (by decide) (by decide)).mono ?_); rintro e w' ⟨rfl, rfl⟩)
        | (go_at_call 9; refine (known_any _).mono ?_; rintro e w' ⟨rfl, rfl⟩)
        | (go_at_call 10; (with_reducible first | refine (bytes_at _ _ _ hB.out _ (by omega) (by omega)).mono ?_ | refine (bytes_at _ _ _ hB2.out _ (by omega) (by omega)).mono ?_ | refine (bytes_at _ _ _ hC.out _ (by omega) (by omega)).mono ?_); rintro e w' ⟨rfl, rfl⟩)
        | (go_at_call 11; (with_reducible first | refine (cut_at _ _ _ h1.out _).mono ?_ | refine (cut_at _ _ _ h2.out _).mono ?_ | refine (cut_at _ _ _ h3.out _).mono ?_); rintro e w' ⟨rfl, rfl⟩))
      go_ret
      exact ⟨rfl, Below.refl _ _⟩
    · replace h3 : Hid (cutF x (1 + r) = c2) := hid_of (by have := h3.out; rw [if_neg (by omega)] at this; exact this)
      go_enter Try.func7, Try.ntmps7
      go_wp2_with (first
        | (go_at_call 14; (with_reducible first | refine (pick_at _ _ _ hx.out _ (by decide) (by decide)).mono ?_ | refine (pick_at _ _ _ hy.out _ (by decide) (by decide)).mono ?_ | refine (pick_at _ _ _ hd.out _ (by decide) (by decide)).mono ?_ | refine (pick_at _ _ _ he.out _ (by decide) (by decide)).mono ?_ | refine (pick_at _ _ _ hr.out _ (by decide) (by decide)).mono ?_ | refine (pick_at _ _ _ HP.out _ (by decide) (by decide)).mono ?_); rintro e w' ⟨rfl, rfl⟩)
        | (go_at_call 9; refine (known_any _).mono ?_; rintro e w' ⟨rfl, rfl⟩)
        | (go_at_call 10; (with_reducible first | refine (bytes_at _ _ _ hB.out _ (by omega) (by omega)).mono ?_ | refine (bytes_at _ _ _ hB2.out _ (by omega) (by omega)).mono ?_ | refine (bytes_at _ _ _ hC.out _ (by omega) (by omega)).mono ?_); rintro e w' ⟨rfl, rfl⟩)
        | (go_at_call 11; (with_reducible first | refine (cut_at _ _ _ h1.out _).mono ?_ | refine (cut_at _ _ _ h2.out _).mono ?_ | refine (cut_at _ _ _ h3.out _).mono ?_); rintro e w' ⟨rfl, rfl⟩))
      go_ret
      exact ⟨rfl, Below.refl _ _⟩
  · obtain ⟨c, c2, h1, h4, h2, h3⟩ := core 3 4294967296 4 (by decide) (by decide)
    have HP := Lib.hid hp
    clear core hp
    by_cases hle : 4 ≤ 1 + r
    · obtain rfl : c = c2 := by
        have := h3.out
        rw [if_pos (by omega), h1.out] at this
        exact this
      clear h3
      have h3 := h1
      go_enter Try.func7, Try.ntmps7
      go_wp2_with (first
        | (go_at_call 14; (with_reducible first | refine (pick_at _ _ _ hx.out _ (by decide) (by decide)).mono ?_ | refine (pick_at _ _ _ hy.out _ (by decide) (by decide)).mono ?_ | refine (pick_at _ _ _ hd.out _ (by decide) (by decide)).mono ?_ | refine (pick_at _ _ _ he.out _ (by decide) (by decide)).mono ?_ | refine (pick_at _ _ _ hr.out _ (by decide) (by decide)).mono ?_ | refine (pick_at _ _ _ HP.out _ (by decide) (by decide)).mono ?_); rintro e w' ⟨rfl, rfl⟩)
        | (go_at_call 9; refine (known_any _).mono ?_; rintro e w' ⟨rfl, rfl⟩)
        | (go_at_call 10; (with_reducible first | refine (bytes_at _ _ _ hB.out _ (by omega) (by omega)).mono ?_ | refine (bytes_at _ _ _ hB2.out _ (by omega) (by omega)).mono ?_ | refine (bytes_at _ _ _ hC.out _ (by omega) (by omega)).mono ?_); rintro e w' ⟨rfl, rfl⟩)
        | (go_at_call 11; (with_reducible first | refine (cut_at _ _ _ h1.out _).mono ?_ | refine (cut_at _ _ _ h2.out _).mono ?_ | refine (cut_at _ _ _ h3.out _).mono ?_); rintro e w' ⟨rfl, rfl⟩))
      go_ret
      exact ⟨rfl, Below.refl _ _⟩
    · replace h3 : Hid (cutF x (1 + r) = c2) := hid_of (by have := h3.out; rw [if_neg (by omega)] at this; exact this)
      go_enter Try.func7, Try.ntmps7
      go_wp2_with (first
        | (go_at_call 14; (with_reducible first | refine (pick_at _ _ _ hx.out _ (by decide) (by decide)).mono ?_ | refine (pick_at _ _ _ hy.out _ (by decide) (by decide)).mono ?_ | refine (pick_at _ _ _ hd.out _ (by decide) (by decide)).mono ?_ | refine (pick_at _ _ _ he.out _ (by decide) (by decide)).mono ?_ | refine (pick_at _ _ _ hr.out _ (by decide) (by decide)).mono ?_ | refine (pick_at _ _ _ HP.out _ (by decide) (by decide)).mono ?_); rintro e w' ⟨rfl, rfl⟩)
        | (go_at_call 9; refine (known_any _).mono ?_; rintro e w' ⟨rfl, rfl⟩)
        | (go_at_call 10; (with_reducible first | refine (bytes_at _ _ _ hB.out _ (by omega) (by omega)).mono ?_ | refine (bytes_at _ _ _ hB2.out _ (by omega) (by omega)).mono ?_ | refine (bytes_at _ _ _ hC.out _ (by omega) (by omega)).mono ?_); rintro e w' ⟨rfl, rfl⟩)
        | (go_at_call 11; (with_reducible first | refine (cut_at _ _ _ h1.out _).mono ?_ | refine (cut_at _ _ _ h2.out _).mono ?_ | refine (cut_at _ _ _ h3.out _).mono ?_); rintro e w' ⟨rfl, rfl⟩))
      go_ret
      exact ⟨rfl, Below.refl _ _⟩
end Go.Proofs.Ytmdmkjkdfagcfaa
