/- The reference's Back. Conditions: as each theorem lists them. -/
import Derived.Test.YtmdmkjkdfagcfaaPnH
namespace Go.Proofs.Ytmdmkjkdfagcfaa
open Go Go.RowKit

theorem may_yes (n : Int) (w : World) (h0 : 0 ≤ n) (h1 : n ≤ 4611686018427387903) : Calls Try.prog 21 #[.int .i64 n] w fun e w' => e = .returned (.bool true) ∧ w = w' := by
  have h := may_any n w
  rwa [show mayB n = true by unfold mayB; simp [h0, h1]] at h
theorem may_lo (n : Int) (w : World) (h0 : n < 0) : Calls Try.prog 21 #[.int .i64 n] w fun e w' => e = .returned (.bool false) ∧ w = w' := by
  have h := may_any n w
  rwa [show mayB n = false by unfold mayB; simp; omega] at h
theorem may_hi (n : Int) (w : World) (h0 : 4611686018427387903 < n) : Calls Try.prog 21 #[.int .i64 n] w fun e w' => e = .returned (.bool false) ∧ w = w' := by
  have h := may_any n w
  rwa [show mayB n = false by unfold mayB; simp; omega] at h

/-- What is the best so far, ahead of round i. -/
def BestR (r a m i b : Int) : Prop := (i = -1 ∧ b = -1) ∨ (i = 0 ∧ ((b = -1 ∧ a - m < 0) ∨ (b = a - m ∧ 0 ≤ a - m))) ∨ (i = 1 ∧ ((b = a ∧ 0 ≤ a) ∨ (b = -1 ∧ a < 0))) ∨ (i = 2 ∧ b = r) ∨ (i = 3 ∧ b = r)

set_option maxHeartbeats 2000000 in
theorem rback_any (cut k next : Int) (w : World) :
    Calls Try.prog 18 #[.int .i64 cut, .int .i64 k, .int .i64 next] w fun e w' => e = .returned (.int .i64 (backF cut k next)) ∧ w = w' := by
  obtain ⟨x, hx⟩ : ∃ x, mayR next = x := ⟨_, rfl⟩
  have hx0 := mayR_in next
  rw [hx] at hx0
  obtain ⟨x0, x1⟩ := hx0
  have HX : Hid (inR next 0 4611686018427387903 = x) := hx
  obtain ⟨t, ht⟩ : ∃ t, tn k = t := ⟨_, rfl⟩
  have hto := tn_or k
  rw [ht] at hto
  obtain ⟨c, hc⟩ : ∃ c, (x - cut) % t = c := ⟨_, rfl⟩
  obtain ⟨u, hu⟩ : ∃ u, Hid (cut % t = u) := ⟨_, rfl⟩
  have t0 : 256 ≤ t := by omega
  have t1 : t ≤ 4294967296 := by omega
  have c0 : 0 ≤ c := by rw [← hc]; exact Int.emod_nonneg _ (by omega)
  have c1 : c < t := by rw [← hc]; exact Int.emod_lt_of_pos _ (by omega)
  have u0 : 0 ≤ u := by rw [← hu.out]; exact Int.emod_nonneg _ (by omega)
  have u1 : u < t := by rw [← hu.out]; exact Int.emod_lt_of_pos _ (by omega)
  have HC : Hid ((x - u) % t = c) := hid_of (by rw [← hu.out, ← hc, Int.sub_emod, Int.emod_emod_of_dvd cut (Int.dvd_refl _), ← Int.sub_emod])
  obtain ⟨a, ha⟩ : ∃ a, Hid (x - c = a) := ⟨_, rfl⟩
  have a0 : a ≤ x := by have := ha.out; omega
  have a1 : x < a + t := by have := ha.out; omega
  obtain ⟨r, hr⟩ : ∃ r, Hid (backF cut k next = r) := ⟨_, rfl⟩
  have HG : Hid (r = if a < 0 then a + t else if 4611686018427387903 < a + t then a else if (a + t) - x ≤ x - a then a + t else a) := hid_of (by
    rw [← hr.out, ← ha.out]
    unfold backF backG
    rw [hx, ht, hc])
  have HT := Lib.hid ht
  have HA : Hid (a = x - c) := hid_of ha.out.symm
  have hac : a = x - c := HA.out
  rw [hr.out]
  clear hc ht hx hto ha hr
  subst hac
  go_enter Try.func18, Try.ntmps18
  go_wp2_with (first
    | (go_at_call 23; refine (radix_at _ _ HT.out _).mono ?_; rintro e w' ⟨rfl, rfl⟩)
    | (go_at_call 24; refine (rwithin_at _ _ _ _ HX.out _ (by decide)).mono ?_; rintro e w' ⟨rfl, rfl⟩)
    | (go_at_call 22; (with_reducible first | refine (modulo_at _ _ _ hu.out _ (by omega) (by omega)).mono ?_ | refine (modulo_at _ _ _ HC.out _ (by omega) (by omega)).mono ?_); rintro e w' ⟨rfl, rfl⟩))
  go_loop [8, 10] (fun b i => ∃ bi ii : Int, i = .int .i64 ii ∧ b = .int .i64 bi ∧ BestR r (x - c) t ii bi) (fun _ i => (3 - intOf i).toNat)
  case atStart => exact ⟨-1, -1, rfl, rfl, .inl ⟨rfl, rfl⟩⟩
  case round =>
    obtain ⟨b, i, rfl, rfl, hR⟩ := hrel
    rcases hR with ⟨rfl, rfl⟩ | ⟨rfl, h⟩ | ⟨rfl, h⟩ | ⟨rfl, hb⟩ | ⟨rfl, rfl⟩
    · by_cases h : 0 ≤ x - c - t
      all_goals
        go_wp2_with (go_at_call 21; (first | refine (may_yes _ _ (by omega) (by omega)).mono ?_ | refine (may_lo _ _ (by omega)).mono ?_ | refine (may_hi _ _ (by omega)).mono ?_); rintro e w' ⟨rfl, rfl⟩)
        all_goals exact ⟨⟨_, _, rfl, rfl, by unfold BestR; omega⟩, by simp [intOf]⟩
    · by_cases h2 : 0 ≤ x - c
      · rcases h with ⟨rfl, h⟩ | ⟨rfl, h⟩
        all_goals
          go_wp2_with (go_at_call 21; (first | refine (may_yes _ _ (by omega) (by omega)).mono ?_ | refine (may_lo _ _ (by omega)).mono ?_ | refine (may_hi _ _ (by omega)).mono ?_); rintro e w' ⟨rfl, rfl⟩)
          all_goals exact ⟨⟨_, _, rfl, rfl, by unfold BestR; omega⟩, by simp [intOf]⟩
      · rcases h with ⟨rfl, h⟩ | ⟨rfl, h⟩
        · go_wp2_with (go_at_call 21; (first | refine (may_yes _ _ (by omega) (by omega)).mono ?_ | refine (may_lo _ _ (by omega)).mono ?_ | refine (may_hi _ _ (by omega)).mono ?_); rintro e w' ⟨rfl, rfl⟩)
          all_goals exact ⟨⟨_, _, rfl, rfl, by unfold BestR; omega⟩, by simp [intOf]⟩
        · exact absurd h (by omega)
    · have HR : (x - c < 0 ∧ r = x - c + t) ∨ (0 ≤ x - c ∧ 4611686018427387903 < x - c + t ∧ r = x - c) ∨ (0 ≤ x - c ∧ x - c + t ≤ 4611686018427387903 ∧ x - c + t - x < c ∧ r = x - c + t) ∨ (0 ≤ x - c ∧ x - c + t ≤ 4611686018427387903 ∧ x - c + t - x ≤ c ∧ c ≤ x - c + t - x ∧ r = x - c + t) ∨ (0 ≤ x - c ∧ x - c + t ≤ 4611686018427387903 ∧ c < x - c + t - x ∧ r = x - c) := by
        have := HG.out
        (repeat' split at this) <;> omega
      clear HG
      rcases h with ⟨rfl, h⟩ | ⟨rfl, h⟩
      · rcases HR with HR | ⟨g1, g2, rfl⟩ | ⟨g1, g2, g3, rfl⟩ | ⟨g1, g2, g3, g3', rfl⟩ | ⟨g1, g2, g3, rfl⟩
        · omega
        · go_wp2_with (go_at_call 21; (first | refine (may_yes _ _ (by omega) (by omega)).mono ?_ | refine (may_lo _ _ (by omega)).mono ?_ | refine (may_hi _ _ (by omega)).mono ?_); rintro e w' ⟨rfl, rfl⟩)
          all_goals exact ⟨⟨_, _, rfl, rfl, by unfold BestR; omega⟩, by simp [intOf]⟩
        · go_wp2_with (go_at_call 21; (first | refine (may_yes _ _ (by omega) (by omega)).mono ?_ | refine (may_lo _ _ (by omega)).mono ?_ | refine (may_hi _ _ (by omega)).mono ?_); rintro e w' ⟨rfl, rfl⟩)
          all_goals exact ⟨⟨_, _, rfl, rfl, by unfold BestR; omega⟩, by simp [intOf]⟩
        · have g4 : (x - c + t - x == x - (x - c)) = true := beq_iff_eq.2 (by omega)
          go_wp2_with (go_at_call 21; (first | refine (may_yes _ _ (by omega) (by omega)).mono ?_ | refine (may_lo _ _ (by omega)).mono ?_ | refine (may_hi _ _ (by omega)).mono ?_); rintro e w' ⟨rfl, rfl⟩)
          all_goals exact ⟨⟨_, _, rfl, rfl, by unfold BestR; omega⟩, by simp [intOf]⟩
        · have g4 : (x - c + t - x == x - (x - c)) = false := beq_eq_false_iff_ne.2 (by omega)
          go_wp2_with (go_at_call 21; (first | refine (may_yes _ _ (by omega) (by omega)).mono ?_ | refine (may_lo _ _ (by omega)).mono ?_ | refine (may_hi _ _ (by omega)).mono ?_); rintro e w' ⟨rfl, rfl⟩)
          all_goals exact ⟨⟨_, _, rfl, rfl, by unfold BestR; omega⟩, by simp [intOf]⟩
      · obtain ⟨g1, rfl⟩ : x - c < 0 ∧ r = x - c + t := by omega
        clear HR
        go_wp2_with (go_at_call 21; (first | refine (may_yes _ _ (by omega) (by omega)).mono ?_ | refine (may_lo _ _ (by omega)).mono ?_ | refine (may_hi _ _ (by omega)).mono ?_); rintro e w' ⟨rfl, rfl⟩)
        all_goals exact ⟨⟨_, _, rfl, rfl, by unfold BestR; omega⟩, by simp [intOf]⟩
    · obtain rfl : r = b := hb.symm
      have HR : (x - c < 0 ∧ r = x - c + t) ∨ (0 ≤ x - c ∧ 4611686018427387903 < x - c + t ∧ r = x - c) ∨ (0 ≤ x - c ∧ x - c + t ≤ 4611686018427387903 ∧ x - c + t - x < c ∧ r = x - c + t) ∨ (0 ≤ x - c ∧ x - c + t ≤ 4611686018427387903 ∧ x - c + t - x ≤ c ∧ c ≤ x - c + t - x ∧ r = x - c + t) ∨ (0 ≤ x - c ∧ x - c + t ≤ 4611686018427387903 ∧ c < x - c + t - x ∧ r = x - c) := by
        have := HG.out
        (repeat' split at this) <;> omega
      clear HG
      rcases HR with ⟨g1, rfl⟩ | ⟨g1, g2, rfl⟩ | ⟨g1, g2, g3, rfl⟩ | ⟨g1, g2, g3, g3', rfl⟩ | ⟨g1, g2, g3, rfl⟩
      · by_cases h2 : x - c + 2 * t ≤ 4611686018427387903
        · go_wp2_with (go_at_call 21; (first | refine (may_yes _ _ (by omega) (by omega)).mono ?_ | refine (may_lo _ _ (by omega)).mono ?_ | refine (may_hi _ _ (by omega)).mono ?_); rintro e w' ⟨rfl, rfl⟩)
          all_goals exact ⟨⟨_, _, rfl, rfl, by unfold BestR; omega⟩, by simp [intOf]⟩
        · go_wp2_with (go_at_call 21; (first | refine (may_yes _ _ (by omega) (by omega)).mono ?_ | refine (may_lo _ _ (by omega)).mono ?_ | refine (may_hi _ _ (by omega)).mono ?_); rintro e w' ⟨rfl, rfl⟩)
          all_goals exact ⟨⟨_, _, rfl, rfl, by unfold BestR; omega⟩, by simp [intOf]⟩
      · by_cases h2 : x - c + 2 * t ≤ 4611686018427387903
        · go_wp2_with (go_at_call 21; (first | refine (may_yes _ _ (by omega) (by omega)).mono ?_ | refine (may_lo _ _ (by omega)).mono ?_ | refine (may_hi _ _ (by omega)).mono ?_); rintro e w' ⟨rfl, rfl⟩)
          all_goals exact ⟨⟨_, _, rfl, rfl, by unfold BestR; omega⟩, by simp [intOf]⟩
        · go_wp2_with (go_at_call 21; (first | refine (may_yes _ _ (by omega) (by omega)).mono ?_ | refine (may_lo _ _ (by omega)).mono ?_ | refine (may_hi _ _ (by omega)).mono ?_); rintro e w' ⟨rfl, rfl⟩)
          all_goals exact ⟨⟨_, _, rfl, rfl, by unfold BestR; omega⟩, by simp [intOf]⟩
      · by_cases h2 : x - c + 2 * t ≤ 4611686018427387903
        · go_wp2_with (go_at_call 21; (first | refine (may_yes _ _ (by omega) (by omega)).mono ?_ | refine (may_lo _ _ (by omega)).mono ?_ | refine (may_hi _ _ (by omega)).mono ?_); rintro e w' ⟨rfl, rfl⟩)
          all_goals exact ⟨⟨_, _, rfl, rfl, by unfold BestR; omega⟩, by simp [intOf]⟩
        · go_wp2_with (go_at_call 21; (first | refine (may_yes _ _ (by omega) (by omega)).mono ?_ | refine (may_lo _ _ (by omega)).mono ?_ | refine (may_hi _ _ (by omega)).mono ?_); rintro e w' ⟨rfl, rfl⟩)
          all_goals exact ⟨⟨_, _, rfl, rfl, by unfold BestR; omega⟩, by simp [intOf]⟩
      · by_cases h2 : x - c + 2 * t ≤ 4611686018427387903
        · go_wp2_with (go_at_call 21; (first | refine (may_yes _ _ (by omega) (by omega)).mono ?_ | refine (may_lo _ _ (by omega)).mono ?_ | refine (may_hi _ _ (by omega)).mono ?_); rintro e w' ⟨rfl, rfl⟩)
          all_goals exact ⟨⟨_, _, rfl, rfl, by unfold BestR; omega⟩, by simp [intOf]⟩
        · go_wp2_with (go_at_call 21; (first | refine (may_yes _ _ (by omega) (by omega)).mono ?_ | refine (may_lo _ _ (by omega)).mono ?_ | refine (may_hi _ _ (by omega)).mono ?_); rintro e w' ⟨rfl, rfl⟩)
          all_goals exact ⟨⟨_, _, rfl, rfl, by unfold BestR; omega⟩, by simp [intOf]⟩
      · by_cases h2 : x - c + 2 * t ≤ 4611686018427387903
        · go_wp2_with (go_at_call 21; (first | refine (may_yes _ _ (by omega) (by omega)).mono ?_ | refine (may_lo _ _ (by omega)).mono ?_ | refine (may_hi _ _ (by omega)).mono ?_); rintro e w' ⟨rfl, rfl⟩)
          all_goals exact ⟨⟨_, _, rfl, rfl, by unfold BestR; omega⟩, by simp [intOf]⟩
        · go_wp2_with (go_at_call 21; (first | refine (may_yes _ _ (by omega) (by omega)).mono ?_ | refine (may_lo _ _ (by omega)).mono ?_ | refine (may_hi _ _ (by omega)).mono ?_); rintro e w' ⟨rfl, rfl⟩)
          all_goals exact ⟨⟨_, _, rfl, rfl, by unfold BestR; omega⟩, by simp [intOf]⟩
    · go_wp2
      go_ret
      exact ⟨rfl, rfl⟩
end Go.Proofs.Ytmdmkjkdfagcfaa
