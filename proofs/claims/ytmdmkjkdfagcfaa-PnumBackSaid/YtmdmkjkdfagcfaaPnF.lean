/- PnumBack: the walk. Conditions: the numbers fit their kinds. -/
import Derived.Test.YtmdmkjkdfagcfaaPnD
namespace Go.Proofs.Ytmdmkjkdfagcfaa
open Go Go.RowKit

/-- What is cut to enough comes back. -/
theorem there_back (n k x : Int) (h0 : 0 ≤ x) (h1 : x ≤ n) (h2 : n ≤ 4611686018427387903) (h3 : 2 * (n - x) < tn k) : backF (cutF n k) k x = n := by
  have ht := tn_or k
  have hd : (x - cutF n k) % tn k = (x - n) % tn k := by
    unfold cutF
    rw [Int.sub_emod, Int.emod_emod_of_dvd n (Int.dvd_refl _), ← Int.sub_emod]
  unfold backF
  rw [mayR_id x h0 (by omega)]
  unfold backG
  rw [hd]
  generalize tn k = t at *
  have e : x - (x - n) % t = if x = n then n else n - t := by
    split
    · rename_i h; subst h; simp
    · have : (x - n) % t = x - n + t := by
        rw [← Int.add_emod_right]
        exact Int.emod_eq_of_lt (by omega) (by omega)
      omega
  simp only [e]
  split
  · rename_i h; subst h
    rw [if_neg (by omega)]
    split
    · rfl
    · rw [if_neg (by omega)]
  · split
    · omega
    · rw [if_neg (by omega), if_pos (by omega)]; omega

theorem tn_mono (k m : Int) (hm : 0 ≤ m) : tn k ≤ tn (k + m) := by
  unfold tn; (repeat' split) <;> omega

set_option maxHeartbeats 4000000 in
theorem backw (k lim half big : Int) (hl : (k = 1 ∧ half = 0 ∧ big = 0) ∨ (k = 2 ∧ half = 128 ∧ big = 256) ∨ (k = 3 ∧ half = 32768 ∧ big = 65536) ∨ (k = 4 ∧ half = 8388608 ∧ big = 16777216)) (a0 a1 a2 a3 a4 q : Int) (w : World) 
    (hq : (q = 0 ∧ lim = 128) ∨ (q = 1 ∧ lim = 32768) ∨ (q = 2 ∧ lim = 8388608) ∨ (q = 3 ∧ lim = 2147483648)) (hq4 : a4 % 4 = q)
    (hk : bytesF (a0 % 1099511627776 - 1 + (1 + a1 % lim)) (a0 % 1099511627776 - 1) = k) :
    Calls Try.prog 5 #[.int .i64 a0, .int .i64 a1, .int .i64 a2, .int .i64 a3, .int .i64 a4] w fun e w' => e = .returned (.bool true) ∧ Below w.heap.size w w' := by
  obtain ⟨u, hu⟩ : ∃ x, Hid (a0 % 1099511627776 = x) := ⟨_, rfl⟩
  have u0 : 0 ≤ u ∧ u < 1099511627776 := by have := hu.out; omega
  obtain ⟨u0, u1⟩ := u0
  rw [hu.out] at hk
  obtain ⟨d, hd⟩ : ∃ x, Hid (a1 % lim = x) := ⟨_, rfl⟩
  rw [hd.out] at hk
  have hlim : 128 ≤ lim ∧ lim ≤ 2147483648 := by omega
  have d0 : 0 ≤ d ∧ d < lim := by rw [← hd.out]; exact ⟨Int.emod_nonneg _ (by omega), Int.emod_lt_of_pos _ (by omega)⟩
  obtain ⟨d0, d1⟩ := d0
  have dmax : d < 2147483648 := by omega
  obtain ⟨x, hx⟩ : ∃ x, Hid (a2 % (1 + d) = x) := ⟨_, rfl⟩
  have x0 : 0 ≤ x := by rw [← hx.out]; exact Int.emod_nonneg _ (by omega)
  have x1 : x < 1 + d := by rw [← hx.out]; exact Int.emod_lt_of_pos _ (by omega)
  have hd2 : half < 1 + d ∧ 2 * (1 + d) ≤ tn k := by
    have := bytesF_cases (u - 1 + (1 + d)) (u - 1)
    rw [hk] at this
    unfold tn
    rcases hl with ⟨rfl, rfl, rfl⟩ | ⟨rfl, rfl, rfl⟩ | ⟨rfl, rfl, rfl⟩ | ⟨rfl, rfl, rfl⟩ <;> simp at this ⊢ <;> omega
  obtain ⟨hd2, hd3⟩ := hd2
  have hbig : decide (big < 2 * (1 + d)) = true := by rw [decide_eq_true_eq]; omega
  have k0 : 1 ≤ k ∧ k ≤ 4 := by omega
  obtain ⟨k0, k1⟩ := k0
  obtain ⟨m, hm⟩ : ∃ x, Hid (a3 % (5 - k) = x) := ⟨_, rfl⟩
  have m0 : 0 ≤ m := by rw [← hm.out]; exact Int.emod_nonneg _ (by omega)
  have m1 : m < 5 - k := by rw [← hm.out]; exact Int.emod_lt_of_pos _ (by omega)
  obtain ⟨c, hc⟩ : ∃ x, Hid (cutF (u - 1 + (1 + d)) k = x) := ⟨_, rfl⟩
  obtain ⟨c', hc'⟩ : ∃ x, Hid (cutF (u - 1 + (1 + d)) (k + m) = x) := ⟨_, rfl⟩
  have e1 : Hid (backF c k (u + x) = u - 1 + (1 + d)) := hid_of (by rw [← hc.out]; exact there_back _ _ _ (by omega) (by omega) (by omega) (by omega))
  have e2 : Hid (backF c' (k + m) (u + x) = u - 1 + (1 + d)) := hid_of (by rw [← hc'.out]; exact there_back _ _ _ (by omega) (by omega) (by omega) (by have := tn_mono k m m0; omega))
  have HK := Lib.hid hk
  have HQ := Lib.hid hq4
  clear hk hq4
  have i0 : ∀ w, (Instr.index 27 (.agg #[.int .i64 128, .int .i64 32768, .int .i64 8388608, .int .i64 2147483648]) (.int .i64 0)).run Try.prog w = .ok (.int .i64 128) w := fun _ => by kernel_rfl
  have i1 : ∀ w, (Instr.index 27 (.agg #[.int .i64 128, .int .i64 32768, .int .i64 8388608, .int .i64 2147483648]) (.int .i64 1)).run Try.prog w = .ok (.int .i64 32768) w := fun _ => by kernel_rfl
  have i2 : ∀ w, (Instr.index 27 (.agg #[.int .i64 128, .int .i64 32768, .int .i64 8388608, .int .i64 2147483648]) (.int .i64 2)).run Try.prog w = .ok (.int .i64 8388608) w := fun _ => by kernel_rfl
  have i3 : ∀ w, (Instr.index 27 (.agg #[.int .i64 128, .int .i64 32768, .int .i64 8388608, .int .i64 2147483648]) (.int .i64 3)).run Try.prog w = .ok (.int .i64 2147483648) w := fun _ => by kernel_rfl
  rcases hq with ⟨rfl, rfl⟩ | ⟨rfl, rfl⟩ | ⟨rfl, rfl⟩ | ⟨rfl, rfl⟩ <;> rcases hl with ⟨rfl, rfl, rfl⟩ | ⟨rfl, rfl, rfl⟩ | ⟨rfl, rfl, rfl⟩ | ⟨rfl, rfl, rfl⟩
  all_goals (try (exfalso; omega))
  all_goals simp only [Int.reduceSub] at hm m1
  all_goals
    go_enter Try.func5, Try.ntmps5
    go_wp2_with (first
      | (go_at_call 14; (with_reducible first | refine (pick_at _ _ _ hu.out _ (by decide) (by decide)).mono ?_ | refine (pick_at _ _ _ hd.out _ (by decide) (by decide)).mono ?_ | refine (pick_at _ _ _ hx.out _ (by omega) (by omega)).mono ?_ | refine (pick_at _ _ _ hm.out _ (by decide) (by decide)).mono ?_ | refine (pick_at _ _ _ HQ.out _ (by decide) (by decide)).mono ?_); rintro e w' ⟨rfl, rfl⟩)
      | (go_at_call 9; refine (known_any _).mono ?_; rintro e w' ⟨rfl, rfl⟩)
      | (go_at_call 10; (with_reducible refine (bytes_at _ _ _ HK.out _ (by omega) (by omega)).mono ?_); rintro e w' ⟨rfl, rfl⟩)
      | (go_at_call 11; (with_reducible first | refine (cut_at _ _ _ hc.out _).mono ?_ | refine (cut_at _ _ _ hc'.out _).mono ?_); rintro e w' ⟨rfl, rfl⟩)
      | (go_at_call 12; (with_reducible first | refine (back_at _ _ _ _ e1.out _).mono ?_ | refine (back_at _ _ _ _ e2.out _).mono ?_); rintro e w' ⟨rfl, rfl⟩))

    all_goals
      go_ret
      exact ⟨rfl, Below.refl _ _⟩
theorem back_walk (a0 a1 a2 a3 a4 : Int) (w : World) (_ : -9223372036854775808 ≤ a0) (_ : a0 ≤ 9223372036854775807) (_ : -9223372036854775808 ≤ a1) (_ : a1 ≤ 9223372036854775807) (_ : -9223372036854775808 ≤ a2) (_ : a2 ≤ 9223372036854775807)
    (_ : -9223372036854775808 ≤ a3) (_ : a3 ≤ 9223372036854775807) (_ : -9223372036854775808 ≤ a4) (_ : a4 ≤ 9223372036854775807) :
    Calls Try.prog 5 #[.int .i64 a0, .int .i64 a1, .int .i64 a2, .int .i64 a3, .int .i64 a4] w fun e w' => e = .returned (.bool true) ∧ Below w.heap.size w w' := by
  have hq : a4 % 4 = 0 ∨ a4 % 4 = 1 ∨ a4 % 4 = 2 ∨ a4 % 4 = 3 := by omega
  have hb : ∀ n a, bytesF n a = 1 ∨ bytesF n a = 2 ∨ bytesF n a = 3 ∨ bytesF n a = 4 := fun n a => by
    rcases bytesF_cases n a with h | h | h | h <;> simp [h.1]
  obtain ⟨q, lim, hql, hq4⟩ : ∃ q lim : Int, ((q = 0 ∧ lim = 128) ∨ (q = 1 ∧ lim = 32768) ∨ (q = 2 ∧ lim = 8388608) ∨ (q = 3 ∧ lim = 2147483648)) ∧ a4 % 4 = q := by
    rcases hq with h | h | h | h
    · exact ⟨0, 128, .inl ⟨rfl, rfl⟩, h⟩
    · exact ⟨1, 32768, .inr (.inl ⟨rfl, rfl⟩), h⟩
    · exact ⟨2, 8388608, .inr (.inr (.inl ⟨rfl, rfl⟩)), h⟩
    · exact ⟨3, 2147483648, .inr (.inr (.inr ⟨rfl, rfl⟩)), h⟩
  rcases hb (a0 % 1099511627776 - 1 + (1 + a1 % lim)) (a0 % 1099511627776 - 1) with h | h | h | h
  · exact backw 1 lim 0 0 (.inl ⟨rfl, rfl, rfl⟩) a0 a1 a2 a3 a4 q w hql hq4 h
  · exact backw 2 lim 128 256 (.inr (.inl ⟨rfl, rfl, rfl⟩)) a0 a1 a2 a3 a4 q w hql hq4 h
  · exact backw 3 lim 32768 65536 (.inr (.inr (.inl ⟨rfl, rfl, rfl⟩))) a0 a1 a2 a3 a4 q w hql hq4 h
  · exact backw 4 lim 8388608 16777216 (.inr (.inr (.inr ⟨rfl, rfl, rfl⟩))) a0 a1 a2 a3 a4 q w hql hq4 h
end Go.Proofs.Ytmdmkjkdfagcfaa
