/- The reference's Bytes, Cut, Back. Conditions: as each theorem lists them. -/
import Derived.Test.YtmdmkjkdfagcfaaPnD
namespace Go.Proofs.Ytmdmkjkdfagcfaa
open Go Go.RowKit

set_option maxHeartbeats 400000 in
theorem rwithin_any (n a b : Int) (w : World) (hab : a ≤ b) :
    Calls Try.prog 24 #[.int .i64 n, .int .i64 a, .int .i64 b] w fun e w' => e = .returned (.int .i64 (inR n a b)) ∧ w = w' := by
  obtain ⟨r, hr⟩ : ∃ r, Hid (inR n a b = r) := ⟨_, rfl⟩
  have hrr : (n ≤ a ∧ r = a) ∨ (a < n ∧ n < b ∧ r = n) ∨ (a < n ∧ b ≤ n ∧ r = b) := by
    rw [← hr.out]; unfold inR; (repeat' split) <;> omega
  rw [hr.out]
  rcases hrr with ⟨h1, rfl⟩ | ⟨h1, h2, rfl⟩ | ⟨h1, h2, rfl⟩
  · by_cases h3 : n < b
    · by_cases h4 : r < n
      · omega
      · go_enter Try.func24, Try.ntmps24
        go_wp2
        all_goals
          go_ret
          exact ⟨ret_int (by omega), rfl⟩
    · go_enter Try.func24, Try.ntmps24
      go_wp2
      all_goals
        go_ret
        exact ⟨ret_int (by omega), rfl⟩
  · go_enter Try.func24, Try.ntmps24
    go_wp2
    all_goals
      go_ret
      exact ⟨ret_int (by omega), rfl⟩
  · go_enter Try.func24, Try.ntmps24
    go_wp2
    all_goals
      go_ret
      exact ⟨ret_int (by omega), rfl⟩
theorem rwithin_at (n a b r : Int) (h : inR n a b = r) (w : World) (hab : a ≤ b) :
    Calls Try.prog 24 #[.int .i64 n, .int .i64 a, .int .i64 b] w fun e w' => e = .returned (.int .i64 r) ∧ w = w' := by
  have := rwithin_any n a b w hab
  rwa [h] at this

set_option maxHeartbeats 400000 in
theorem radix_any (k : Int) (w : World) :
    Calls Try.prog 23 #[.int .i64 k] w fun e w' => e = .returned (.int .i64 (tn k)) ∧ w = w' := by
  rcases tn_cases k with ⟨h, g⟩ | ⟨h, g⟩ | ⟨h, g⟩ | ⟨h, g⟩
  all_goals
    have G := Lib.hid g
    rw [h]
    clear g h
    go_enter Try.func23, Try.ntmps23
    go_wp2_with (go_at_call 24; refine (rwithin_at _ _ _ _ G.out _ (by decide)).mono ?_; rintro e w' ⟨rfl, rfl⟩)
    go_ret
    exact ⟨rfl, rfl⟩
theorem radix_at (k r : Int) (h : tn k = r) (w : World) :
    Calls Try.prog 23 #[.int .i64 k] w fun e w' => e = .returned (.int .i64 r) ∧ w = w' := by
  have := radix_any k w
  rwa [h] at this

theorem modulo_eq (n m : Int) (hm : 0 < m) (hm2 : m ≤ 4611686018427387904) : wrap64 (n.tmod m + m) = n.tmod m + m ∧ (n.tmod m + m).tmod m = n % m := by
  have h0 := Int.emod_nonneg n (show m ≠ 0 by omega)
  have h1 := Int.emod_lt_of_pos n hm
  have e := Int.tmod_eq_emod (a := n) (b := m)
  have hc : n.tmod m = n % m ∨ n.tmod m = n % m - m := by
    split at e
    · left; omega
    · right; have : (m.natAbs : Int) = m := by omega
      omega
  refine ⟨?_, ?_⟩
  · exact IntWalk.wrap64_in _ (by omega)
  · have hp : 0 ≤ n.tmod m + m := by omega
    rw [Int.tmod_eq_emod_of_nonneg hp, Int.add_emod_right]
    rcases hc with h | h
    · rw [h, Int.emod_emod_of_dvd _ (Int.dvd_refl _)]
    · rw [h]
      have : n % m - m = n % m + m * (-1) := by omega
      rw [this, Int.add_mul_emod_self_left, Int.emod_emod_of_dvd _ (Int.dvd_refl _)]

set_option maxHeartbeats 400000 in
theorem modulo_any (n m : Int) (w : World) (hm : 0 < m) (hm2 : m ≤ 4611686018427387904) :
    Calls Try.prog 22 #[.int .i64 n, .int .i64 m] w fun e w' => e = .returned (.int .i64 (n % m)) ∧ w = w' := by
  have hmz : (m == 0) = false := by simp; omega
  obtain ⟨h1, h2⟩ := modulo_eq n m hm hm2
  have H2 := Lib.hid h2
  clear h2
  go_enter Try.func22, Try.ntmps22
  go_wp2
  go_ret
  exact ⟨ret_int H2.out, rfl⟩
theorem modulo_at (n m r : Int) (h : n % m = r) (w : World) (hm : 0 < m) (hm2 : m ≤ 4611686018427387904) :
    Calls Try.prog 22 #[.int .i64 n, .int .i64 m] w fun e w' => e = .returned (.int .i64 r) ∧ w = w' := by
  have := modulo_any n m w hm hm2
  rwa [h] at this

set_option maxHeartbeats 400000 in
theorem rcut_any (n k : Int) (w : World) :
    Calls Try.prog 16 #[.int .i64 n, .int .i64 k] w fun e w' => e = .returned (.int .i64 (cutF n k)) ∧ w = w' := by
  obtain ⟨t, ht⟩ : ∃ t, Hid (tn k = t) := ⟨_, rfl⟩
  have hto := tn_or k
  rw [ht.out] at hto
  have t0 : 0 < t := by omega
  have t1 : t ≤ 4611686018427387904 := by omega
  clear hto
  unfold cutF
  rw [ht.out]
  go_enter Try.func16, Try.ntmps16
  go_wp2_with (first | (go_at_call 23; refine (radix_at _ _ ht.out _).mono ?_; rintro e w' ⟨rfl, rfl⟩) | (go_at_call 22; refine (modulo_any _ _ _ t0 t1).mono ?_; rintro e w' ⟨rfl, rfl⟩))
  go_ret
  exact ⟨rfl, rfl⟩
theorem rcut_at (n k r : Int) (h : cutF n k = r) (w : World) :
    Calls Try.prog 16 #[.int .i64 n, .int .i64 k] w fun e w' => e = .returned (.int .i64 r) ∧ w = w' := by
  have := rcut_any n k w
  rwa [h] at this

set_option maxHeartbeats 400000 in
theorem rbytes_any (n a : Int) (w : World) (h1 : -9223372036854775808 ≤ n - a) (h2 : n - a ≤ 9223372036854775807) :
    Calls Try.prog 15 #[.int .i64 n, .int .i64 a] w fun e w' => e = .returned (.int .i64 (bytesF n a)) ∧ w = w' := by
  rcases bytesF_cases n a with ⟨e, b⟩ | ⟨e, b, b2⟩ | ⟨e, b, b2⟩ | ⟨e, b⟩
  all_goals
    rw [e]
    clear e
    go_enter Try.func15, Try.ntmps15
    go_wp2
  · go_loop [6] (fun i => ∃ k : Int, 1 ≤ k ∧ k ≤ 1 ∧ i = .int .i64 k) (fun i => (1 - intOf i).toNat)
    case atStart => exact ⟨1, by omega, by omega, rfl⟩
    case round =>
      obtain ⟨k, hk1, hk2, rfl⟩ := hrel
      obtain rfl : k = 1 := by omega
      go_wp2
      go_ret
      exact ⟨rfl, rfl⟩
  · go_loop [6] (fun i => ∃ k : Int, 1 ≤ k ∧ k ≤ 2 ∧ i = .int .i64 k) (fun i => (2 - intOf i).toNat)
    case atStart => exact ⟨1, by omega, by omega, rfl⟩
    case round =>
      obtain ⟨k, hk1, hk2, rfl⟩ := hrel
      obtain rfl | rfl : k = 1 ∨ k = 2 := by omega
      · go_wp2
        go_round
        case rel => exact ⟨2, by omega, by omega, rfl⟩
        case measure => simp [intOf]
      · go_wp2
        go_ret
        exact ⟨rfl, rfl⟩
  · go_loop [6] (fun i => ∃ k : Int, 1 ≤ k ∧ k ≤ 3 ∧ i = .int .i64 k) (fun i => (3 - intOf i).toNat)
    case atStart => exact ⟨1, by omega, by omega, rfl⟩
    case round =>
      obtain ⟨k, hk1, hk2, rfl⟩ := hrel
      obtain rfl | rfl | rfl : k = 1 ∨ k = 2 ∨ k = 3 := by omega
      · go_wp2
        go_round
        case rel => exact ⟨2, by omega, by omega, rfl⟩
        case measure => simp [intOf]
      · go_wp2
        go_round
        case rel => exact ⟨3, by omega, by omega, rfl⟩
        case measure => simp [intOf]
      · go_wp2
        go_ret
        exact ⟨rfl, rfl⟩
  · go_loop [6] (fun i => ∃ k : Int, 1 ≤ k ∧ k ≤ 4 ∧ i = .int .i64 k) (fun i => (4 - intOf i).toNat)
    case atStart => exact ⟨1, by omega, by omega, rfl⟩
    case round =>
      obtain ⟨k, hk1, hk2, rfl⟩ := hrel
      obtain rfl | rfl | rfl | rfl : k = 1 ∨ k = 2 ∨ k = 3 ∨ k = 4 := by omega
      · go_wp2
        go_round
        case rel => exact ⟨2, by omega, by omega, rfl⟩
        case measure => simp [intOf]
      · go_wp2
        go_round
        case rel => exact ⟨3, by omega, by omega, rfl⟩
        case measure => simp [intOf]
      · go_wp2
        go_round
        case rel => exact ⟨4, by omega, by omega, rfl⟩
        case measure => simp [intOf]
      · go_wp2
        go_ret
        exact ⟨rfl, rfl⟩
theorem rbytes_at (n a r : Int) (h : bytesF n a = r) (w : World) (h1 : -9223372036854775808 ≤ n - a) (h2 : n - a ≤ 9223372036854775807) :
    Calls Try.prog 15 #[.int .i64 n, .int .i64 a] w fun e w' => e = .returned (.int .i64 r) ∧ w = w' := by
  have := rbytes_any n a w h1 h2
  rwa [h] at this
end Go.Proofs.Ytmdmkjkdfagcfaa
