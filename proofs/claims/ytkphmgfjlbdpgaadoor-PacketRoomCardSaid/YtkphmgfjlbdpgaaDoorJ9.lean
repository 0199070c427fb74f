/- Pn (joined by pk/port.py). Conditions: as each theorem lists them. -/
import Derived.Test.YtkphmgfjlbdpgaaDoorJH1
import Derived.WalkKit
import Derived.WalkLawsBesides
import Derived.Lib.Hide
import Derived.IntWalk
import Derived.Laws.Bits64
import Derived.Below
set_option linter.unusedSimpArgs false
set_option linter.unusedVariables false

namespace Go.Proofs.YtkphmgfjlbdpgaaDoor.Pn
open Go Go.RowKit

theorem and_mask (n : Int) (i : Nat) (hi : i ≤ 32) : bits .and .i64 n (2 ^ i - 1) = n % 2 ^ i := by
  have hpos : 0 < 2 ^ i := Nat.two_pow_pos i
  have h32 : 2 ^ i ≤ 2 ^ 32 := Nat.pow_le_pow_right (by decide) hi
  have hc : ((2 : Int) ^ i - 1) = ((2 ^ i - 1 : Nat) : Int) := by
    rw [Int.natCast_sub hpos]; simp
  show IntKind.i64.wrap ((BitVec.ofInt 64 n &&& BitVec.ofInt 64 ((2 : Int) ^ i - 1)).toNat : Int) = _
  have hm : (BitVec.ofInt 64 ((2 : Int) ^ i - 1)).toNat = 2 ^ i - 1 := by
    rw [hc, BitVec.ofInt_natCast, BitVec.toNat_ofNat]; exact Nat.mod_eq_of_lt (by omega)
  rw [BitVec.toNat_and, hm, Nat.and_two_pow_sub_one_eq_mod, BitVec.toNat_ofInt]
  have hd : (2 : Int) ^ i ∣ 2 ^ 64 := ⟨2 ^ (64 - i), by rw [← Int.pow_add]; congr 1; omega⟩
  have e : (((n % (2 ^ 64 : Nat)).toNat % 2 ^ i : Nat) : Int) = n % 2 ^ i := by
    rw [Int.natCast_emod, Int.toNat_of_nonneg (Int.emod_nonneg _ (by decide))]
    have : ((2 ^ i : Nat) : Int) = (2 : Int) ^ i := by simp
    rw [this]
    have h64 : ((2 ^ 64 : Nat) : Int) = (2 : Int) ^ 64 := by decide
    rw [h64]
    exact Int.emod_emod_of_dvd n hd
  rw [e]
  have h3 : ((2 ^ i : Nat) : Int) = (2 : Int) ^ i := by simp
  have h1 := Int.emod_nonneg n (show (2 : Int) ^ i ≠ 0 by omega)
  have h2 := Int.emod_lt_of_pos n (show (0 : Int) < (2 : Int) ^ i by omega)
  exact IntWalk.i64_in _ (by omega)

/-- n brought within a to b. -/
def inR (n a b : Int) : Int := if n < a then (if b < a then b else a) else if b < n then b else n
/-- How many numbers k bytes tell apart. -/
def tn (k : Int) : Int := if k ≤ 1 then 256 else if k ≤ 2 then 65536 else if k ≤ 3 then 16777216 else 4294967296
def bytesF (n a : Int) : Int := if n - a ≤ 128 then 1 else if n - a ≤ 32768 then 2 else if n - a ≤ 8388608 then 3 else 4
def cutF (n k : Int) : Int := n % tn k
def mayR (x : Int) : Int := inR x 0 4611686018427387903
def backG (cut m x : Int) : Int :=
  let b := x - (x - cut) % m
  if b < 0 then b + m else if 4611686018427387903 < b + m then b else if (b + m) - x ≤ x - b then b + m else b
def backF (cut k next : Int) : Int := backG cut (tn k) (mayR next)

theorem tn_cases (k : Int) : (tn k = 256 ∧ inR k 1 4 = 1) ∨ (tn k = 65536 ∧ inR k 1 4 = 2) ∨ (tn k = 16777216 ∧ inR k 1 4 = 3) ∨ (tn k = 4294967296 ∧ inR k 1 4 = 4) := by
  unfold tn inR; (repeat' split) <;> omega

set_option maxHeartbeats 400000 in
theorem within_any (n a b : Int) (w : World) :
    Calls Tryd.prog 101 #[.int .i64 n, .int .i64 a, .int .i64 b] w fun e w' => e = .returned (.int .i64 (inR n a b)) ∧ w = w' := by
  by_cases h1 : n < a
  · by_cases h2 : b < a
    · have h3 : inR n a b = b := by unfold inR; rw [if_pos h1, if_pos h2]
      rw [h3]
      clear h3
      go_enter Tryd.func101, Tryd.ntmps101
      go_wp2
      go_ret
      exact ⟨rfl, rfl⟩
    · have h3 : inR n a b = a := by unfold inR; rw [if_pos h1, if_neg h2]
      rw [h3]
      clear h3
      go_enter Tryd.func101, Tryd.ntmps101
      go_wp2
      go_ret
      exact ⟨rfl, rfl⟩
  · by_cases h2 : b < n
    · have h3 : inR n a b = b := by unfold inR; rw [if_neg h1, if_pos h2]
      rw [h3]
      clear h3
      go_enter Tryd.func101, Tryd.ntmps101
      go_wp2
      go_ret
      exact ⟨rfl, rfl⟩
    · have h3 : inR n a b = n := by unfold inR; rw [if_neg h1, if_neg h2]
      rw [h3]
      clear h3
      go_enter Tryd.func101, Tryd.ntmps101
      go_wp2
      go_ret
      exact ⟨rfl, rfl⟩

theorem within_at (n a b r : Int) (h : inR n a b = r) (w : World) :
    Calls Tryd.prog 101 #[.int .i64 n, .int .i64 a, .int .i64 b] w fun e w' => e = .returned (.int .i64 r) ∧ w = w' := by
  have := within_any n a b w
  rwa [h] at this

set_option maxHeartbeats 400000 in
theorem turn_any (k : Int) (w : World) :
    Calls Tryd.prog 83 #[.int .i64 k] w fun e w' => e = .returned (.int .i64 (tn k)) ∧ w = w' := by
  rcases tn_cases k with ⟨h, g⟩ | ⟨h, g⟩ | ⟨h, g⟩ | ⟨h, g⟩
  all_goals
    have G := Lib.hid g
    rw [h]
    clear g h
    go_enter Tryd.func83, Tryd.ntmps83
    go_wp2_with (go_at_call 101; refine (within_at _ _ _ _ G.out _).mono ?_; rintro e w' ⟨rfl, rfl⟩)
    go_ret
    exact ⟨rfl, rfl⟩

theorem turn_at (k r : Int) (h : tn k = r) (w : World) :
    Calls Tryd.prog 83 #[.int .i64 k] w fun e w' => e = .returned (.int .i64 r) ∧ w = w' := by
  have := turn_any k w
  rwa [h] at this

set_option maxHeartbeats 400000 in
theorem cut_any (n k : Int) (w : World) :
    Calls Tryd.prog 82 #[.int .i64 n, .int .i64 k] w fun e w' => e = .returned (.int .i64 (cutF n k)) ∧ w = w' := by
  have m1 : bits .and .i64 n 255 = n % 256 := and_mask n 8 (by decide)
  have m2 : bits .and .i64 n 65535 = n % 65536 := and_mask n 16 (by decide)
  have m3 : bits .and .i64 n 16777215 = n % 16777216 := and_mask n 24 (by decide)
  have m4 : bits .and .i64 n 4294967295 = n % 4294967296 := and_mask n 32 (by decide)
  have M1 := Lib.hid m1
  have M2 := Lib.hid m2
  have M3 := Lib.hid m3
  have M4 := Lib.hid m4
  clear m1 m2 m3 m4
  unfold cutF
  rcases tn_cases k with ⟨h, _⟩ | ⟨h, _⟩ | ⟨h, _⟩ | ⟨h, _⟩
  all_goals
    have H := Lib.hid h
    rw [h]
    clear h
    go_enter Tryd.func82, Tryd.ntmps82
    go_wp2_with (go_at_call 83; refine (turn_at _ _ H.out _).mono ?_; rintro e w' ⟨rfl, rfl⟩)
    go_ret
    exact ⟨ret_int (by first | exact M1.out | exact M2.out | exact M3.out | exact M4.out), rfl⟩

theorem cut_at (n k r : Int) (h : cutF n k = r) (w : World) :
    Calls Tryd.prog 82 #[.int .i64 n, .int .i64 k] w fun e w' => e = .returned (.int .i64 r) ∧ w = w' := by
  have := cut_any n k w
  rwa [h] at this

theorem far_eq (n a : Int) (h1 : -9223372036854775808 ≤ a) (h2 : n ≤ 9223372036854775807) (h : a < n) : IntKind.u64.wrap (IntKind.u64.wrap n - IntKind.u64.wrap a) = n - a := by
  simp only [IntKind.wrap_u64]; omega

theorem bytesF_cases (n a : Int) : (bytesF n a = 1 ∧ n - a ≤ 128) ∨ (bytesF n a = 2 ∧ 128 < n - a ∧ n - a ≤ 32768) ∨ (bytesF n a = 3 ∧ 32768 < n - a ∧ n - a ≤ 8388608) ∨ (bytesF n a = 4 ∧ 8388608 < n - a) := by
  unfold bytesF; (repeat' split) <;> omega

set_option maxHeartbeats 400000 in
theorem bytes_any (n a : Int) (w : World) (h1 : -9223372036854775808 ≤ a) (h2 : n ≤ 9223372036854775807) :
    Calls Tryd.prog 49 #[.int .i64 n, .int .i64 a] w fun e w' => e = .returned (.int .i64 (bytesF n a)) ∧ w = w' := by
  by_cases h : n ≤ a
  · have e : bytesF n a = 1 := by unfold bytesF; rw [if_pos (by omega)]
    rw [e]
    clear e
    go_enter Tryd.func49, Tryd.ntmps49
    go_wp2
    go_ret
    exact ⟨rfl, rfl⟩
  · have hf := far_eq n a h1 h2 (by omega)
    rcases bytesF_cases n a with ⟨e, b⟩ | ⟨e, b, b2⟩ | ⟨e, b, b2⟩ | ⟨e, b⟩
    · rw [e]
      clear e
      go_enter Tryd.func49, Tryd.ntmps49
      go_wp2
      go_loop [6] (fun i => ∃ k : Int, 1 ≤ k ∧ k ≤ 1 ∧ i = .int .i64 k) (fun i => (1 - intOf i).toNat)
      case atStart => exact ⟨1, by omega, by omega, rfl⟩
      case round =>
        obtain ⟨k, hk1, hk2, rfl⟩ := hrel
        obtain rfl : k = 1 := by omega
        go_wp2_with (go_at_call 83; refine (turn_at 1 256 (by decide) _).mono ?_; rintro e w' ⟨rfl, rfl⟩)
        go_ret
        exact ⟨rfl, rfl⟩
    · rw [e]
      clear e
      go_enter Tryd.func49, Tryd.ntmps49
      go_wp2
      go_loop [6] (fun i => ∃ k : Int, 1 ≤ k ∧ k ≤ 2 ∧ i = .int .i64 k) (fun i => (2 - intOf i).toNat)
      case atStart => exact ⟨1, by omega, by omega, rfl⟩
      case round =>
        obtain ⟨k, hk1, hk2, rfl⟩ := hrel
        obtain rfl | rfl : k = 1 ∨ k = 2 := by omega
        · go_wp2_with (go_at_call 83; refine (turn_at 1 256 (by decide) _).mono ?_; rintro e w' ⟨rfl, rfl⟩)
          go_round
          case rel => exact ⟨2, by omega, by omega, rfl⟩
          case measure => simp [intOf]
        · go_wp2_with (go_at_call 83; refine (turn_at 2 65536 (by decide) _).mono ?_; rintro e w' ⟨rfl, rfl⟩)
          go_ret
          exact ⟨rfl, rfl⟩
    · rw [e]
      clear e
      go_enter Tryd.func49, Tryd.ntmps49
      go_wp2
      go_loop [6] (fun i => ∃ k : Int, 1 ≤ k ∧ k ≤ 3 ∧ i = .int .i64 k) (fun i => (3 - intOf i).toNat)
      case atStart => exact ⟨1, by omega, by omega, rfl⟩
      case round =>
        obtain ⟨k, hk1, hk2, rfl⟩ := hrel
        obtain rfl | rfl | rfl : k = 1 ∨ k = 2 ∨ k = 3 := by omega
        · go_wp2_with (go_at_call 83; refine (turn_at 1 256 (by decide) _).mono ?_; rintro e w' ⟨rfl, rfl⟩)
          go_round
          case rel => exact ⟨2, by omega, by omega, rfl⟩
          case measure => simp [intOf]
        · go_wp2_with (go_at_call 83; refine (turn_at 2 65536 (by decide) _).mono ?_; rintro e w' ⟨rfl, rfl⟩)
          go_round
          case rel => exact ⟨3, by omega, by omega, rfl⟩
          case measure => simp [intOf]
        · go_wp2_with (go_at_call 83; refine (turn_at 3 16777216 (by decide) _).mono ?_; rintro e w' ⟨rfl, rfl⟩)
          go_ret
          exact ⟨rfl, rfl⟩
    · rw [e]
      clear e
      go_enter Tryd.func49, Tryd.ntmps49
      go_wp2
      go_loop [6] (fun i => ∃ k : Int, 1 ≤ k ∧ k ≤ 4 ∧ i = .int .i64 k) (fun i => (4 - intOf i).toNat)
      case atStart => exact ⟨1, by omega, by omega, rfl⟩
      case round =>
        obtain ⟨k, hk1, hk2, rfl⟩ := hrel
        obtain rfl | rfl | rfl | rfl : k = 1 ∨ k = 2 ∨ k = 3 ∨ k = 4 := by omega
        · go_wp2_with (go_at_call 83; refine (turn_at 1 256 (by decide) _).mono ?_; rintro e w' ⟨rfl, rfl⟩)
          go_round
          case rel => exact ⟨2, by omega, by omega, rfl⟩
          case measure => simp [intOf]
        · go_wp2_with (go_at_call 83; refine (turn_at 2 65536 (by decide) _).mono ?_; rintro e w' ⟨rfl, rfl⟩)
          go_round
          case rel => exact ⟨3, by omega, by omega, rfl⟩
          case measure => simp [intOf]
        · go_wp2_with (go_at_call 83; refine (turn_at 3 16777216 (by decide) _).mono ?_; rintro e w' ⟨rfl, rfl⟩)
          go_round
          case rel => exact ⟨4, by omega, by omega, rfl⟩
          case measure => simp [intOf]
        · go_wp2
          go_ret
          exact ⟨rfl, rfl⟩

theorem mayR_in (x : Int) : 0 ≤ mayR x ∧ mayR x ≤ 4611686018427387903 := by
  unfold mayR inR; (repeat' split) <;> omega

theorem wrap_mod (y t : Int) (ht : t = 256 ∨ t = 65536 ∨ t = 16777216 ∨ t = 4294967296) : wrap64 y % t = y % t := by
  unfold wrap64
  rcases ht with rfl | rfl | rfl | rfl <;> omega

theorem tn_or (k : Int) : tn k = 256 ∨ tn k = 65536 ∨ tn k = 16777216 ∨ tn k = 4294967296 := by
  rcases tn_cases k with ⟨h, _⟩ | ⟨h, _⟩ | ⟨h, _⟩ | ⟨h, _⟩ <;> simp [h]

set_option maxHeartbeats 400000 in
theorem back_any (cut k next : Int) (w : World) :
    Calls Tryd.prog 88 #[.int .i64 cut, .int .i64 k, .int .i64 next] w fun e w' => e = .returned (.int .i64 (backF cut k next)) ∧ w = w' := by
  obtain ⟨x, hx⟩ : ∃ x, mayR next = x := ⟨_, rfl⟩
  have hx0 := mayR_in next
  rw [hx] at hx0
  obtain ⟨x0, x1⟩ := hx0
  have HX : Hid (inR next 0 4611686018427387903 = x) := hx
  obtain ⟨t, ht⟩ : ∃ t, tn k = t := ⟨_, rfl⟩
  have hto := tn_or k
  rw [ht] at hto
  obtain ⟨c, hc⟩ : ∃ c, (x - cut) % t = c := ⟨_, rfl⟩
  have HC : Hid (cutF (wrap64 (x - cut)) k = c) := by
    show _ = _
    unfold cutF
    rw [ht, wrap_mod _ _ hto, hc]
  have t0 : 256 ≤ t := by omega
  have t1 : t ≤ 4294967296 := by omega
  have c0 : 0 ≤ c := by rw [← hc]; exact Int.emod_nonneg _ (by omega)
  have c1 : c < t := by rw [← hc]; exact Int.emod_lt_of_pos _ (by omega)
  have HG : Hid (backF cut k next = if x - c < 0 then x - c + t else if 4611686018427387903 < x - c + t then x - c else if (x - c + t) - x ≤ x - (x - c) then x - c + t else x - c) := by
    show _ = _
    unfold backF backG
    rw [hx, ht, hc]
  have HT := Lib.hid ht
  clear hc ht hx hto
  by_cases b1 : x - c < 0
  · have e : Hid (backF cut k next = x - c + t) := by show _ = _; rw [HG.out, if_pos b1]
    go_enter Tryd.func88, Tryd.ntmps88
    go_wp2_with (first | (go_at_call 101; refine (within_at _ _ _ x HX.out _).mono ?_; rintro e w' ⟨rfl, rfl⟩) | (go_at_call 82; refine (cut_at _ _ c HC.out _).mono ?_; rintro e w' ⟨rfl, rfl⟩) | (go_at_call 83; refine (turn_at _ t HT.out _).mono ?_; rintro e w' ⟨rfl, rfl⟩))
    go_ret
    exact ⟨ret_int e.out.symm, rfl⟩
  · by_cases b2 : 4611686018427387903 < x - c + t
    · have e : Hid (backF cut k next = x - c) := by show _ = _; rw [HG.out, if_neg b1, if_pos b2]
      go_enter Tryd.func88, Tryd.ntmps88
      go_wp2_with (first | (go_at_call 101; refine (within_at _ _ _ x HX.out _).mono ?_; rintro e w' ⟨rfl, rfl⟩) | (go_at_call 82; refine (cut_at _ _ c HC.out _).mono ?_; rintro e w' ⟨rfl, rfl⟩) | (go_at_call 83; refine (turn_at _ t HT.out _).mono ?_; rintro e w' ⟨rfl, rfl⟩))
      go_ret
      exact ⟨ret_int e.out.symm, rfl⟩
    · by_cases b3 : (x - c + t) - x ≤ x - (x - c)
      · have e : Hid (backF cut k next = x - c + t) := by show _ = _; rw [HG.out, if_neg b1, if_neg b2, if_pos b3]
        go_enter Tryd.func88, Tryd.ntmps88
        go_wp2_with (first | (go_at_call 101; refine (within_at _ _ _ x HX.out _).mono ?_; rintro e w' ⟨rfl, rfl⟩) | (go_at_call 82; refine (cut_at _ _ c HC.out _).mono ?_; rintro e w' ⟨rfl, rfl⟩) | (go_at_call 83; refine (turn_at _ t HT.out _).mono ?_; rintro e w' ⟨rfl, rfl⟩))
        go_ret
        exact ⟨ret_int e.out.symm, rfl⟩
      · have e : Hid (backF cut k next = x - c) := by show _ = _; rw [HG.out, if_neg b1, if_neg b2, if_neg b3]
        go_enter Tryd.func88, Tryd.ntmps88
        go_wp2_with (first | (go_at_call 101; refine (within_at _ _ _ x HX.out _).mono ?_; rintro e w' ⟨rfl, rfl⟩) | (go_at_call 82; refine (cut_at _ _ c HC.out _).mono ?_; rintro e w' ⟨rfl, rfl⟩) | (go_at_call 83; refine (turn_at _ t HT.out _).mono ?_; rintro e w' ⟨rfl, rfl⟩))
        go_ret
        exact ⟨ret_int e.out.symm, rfl⟩

theorem back_at (cut k next r : Int) (h : backF cut k next = r) (w : World) :
    Calls Tryd.prog 88 #[.int .i64 cut, .int .i64 k, .int .i64 next] w fun e w' => e = .returned (.int .i64 r) ∧ w = w' := by
  have := back_any cut k next w
  rwa [h] at this
theorem bytes_at (n a r : Int) (h : bytesF n a = r) (w : World) (h1 : -9223372036854775808 ≤ a) (h2 : n ≤ 9223372036854775807) :
    Calls Tryd.prog 49 #[.int .i64 n, .int .i64 a] w fun e w' => e = .returned (.int .i64 r) ∧ w = w' := by
  have := bytes_any n a w h1 h2
  rwa [h] at this

theorem mayR_id (x : Int) (h0 : 0 ≤ x) (h1 : x ≤ 4611686018427387903) : mayR x = x := by
  unfold mayR inR; rw [if_neg (by omega), if_neg (by omega)]

theorem backG_spec (cut t x : Int) (ht : t = 256 ∨ t = 65536 ∨ t = 16777216 ∨ t = 4294967296) (h0 : 0 ≤ x) (h1 : x ≤ 4611686018427387903) :
    0 ≤ backG cut t x ∧ backG cut t x ≤ 4611686018427387903 ∧ (∃ q, backG cut t x - cut = t * q) ∧ ((x - cut) % t = 0 → backG cut t x = x) ∧
    (∀ m, 0 ≤ m → m ≤ 4611686018427387903 → (∃ q, m - cut = t * q) → m ≠ backG cut t x → (max (backG cut t x - x) (x - backG cut t x) < max (m - x) (x - m) ∨ max (backG cut t x - x) (x - backG cut t x) = max (m - x) (x - m) ∧ m < backG cut t x)) := by
  obtain ⟨c, hc⟩ : ∃ c, (x - cut) % t = c := ⟨_, rfl⟩
  obtain ⟨q0, hq⟩ : ∃ q, (x - cut) / t = q := ⟨_, rfl⟩
  have hd := Int.mul_ediv_add_emod (x - cut) t
  rw [hc, hq] at hd
  have c0 : 0 ≤ c := by rw [← hc]; exact Int.emod_nonneg _ (by omega)
  have c1 : c < t := by rw [← hc]; exact Int.emod_lt_of_pos _ (by omega)
  have e : backG cut t x = if x - c < 0 then x - c + t else if 4611686018427387903 < x - c + t then x - c else if (x - c + t) - x ≤ x - (x - c) then x - c + t else x - c := by
    unfold backG; rw [hc]
  obtain ⟨r, hr⟩ : ∃ r, backG cut t x = r := ⟨_, rfl⟩
  rw [hr] at e ⊢
  have key : r = x - c ∨ r = x - c + t := by rw [e]; (repeat' split) <;> simp
  refine ⟨?_, ?_, ?_, fun h => ?_, fun m m0 m1 ⟨q, hm⟩ hne => ?_⟩
  · rw [e]; (repeat' split) <;> omega
  · rw [e]; (repeat' split) <;> omega
  · rcases key with h | h
    · exact ⟨q0, by rw [h]; omega⟩
    · exact ⟨q0 + 1, by rw [h, Int.mul_add, Int.mul_one]; omega⟩
  · rw [hc] at h
    subst h
    rw [e]; (repeat' split) <;> omega
  · have hlt : m ≤ x - c ∨ x - c + t ≤ m := by
      by_cases hq2 : q ≤ q0
      · left
        have := Int.mul_le_mul_of_nonneg_left hq2 (show (0 : Int) ≤ t by omega)
        omega
      · right
        have := Int.mul_le_mul_of_nonneg_left (show q0 + 1 ≤ q by omega) (show (0 : Int) ≤ t by omega)
        rw [Int.mul_add, Int.mul_one] at this
        omega
    rw [e] at hne ⊢
    split at hne <;> (try split at hne) <;> (try split at hne) <;> simp_all <;> omega

theorem pick_at (n m r : Int) (h : n % m = r) (w : World) (hm : 0 < m) (hm2 : m ≤ 9223372036854775807) :
    Calls Tryd.prog 20 #[.int .i64 n, .int .i64 m] w fun e w' => e = .returned (.int .i64 r) ∧ w = w' := by
  have := pick_any n m w hm hm2
  rwa [h] at this
theorem hmay_at (n r : Int) (h : mayF n = r) (w : World) (h1 : -9223372036854775808 ≤ n) (h2 : n ≤ 9223372036854775807) :
    Calls Tryd.prog 25 #[.int .i64 n] w fun e w' => e = .returned (.int .i64 r) ∧ w = w' := by
  have := hmay_any n w h1 h2
  rwa [h] at this
theorem hid_of {p : Prop} (h : p) : Hid p := h

theorem backF_spec (cut k x : Int) (h0 : 0 ≤ x) (h1 : x ≤ 4611686018427387903) :
    0 ≤ backF cut k x ∧ backF cut k x ≤ 4611686018427387903 ∧ (∃ q, backF cut k x - cut = tn k * q) ∧ ((x - cut) % tn k = 0 → backF cut k x = x) := by
  have := backG_spec cut (tn k) x (tn_or k) h0 h1
  unfold backF
  rw [mayR_id x h0 h1]
  exact ⟨this.1, this.2.1, this.2.2.1, this.2.2.2.1⟩
theorem cut_back (x k : Int) : (x - cutF x k) % tn k = 0 := by
  unfold cutF
  have := Int.mul_ediv_add_emod x (tn k)
  have e : x - x % tn k = tn k * (x / tn k) := by omega
  rw [e, Int.mul_emod_right]

theorem cut_cut (x k j : Int) : cutF (cutF x k) j = cutF x (if k ≤ j then k else j) := by
  have e : ∀ a b : Int, (256 ≤ a ∧ 256 ≤ b) → tn k = a → tn j = b → a ∣ b ∨ b ∣ a → cutF (cutF x k) j = x % (if a ≤ b then a else b) := by
    intro a b h0 ha hb h
    unfold cutF
    rw [ha, hb]
    split
    · rename_i hab
      rcases h with h | h
      · exact Int.emod_eq_of_lt (Int.emod_nonneg _ (by omega)) (by have := Int.emod_lt_of_pos x (show 0 < a by omega); omega)
      · obtain rfl : a = b := by
          have := Int.le_of_dvd (by omega) h
          omega
        exact Int.emod_emod_of_dvd _ (Int.dvd_refl _)
    · rename_i hab
      rcases h with h | h
      · exact absurd (Int.le_of_dvd (by omega) h) hab
      · exact Int.emod_emod_of_dvd x h
  have hm : cutF x (if k ≤ j then k else j) = x % (if tn k ≤ tn j then tn k else tn j) := by
    unfold cutF
    congr 1
    unfold tn
    (repeat' split) <;> omega
  rw [hm]
  rcases tn_or k with h | h | h | h <;> rcases tn_or j with g | g | g | g
  all_goals
    rw [h, g]
    exact e _ _ (by decide) h g (by decide)

theorem cutF_in (x k : Int) : 0 ≤ cutF x k ∧ cutF x k < tn k := by
  unfold cutF
  rcases tn_or k with h | h | h | h <;> rw [h] <;> omega

/-- What is cut to enough comes back. -/
theorem there_back (n k x : Int) (h0 : 0 ≤ x) (h1 : x ≤ n) (h2 : n ≤ 4611686018427387903) (h3 : 2 * (n - x) < tn k) : backF (cutF n k) k x = n := by
  have ht := tn_or k
  have hd : (x - cutF n k) % tn k = (x - n) % tn k := by
    unfold cutF
    rw [Int.sub_emod, Int.emod_emod_of_dvd n (Int.dvd_refl _), ← Int.sub_emod]
  unfold backF
  rw [mayR_id x h0 (by omega)]
  unfold backG
  rw [hd]
  generalize tn k = t at *
  have e : x - (x - n) % t = if x = n then n else n - t := by
    split
    · rename_i h; subst h; simp
    · have : (x - n) % t = x - n + t := by
        rw [← Int.add_emod_right]
        exact Int.emod_eq_of_lt (by omega) (by omega)
      omega
  simp only [e]
  split
  · rename_i h; subst h
    rw [if_neg (by omega)]
    split
    · rfl
    · rw [if_neg (by omega)]
  · split
    · omega
    · rw [if_neg (by omega), if_pos (by omega)]; omega

theorem tn_mono (k m : Int) (hm : 0 ≤ m) : tn k ≤ tn (k + m) := by
  unfold tn; (repeat' split) <;> omega
end Go.Proofs.YtkphmgfjlbdpgaaDoor.Pn
