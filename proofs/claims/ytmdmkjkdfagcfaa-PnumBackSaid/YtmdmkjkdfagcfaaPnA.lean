/- Package pnum: each function's contract, and the arithmetic. Conditions: the numbers fit their kinds. -/
import Derived.Test.YtmdmkjkdfagcfaaH1
import Derived.WalkKit
import Derived.WalkLawsBesides
import Derived.Lib.Hide
import Derived.IntWalk
import Derived.Laws.Bits64
namespace Go.Proofs.Ytmdmkjkdfagcfaa
open Go Go.RowKit

theorem and_mask (n : Int) (i : Nat) (hi : i ≤ 32) : bits .and .i64 n (2 ^ i - 1) = n % 2 ^ i := by
  have hpos : 0 < 2 ^ i := Nat.two_pow_pos i
  have h32 : 2 ^ i ≤ 2 ^ 32 := Nat.pow_le_pow_right (by decide) hi
  have hc : ((2 : Int) ^ i - 1) = ((2 ^ i - 1 : Nat) : Int) := by
    rw [Int.natCast_sub hpos]; simp
  show IntKind.i64.wrap ((BitVec.ofInt 64 n &&& BitVec.ofInt 64 ((2 : Int) ^ i - 1)).toNat : Int) = _
  have hm : (BitVec.ofInt 64 ((2 : Int) ^ i - 1)).toNat = 2 ^ i - 1 := by
    rw [hc, BitVec.ofInt_natCast, BitVec.toNat_ofNat]; exact Nat.mod_eq_of_lt (by omega)
  rw [BitVec.toNat_and, hm, Nat.and_two_pow_sub_one_eq_mod, BitVec.toNat_ofInt]
  have hd : (2 : Int) ^ i ∣ 2 ^ 64 := ⟨2 ^ (64 - i), by rw [← Int.pow_add]; congr 1; omega⟩
  have e : (((n % (2 ^ 64 : Nat)).toNat % 2 ^ i : Nat) : Int) = n % 2 ^ i := by
    rw [Int.natCast_emod, Int.toNat_of_nonneg (Int.emod_nonneg _ (by decide))]
    have : ((2 ^ i : Nat) : Int) = (2 : Int) ^ i := by simp
    rw [this]
    have h64 : ((2 ^ 64 : Nat) : Int) = (2 : Int) ^ 64 := by decide
    rw [h64]
    exact Int.emod_emod_of_dvd n hd
  rw [e]
  have h3 : ((2 ^ i : Nat) : Int) = (2 : Int) ^ i := by simp
  have h1 := Int.emod_nonneg n (show (2 : Int) ^ i ≠ 0 by omega)
  have h2 := Int.emod_lt_of_pos n (show (0 : Int) < (2 : Int) ^ i by omega)
  exact IntWalk.i64_in _ (by omega)

/-- n brought within a to b. -/
def inR (n a b : Int) : Int := if n < a then (if b < a then b else a) else if b < n then b else n
/-- How many numbers k bytes tell apart. -/
def tn (k : Int) : Int := if k ≤ 1 then 256 else if k ≤ 2 then 65536 else if k ≤ 3 then 16777216 else 4294967296
def bytesF (n a : Int) : Int := if n - a ≤ 128 then 1 else if n - a ≤ 32768 then 2 else if n - a ≤ 8388608 then 3 else 4
def cutF (n k : Int) : Int := n % tn k
def mayR (x : Int) : Int := inR x 0 4611686018427387903
def backG (cut m x : Int) : Int :=
  let b := x - (x - cut) % m
  if b < 0 then b + m else if 4611686018427387903 < b + m then b else if (b + m) - x ≤ x - b then b + m else b
def backF (cut k next : Int) : Int := backG cut (tn k) (mayR next)

theorem tn_cases (k : Int) : (tn k = 256 ∧ inR k 1 4 = 1) ∨ (tn k = 65536 ∧ inR k 1 4 = 2) ∨ (tn k = 16777216 ∧ inR k 1 4 = 3) ∨ (tn k = 4294967296 ∧ inR k 1 4 = 4) := by
  unfold tn inR; (repeat' split) <;> omega

set_option maxHeartbeats 400000 in
theorem within_any (n a b : Int) (w : World) :
    Calls Try.prog 20 #[.int .i64 n, .int .i64 a, .int .i64 b] w fun e w' => e = .returned (.int .i64 (inR n a b)) ∧ w = w' := by
  by_cases h1 : n < a
  · by_cases h2 : b < a
    · have h3 : inR n a b = b := by unfold inR; rw [if_pos h1, if_pos h2]
      rw [h3]
      clear h3
      go_enter Try.func20, Try.ntmps20
      go_wp2
      go_ret
      exact ⟨rfl, rfl⟩
    · have h3 : inR n a b = a := by unfold inR; rw [if_pos h1, if_neg h2]
      rw [h3]
      clear h3
      go_enter Try.func20, Try.ntmps20
      go_wp2
      go_ret
      exact ⟨rfl, rfl⟩
  · by_cases h2 : b < n
    · have h3 : inR n a b = b := by unfold inR; rw [if_neg h1, if_pos h2]
      rw [h3]
      clear h3
      go_enter Try.func20, Try.ntmps20
      go_wp2
      go_ret
      exact ⟨rfl, rfl⟩
    · have h3 : inR n a b = n := by unfold inR; rw [if_neg h1, if_neg h2]
      rw [h3]
      clear h3
      go_enter Try.func20, Try.ntmps20
      go_wp2
      go_ret
      exact ⟨rfl, rfl⟩

theorem within_at (n a b r : Int) (h : inR n a b = r) (w : World) :
    Calls Try.prog 20 #[.int .i64 n, .int .i64 a, .int .i64 b] w fun e w' => e = .returned (.int .i64 r) ∧ w = w' := by
  have := within_any n a b w
  rwa [h] at this

set_option maxHeartbeats 400000 in
theorem turn_any (k : Int) (w : World) :
    Calls Try.prog 19 #[.int .i64 k] w fun e w' => e = .returned (.int .i64 (tn k)) ∧ w = w' := by
  rcases tn_cases k with ⟨h, g⟩ | ⟨h, g⟩ | ⟨h, g⟩ | ⟨h, g⟩
  all_goals
    have G := Lib.hid g
    rw [h]
    clear g h
    go_enter Try.func19, Try.ntmps19
    go_wp2_with (go_at_call 20; refine (within_at _ _ _ _ G.out _).mono ?_; rintro e w' ⟨rfl, rfl⟩)
    go_ret
    exact ⟨rfl, rfl⟩

theorem turn_at (k r : Int) (h : tn k = r) (w : World) :
    Calls Try.prog 19 #[.int .i64 k] w fun e w' => e = .returned (.int .i64 r) ∧ w = w' := by
  have := turn_any k w
  rwa [h] at this

set_option maxHeartbeats 400000 in
theorem cut_any (n k : Int) (w : World) :
    Calls Try.prog 11 #[.int .i64 n, .int .i64 k] w fun e w' => e = .returned (.int .i64 (cutF n k)) ∧ w = w' := by
  have m1 : bits .and .i64 n 255 = n % 256 := and_mask n 8 (by decide)
  have m2 : bits .and .i64 n 65535 = n % 65536 := and_mask n 16 (by decide)
  have m3 : bits .and .i64 n 16777215 = n % 16777216 := and_mask n 24 (by decide)
  have m4 : bits .and .i64 n 4294967295 = n % 4294967296 := and_mask n 32 (by decide)
  have M1 := Lib.hid m1
  have M2 := Lib.hid m2
  have M3 := Lib.hid m3
  have M4 := Lib.hid m4
  clear m1 m2 m3 m4
  unfold cutF
  rcases tn_cases k with ⟨h, _⟩ | ⟨h, _⟩ | ⟨h, _⟩ | ⟨h, _⟩
  all_goals
    have H := Lib.hid h
    rw [h]
    clear h
    go_enter Try.func11, Try.ntmps11
    go_wp2_with (go_at_call 19; refine (turn_at _ _ H.out _).mono ?_; rintro e w' ⟨rfl, rfl⟩)
    go_ret
    exact ⟨ret_int (by first | exact M1.out | exact M2.out | exact M3.out | exact M4.out), rfl⟩

theorem cut_at (n k r : Int) (h : cutF n k = r) (w : World) :
    Calls Try.prog 11 #[.int .i64 n, .int .i64 k] w fun e w' => e = .returned (.int .i64 r) ∧ w = w' := by
  have := cut_any n k w
  rwa [h] at this
end Go.Proofs.Ytmdmkjkdfagcfaa
