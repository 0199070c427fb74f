/- Package pnum: what its functions tell, as numbers; known. Conditions: none. -/
import Derived.Test.YtmdmkjkdfagcfaaPnB
import Derived.Below
namespace Go.Proofs.Ytmdmkjkdfagcfaa
open Go Go.RowKit

theorem back_at (cut k next r : Int) (h : backF cut k next = r) (w : World) :
    Calls Try.prog 12 #[.int .i64 cut, .int .i64 k, .int .i64 next] w fun e w' => e = .returned (.int .i64 r) ∧ w = w' := by
  have := back_any cut k next w
  rwa [h] at this
theorem bytes_at (n a r : Int) (h : bytesF n a = r) (w : World) (h1 : -9223372036854775808 ≤ a) (h2 : n ≤ 9223372036854775807) :
    Calls Try.prog 10 #[.int .i64 n, .int .i64 a] w fun e w' => e = .returned (.int .i64 r) ∧ w = w' := by
  have := bytes_any n a w h1 h2
  rwa [h] at this

set_option maxHeartbeats 400000 in
theorem known_any (w : World) : Calls Try.prog 9 #[] w fun e w' => e = .returned (.bool true) ∧ w = w' := by
  have h1 : Hid (backF 39730 2 2821665003 = 2821692210) := by show _ = _; decide
  have h2 : Hid (bytesF 0 (-1) = 1) := by show _ = _; decide
  go_enter Try.func9, Try.ntmps9
  go_wp2_with (first | (go_at_call 12; refine (back_at _ _ _ _ h1.out _).mono ?_; rintro e w' ⟨rfl, rfl⟩) | (go_at_call 10; refine (bytes_at _ _ _ h2.out _ (by decide) (by decide)).mono ?_; rintro e w' ⟨rfl, rfl⟩))
  go_ret
  exact ⟨rfl, rfl⟩

theorem mayR_id (x : Int) (h0 : 0 ≤ x) (h1 : x ≤ 4611686018427387903) : mayR x = x := by
  unfold mayR inR; rw [if_neg (by omega), if_neg (by omega)]

theorem backG_spec (cut t x : Int) (ht : t = 256 ∨ t = 65536 ∨ t = 16777216 ∨ t = 4294967296) (h0 : 0 ≤ x) (h1 : x ≤ 4611686018427387903) :
    0 ≤ backG cut t x ∧ backG cut t x ≤ 4611686018427387903 ∧ (∃ q, backG cut t x - cut = t * q) ∧ ((x - cut) % t = 0 → backG cut t x = x) ∧
    (∀ m, 0 ≤ m → m ≤ 4611686018427387903 → (∃ q, m - cut = t * q) → m ≠ backG cut t x → (max (backG cut t x - x) (x - backG cut t x) < max (m - x) (x - m) ∨ max (backG cut t x - x) (x - backG cut t x) = max (m - x) (x - m) ∧ m < backG cut t x)) := by
  obtain ⟨c, hc⟩ : ∃ c, (x - cut) % t = c := ⟨_, rfl⟩
  obtain ⟨q0, hq⟩ : ∃ q, (x - cut) / t = q := ⟨_, rfl⟩
  have hd := Int.mul_ediv_add_emod (x - cut) t
  rw [hc, hq] at hd
  have c0 : 0 ≤ c := by rw [← hc]; exact Int.emod_nonneg _ (by omega)
  have c1 : c < t := by rw [← hc]; exact Int.emod_lt_of_pos _ (by omega)
  have e : backG cut t x = if x - c < 0 then x - c + t else if 4611686018427387903 < x - c + t then x - c else if (x - c + t) - x ≤ x - (x - c) then x - c + t else x - c := by
    unfold backG; rw [hc]
  obtain ⟨r, hr⟩ : ∃ r, backG cut t x = r := ⟨_, rfl⟩
  rw [hr] at e ⊢
  have key : r = x - c ∨ r = x - c + t := by rw [e]; (repeat' split) <;> simp
  refine ⟨?_, ?_, ?_, fun h => ?_, fun m m0 m1 ⟨q, hm⟩ hne => ?_⟩
  · rw [e]; (repeat' split) <;> omega
  · rw [e]; (repeat' split) <;> omega
  · rcases key with h | h
    · exact ⟨q0, by rw [h]; omega⟩
    · exact ⟨q0 + 1, by rw [h, Int.mul_add, Int.mul_one]; omega⟩
  · rw [hc] at h
    subst h
    rw [e]; (repeat' split) <;> omega
  · have hlt : m ≤ x - c ∨ x - c + t ≤ m := by
      by_cases hq2 : q ≤ q0
      · left
        have := Int.mul_le_mul_of_nonneg_left hq2 (show (0 : Int) ≤ t by omega)
        omega
      · right
        have := Int.mul_le_mul_of_nonneg_left (show q0 + 1 ≤ q by omega) (show (0 : Int) ≤ t by omega)
        rw [Int.mul_add, Int.mul_one] at this
        omega
    rw [e] at hne ⊢
    split at hne <;> (try split at hne) <;> (try split at hne) <;> simp_all <;> omega
end Go.Proofs.Ytmdmkjkdfagcfaa
