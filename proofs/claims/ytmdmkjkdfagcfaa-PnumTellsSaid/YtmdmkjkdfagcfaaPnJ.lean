/- PnumTells: the walk. Conditions: the numbers fit their kinds. -/
import Derived.Test.YtmdmkjkdfagcfaaPnI
namespace Go.Proofs.Ytmdmkjkdfagcfaa
open Go Go.RowKit

set_option maxHeartbeats 4000000 in
theorem tells_walk (a0 a1 a2 a3 a4 : Int) (near : Bool) (w : World) (b1 : -9223372036854775808 ≤ a0) (b2 : a0 ≤ 9223372036854775807) (b3 : -9223372036854775808 ≤ a1) (b4 : a1 ≤ 9223372036854775807) (_ : -9223372036854775808 ≤ a2) (_ : a2 ≤ 9223372036854775807)
    (_ : -9223372036854775808 ≤ a3) (_ : a3 ≤ 9223372036854775807) (b5 : -9223372036854775808 ≤ a4) (b6 : a4 ≤ 9223372036854775807) :
    Calls Try.prog 4 #[.int .i64 a0, .int .i64 a1, .int .i64 a2, .int .i64 a3, .int .i64 a4, .bool near] w fun e w' => e = .returned (.bool true) ∧ Below w.heap.size w w' := by
  obtain ⟨m, hm⟩ : ∃ x, Hid (mayF a0 = x) := ⟨_, rfl⟩
  have hmi := mayF_in a0
  rw [hm.out] at hmi
  obtain ⟨m0, m1⟩ := hmi
  obtain ⟨y, hy⟩ : ∃ x, Hid (mayF a1 = x) := ⟨_, rfl⟩
  have hyi := mayF_in a1
  rw [hy.out] at hyi
  obtain ⟨y0, y1⟩ := hyi
  obtain ⟨p, hp⟩ : ∃ x, Hid (a1 % 131072 = x) := ⟨_, rfl⟩
  have p0 : 0 ≤ p := by have := hp.out; omega
  have p1 : p < 131072 := by have := hp.out; omega
  obtain ⟨j, hj⟩ : ∃ x, Hid (a2 % 9 = x) := ⟨_, rfl⟩
  have j0 : 0 ≤ j := by have := hj.out; omega
  have j1 : j < 9 := by have := hj.out; omega
  obtain ⟨z, hz⟩ : ∃ x, Hid (numF a4 = x) := ⟨_, rfl⟩
  have HZ : Hid (∀ W, Calls Try.prog 17 #[.int .i64 a4] W fun e w' => e = .returned (.int .i64 z) ∧ W = w') := fun W => by
    have := num_any a4 W b5 b6
    rwa [hz.out] at this
  clear hz
  by_cases hc : m - 1 - p < -1
  all_goals
    cases near
    all_goals
      go_enter Try.func4, Try.ntmps4
      go_wp2_with (first
        | (go_at_call 14; (with_reducible first | refine (pick_at _ _ _ hp.out _ (by decide) (by decide)).mono ?_ | refine (pick_at _ _ _ hj.out _ (by decide) (by decide)).mono ?_); rintro e w' ⟨rfl, rfl⟩)
        | (go_at_call 13; (with_reducible first | refine (hmay_at _ _ hm.out _ b1 b2).mono ?_ | refine (hmay_at _ _ hy.out _ b3 b4).mono ?_); rintro e w' ⟨rfl, rfl⟩)
        | (go_at_call 17; refine (HZ.out _).mono ?_; rintro e w' ⟨rfl, rfl⟩)
        | (go_at_call 9; refine (known_any _).mono ?_; rintro e w' ⟨rfl, rfl⟩)
        | (go_at_call 10; refine (bytes_any _ _ _ (by omega) (by omega)).mono ?_; rintro e w' ⟨rfl, rfl⟩)
        | (go_at_call 15; refine (rbytes_any _ _ _ (by omega) (by omega)).mono ?_; rintro e w' ⟨rfl, rfl⟩)
        | (go_at_call 11; refine (cut_any _ _ _).mono ?_; rintro e w' ⟨rfl, rfl⟩)
        | (go_at_call 16; refine (rcut_any _ _ _).mono ?_; rintro e w' ⟨rfl, rfl⟩)
        | (go_at_call 12; refine (back_any _ _ _ _).mono ?_; rintro e w' ⟨rfl, rfl⟩)
        | (go_at_call 18; refine (rback_any _ _ _ _).mono ?_; rintro e w' ⟨rfl, rfl⟩))
      all_goals
        go_ret
        exact ⟨rfl, Below.refl _ _⟩
end Go.Proofs.Ytmdmkjkdfagcfaa
