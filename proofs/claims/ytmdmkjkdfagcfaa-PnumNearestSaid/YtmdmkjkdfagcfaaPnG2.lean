/- PnumNearest: the walk, by how many bytes. Conditions: the numbers fit their kinds. -/
import Derived.Test.YtmdmkjkdfagcfaaPnG
namespace Go.Proofs.Ytmdmkjkdfagcfaa
open Go Go.RowKit

set_option maxHeartbeats 4000000 in
theorem near_3 (a0 a1 a2 a3 : Int) (w : World) (h1 : a1 % 4 = 2) (b1 : -9223372036854775808 ≤ a2) (b2 : a2 ≤ 9223372036854775807) :
    Calls Try.prog 6 #[.int .i64 a0, .int .i64 a1, .int .i64 a2, .int .i64 a3] w fun e w' => e = .returned (.bool true) ∧ Below w.heap.size w w' := by
  have HP := Lib.hid h1
  obtain ⟨x, hx⟩ : ∃ x, Hid (mayF a2 = x) := ⟨_, rfl⟩
  have hxi := mayF_in a2
  rw [hx.out] at hxi
  obtain ⟨x0, x1⟩ := hxi
  obtain ⟨n, hn⟩ : ∃ n, Hid (backF a0 3 x = n) := ⟨_, rfl⟩
  have ht : tn 3 = 16777216 := by decide
  obtain ⟨n0, n1, hq, _⟩ := backF_spec a0 3 x x0 x1
  rw [hn.out] at n0 n1 hq
  obtain ⟨c, hc⟩ : ∃ c, Hid (cutF a0 3 = c) := ⟨_, rfl⟩
  have hcn : Hid (cutF n 3 = c) := hid_of (by
    rw [← hc.out]
    unfold cutF
    obtain ⟨q, hq⟩ := hq
    have : n = a0 + tn 3 * q := by omega
    rw [this, Int.add_mul_emod_self_left])
  clear hq
  obtain ⟨q, hq⟩ : ∃ q, Hid (a3 % 9 = q) := ⟨_, rfl⟩
  have q0 : 0 ≤ q := by have := hq.out; omega
  have q1 : q < 9 := by have := hq.out; omega
  have key := Lib.hid (near_spec a0 3 16777216 x n (n + (q - 4) * 16777216) (q - 4) ht x0 x1 hn.out rfl)
  clear h1 ht
  · by_cases c1 : n + (q - 4) * 16777216 < 0
    · clear key
      go_enter Try.func6, Try.ntmps6
      go_wp2_with (first
        | (go_at_call 14; (with_reducible first | refine (pick_at _ _ _ HP.out _ (by decide) (by decide)).mono ?_ | refine (pick_at _ _ _ hq.out _ (by decide) (by decide)).mono ?_); rintro e w' ⟨rfl, rfl⟩)
        | (go_at_call 13; (with_reducible refine (hmay_at _ _ hx.out _ b1 b2).mono ?_); rintro e w' ⟨rfl, rfl⟩)
        | (go_at_call 9; refine (known_any _).mono ?_; rintro e w' ⟨rfl, rfl⟩)
        | (go_at_call 11; (with_reducible first | refine (cut_at _ _ _ hcn.out _).mono ?_ | refine (cut_at _ _ _ hc.out _).mono ?_); rintro e w' ⟨rfl, rfl⟩)
        | (go_at_call 12; (with_reducible refine (back_at _ _ _ _ hn.out _).mono ?_); rintro e w' ⟨rfl, rfl⟩))
      go_ret
      exact ⟨rfl, Below.refl _ _⟩
    · by_cases c2 : 4611686018427387903 < n + (q - 4) * 16777216
      · clear key
        go_enter Try.func6, Try.ntmps6
        go_wp2_with (first
          | (go_at_call 14; (with_reducible first | refine (pick_at _ _ _ HP.out _ (by decide) (by decide)).mono ?_ | refine (pick_at _ _ _ hq.out _ (by decide) (by decide)).mono ?_); rintro e w' ⟨rfl, rfl⟩)
          | (go_at_call 13; (with_reducible refine (hmay_at _ _ hx.out _ b1 b2).mono ?_); rintro e w' ⟨rfl, rfl⟩)
          | (go_at_call 9; refine (known_any _).mono ?_; rintro e w' ⟨rfl, rfl⟩)
          | (go_at_call 11; (with_reducible first | refine (cut_at _ _ _ hcn.out _).mono ?_ | refine (cut_at _ _ _ hc.out _).mono ?_); rintro e w' ⟨rfl, rfl⟩)
          | (go_at_call 12; (with_reducible refine (back_at _ _ _ _ hn.out _).mono ?_); rintro e w' ⟨rfl, rfl⟩))
        go_ret
        exact ⟨rfl, Below.refl _ _⟩
      · by_cases c3 : q = 4
        · subst c3
          clear key
          go_enter Try.func6, Try.ntmps6
          go_wp2_with (first
            | (go_at_call 14; (with_reducible first | refine (pick_at _ _ _ HP.out _ (by decide) (by decide)).mono ?_ | refine (pick_at _ _ _ hq.out _ (by decide) (by decide)).mono ?_); rintro e w' ⟨rfl, rfl⟩)
            | (go_at_call 13; (with_reducible refine (hmay_at _ _ hx.out _ b1 b2).mono ?_); rintro e w' ⟨rfl, rfl⟩)
            | (go_at_call 9; refine (known_any _).mono ?_; rintro e w' ⟨rfl, rfl⟩)
            | (go_at_call 11; (with_reducible first | refine (cut_at _ _ _ hcn.out _).mono ?_ | refine (cut_at _ _ _ hc.out _).mono ?_); rintro e w' ⟨rfl, rfl⟩)
            | (go_at_call 12; (with_reducible refine (back_at _ _ _ _ hn.out _).mono ?_); rintro e w' ⟨rfl, rfl⟩))
          go_ret
          exact ⟨rfl, Below.refl _ _⟩
        · have hne : (n + (q - 4) * 16777216 == n) = false := by simp; omega
          have key2 := key.out (by omega) (by omega) (by omega)
          clear key c3
          by_cases s1 : x ≤ n <;> by_cases s2 : x ≤ n + (q - 4) * 16777216
          · have g : n - x < n + (q - 4) * 16777216 - x := by omega
            clear key2
            go_enter Try.func6, Try.ntmps6
            go_wp2_with (first
              | (go_at_call 14; (with_reducible first | refine (pick_at _ _ _ HP.out _ (by decide) (by decide)).mono ?_ | refine (pick_at _ _ _ hq.out _ (by decide) (by decide)).mono ?_); rintro e w' ⟨rfl, rfl⟩)
              | (go_at_call 13; (with_reducible refine (hmay_at _ _ hx.out _ b1 b2).mono ?_); rintro e w' ⟨rfl, rfl⟩)
              | (go_at_call 9; refine (known_any _).mono ?_; rintro e w' ⟨rfl, rfl⟩)
              | (go_at_call 11; (with_reducible first | refine (cut_at _ _ _ hcn.out _).mono ?_ | refine (cut_at _ _ _ hc.out _).mono ?_); rintro e w' ⟨rfl, rfl⟩)
              | (go_at_call 12; (with_reducible refine (back_at _ _ _ _ hn.out _).mono ?_); rintro e w' ⟨rfl, rfl⟩))
            go_ret
            exact ⟨rfl, Below.refl _ _⟩
          · by_cases g : n - x < x - (n + (q - 4) * 16777216)
            · clear key2
              go_enter Try.func6, Try.ntmps6
              go_wp2_with (first
                | (go_at_call 14; (with_reducible first | refine (pick_at _ _ _ HP.out _ (by decide) (by decide)).mono ?_ | refine (pick_at _ _ _ hq.out _ (by decide) (by decide)).mono ?_); rintro e w' ⟨rfl, rfl⟩)
                | (go_at_call 13; (with_reducible refine (hmay_at _ _ hx.out _ b1 b2).mono ?_); rintro e w' ⟨rfl, rfl⟩)
                | (go_at_call 9; refine (known_any _).mono ?_; rintro e w' ⟨rfl, rfl⟩)
                | (go_at_call 11; (with_reducible first | refine (cut_at _ _ _ hcn.out _).mono ?_ | refine (cut_at _ _ _ hc.out _).mono ?_); rintro e w' ⟨rfl, rfl⟩)
                | (go_at_call 12; (with_reducible refine (back_at _ _ _ _ hn.out _).mono ?_); rintro e w' ⟨rfl, rfl⟩))
              go_ret
              exact ⟨rfl, Below.refl _ _⟩
            · have g2 : (n - x == x - (n + (q - 4) * 16777216)) = true := by simp; omega
              have g3 : n + (q - 4) * 16777216 < n := by omega
              clear key2
              go_enter Try.func6, Try.ntmps6
              go_wp2_with (first
                | (go_at_call 14; (with_reducible first | refine (pick_at _ _ _ HP.out _ (by decide) (by decide)).mono ?_ | refine (pick_at _ _ _ hq.out _ (by decide) (by decide)).mono ?_); rintro e w' ⟨rfl, rfl⟩)
                | (go_at_call 13; (with_reducible refine (hmay_at _ _ hx.out _ b1 b2).mono ?_); rintro e w' ⟨rfl, rfl⟩)
                | (go_at_call 9; refine (known_any _).mono ?_; rintro e w' ⟨rfl, rfl⟩)
                | (go_at_call 11; (with_reducible first | refine (cut_at _ _ _ hcn.out _).mono ?_ | refine (cut_at _ _ _ hc.out _).mono ?_); rintro e w' ⟨rfl, rfl⟩)
                | (go_at_call 12; (with_reducible refine (back_at _ _ _ _ hn.out _).mono ?_); rintro e w' ⟨rfl, rfl⟩))
              go_ret
              exact ⟨rfl, Below.refl _ _⟩
          · have g : x - n < n + (q - 4) * 16777216 - x := by omega
            clear key2
            go_enter Try.func6, Try.ntmps6
            go_wp2_with (first
              | (go_at_call 14; (with_reducible first | refine (pick_at _ _ _ HP.out _ (by decide) (by decide)).mono ?_ | refine (pick_at _ _ _ hq.out _ (by decide) (by decide)).mono ?_); rintro e w' ⟨rfl, rfl⟩)
              | (go_at_call 13; (with_reducible refine (hmay_at _ _ hx.out _ b1 b2).mono ?_); rintro e w' ⟨rfl, rfl⟩)
              | (go_at_call 9; refine (known_any _).mono ?_; rintro e w' ⟨rfl, rfl⟩)
              | (go_at_call 11; (with_reducible first | refine (cut_at _ _ _ hcn.out _).mono ?_ | refine (cut_at _ _ _ hc.out _).mono ?_); rintro e w' ⟨rfl, rfl⟩)
              | (go_at_call 12; (with_reducible refine (back_at _ _ _ _ hn.out _).mono ?_); rintro e w' ⟨rfl, rfl⟩))
            go_ret
            exact ⟨rfl, Below.refl _ _⟩
          · have g : x - n < x - (n + (q - 4) * 16777216) := by omega
            clear key2
            go_enter Try.func6, Try.ntmps6
            go_wp2_with (first
              | (go_at_call 14; (with_reducible first | refine (pick_at _ _ _ HP.out _ (by decide) (by decide)).mono ?_ | refine (pick_at _ _ _ hq.out _ (by decide) (by decide)).mono ?_); rintro e w' ⟨rfl, rfl⟩)
              | (go_at_call 13; (with_reducible refine (hmay_at _ _ hx.out _ b1 b2).mono ?_); rintro e w' ⟨rfl, rfl⟩)
              | (go_at_call 9; refine (known_any _).mono ?_; rintro e w' ⟨rfl, rfl⟩)
              | (go_at_call 11; (with_reducible first | refine (cut_at _ _ _ hcn.out _).mono ?_ | refine (cut_at _ _ _ hc.out _).mono ?_); rintro e w' ⟨rfl, rfl⟩)
              | (go_at_call 12; (with_reducible refine (back_at _ _ _ _ hn.out _).mono ?_); rintro e w' ⟨rfl, rfl⟩))
            go_ret
            exact ⟨rfl, Below.refl _ _⟩

set_option maxHeartbeats 4000000 in
theorem near_4 (a0 a1 a2 a3 : Int) (w : World) (h1 : a1 % 4 = 3) (b1 : -9223372036854775808 ≤ a2) (b2 : a2 ≤ 9223372036854775807) :
    Calls Try.prog 6 #[.int .i64 a0, .int .i64 a1, .int .i64 a2, .int .i64 a3] w fun e w' => e = .returned (.bool true) ∧ Below w.heap.size w w' := by
  have HP := Lib.hid h1
  obtain ⟨x, hx⟩ : ∃ x, Hid (mayF a2 = x) := ⟨_, rfl⟩
  have hxi := mayF_in a2
  rw [hx.out] at hxi
  obtain ⟨x0, x1⟩ := hxi
  obtain ⟨n, hn⟩ : ∃ n, Hid (backF a0 4 x = n) := ⟨_, rfl⟩
  have ht : tn 4 = 4294967296 := by decide
  obtain ⟨n0, n1, hq, _⟩ := backF_spec a0 4 x x0 x1
  rw [hn.out] at n0 n1 hq
  obtain ⟨c, hc⟩ : ∃ c, Hid (cutF a0 4 = c) := ⟨_, rfl⟩
  have hcn : Hid (cutF n 4 = c) := hid_of (by
    rw [← hc.out]
    unfold cutF
    obtain ⟨q, hq⟩ := hq
    have : n = a0 + tn 4 * q := by omega
    rw [this, Int.add_mul_emod_self_left])
  clear hq
  obtain ⟨q, hq⟩ : ∃ q, Hid (a3 % 9 = q) := ⟨_, rfl⟩
  have q0 : 0 ≤ q := by have := hq.out; omega
  have q1 : q < 9 := by have := hq.out; omega
  have key := Lib.hid (near_spec a0 4 4294967296 x n (n + (q - 4) * 4294967296) (q - 4) ht x0 x1 hn.out rfl)
  clear h1 ht
  · by_cases c1 : n + (q - 4) * 4294967296 < 0
    · clear key
      go_enter Try.func6, Try.ntmps6
      go_wp2_with (first
        | (go_at_call 14; (with_reducible first | refine (pick_at _ _ _ HP.out _ (by decide) (by decide)).mono ?_ | refine (pick_at _ _ _ hq.out _ (by decide) (by decide)).mono ?_); rintro e w' ⟨rfl, rfl⟩)
        | (go_at_call 13; (with_reducible refine (hmay_at _ _ hx.out _ b1 b2).mono ?_); rintro e w' ⟨rfl, rfl⟩)
        | (go_at_call 9; refine (known_any _).mono ?_; rintro e w' ⟨rfl, rfl⟩)
        | (go_at_call 11; (with_reducible first | refine (cut_at _ _ _ hcn.out _).mono ?_ | refine (cut_at _ _ _ hc.out _).mono ?_); rintro e w' ⟨rfl, rfl⟩)
        | (go_at_call 12; (with_reducible refine (back_at _ _ _ _ hn.out _).mono ?_); rintro e w' ⟨rfl, rfl⟩))
      go_ret
      exact ⟨rfl, Below.refl _ _⟩
    · by_cases c2 : 4611686018427387903 < n + (q - 4) * 4294967296
      · clear key
        go_enter Try.func6, Try.ntmps6
        go_wp2_with (first
          | (go_at_call 14; (with_reducible first | refine (pick_at _ _ _ HP.out _ (by decide) (by decide)).mono ?_ | refine (pick_at _ _ _ hq.out _ (by decide) (by decide)).mono ?_); rintro e w' ⟨rfl, rfl⟩)
          | (go_at_call 13; (with_reducible refine (hmay_at _ _ hx.out _ b1 b2).mono ?_); rintro e w' ⟨rfl, rfl⟩)
          | (go_at_call 9; refine (known_any _).mono ?_; rintro e w' ⟨rfl, rfl⟩)
          | (go_at_call 11; (with_reducible first | refine (cut_at _ _ _ hcn.out _).mono ?_ | refine (cut_at _ _ _ hc.out _).mono ?_); rintro e w' ⟨rfl, rfl⟩)
          | (go_at_call 12; (with_reducible refine (back_at _ _ _ _ hn.out _).mono ?_); rintro e w' ⟨rfl, rfl⟩))
        go_ret
        exact ⟨rfl, Below.refl _ _⟩
      · by_cases c3 : q = 4
        · subst c3
          clear key
          go_enter Try.func6, Try.ntmps6
          go_wp2_with (first
            | (go_at_call 14; (with_reducible first | refine (pick_at _ _ _ HP.out _ (by decide) (by decide)).mono ?_ | refine (pick_at _ _ _ hq.out _ (by decide) (by decide)).mono ?_); rintro e w' ⟨rfl, rfl⟩)
            | (go_at_call 13; (with_reducible refine (hmay_at _ _ hx.out _ b1 b2).mono ?_); rintro e w' ⟨rfl, rfl⟩)
            | (go_at_call 9; refine (known_any _).mono ?_; rintro e w' ⟨rfl, rfl⟩)
            | (go_at_call 11; (with_reducible first | refine (cut_at _ _ _ hcn.out _).mono ?_ | refine (cut_at _ _ _ hc.out _).mono ?_); rintro e w' ⟨rfl, rfl⟩)
            | (go_at_call 12; (with_reducible refine (back_at _ _ _ _ hn.out _).mono ?_); rintro e w' ⟨rfl, rfl⟩))
          go_ret
          exact ⟨rfl, Below.refl _ _⟩
        · have hne : (n + (q - 4) * 4294967296 == n) = false := by simp; omega
          have key2 := key.out (by omega) (by omega) (by omega)
          clear key c3
          by_cases s1 : x ≤ n <;> by_cases s2 : x ≤ n + (q - 4) * 4294967296
          · have g : n - x < n + (q - 4) * 4294967296 - x := by omega
            clear key2
            go_enter Try.func6, Try.ntmps6
            go_wp2_with (first
              | (go_at_call 14; (with_reducible first | refine (pick_at _ _ _ HP.out _ (by decide) (by decide)).mono ?_ | refine (pick_at _ _ _ hq.out _ (by decide) (by decide)).mono ?_); rintro e w' ⟨rfl, rfl⟩)
              | (go_at_call 13; (with_reducible refine (hmay_at _ _ hx.out _ b1 b2).mono ?_); rintro e w' ⟨rfl, rfl⟩)
              | (go_at_call 9; refine (known_any _).mono ?_; rintro e w' ⟨rfl, rfl⟩)
              | (go_at_call 11; (with_reducible first | refine (cut_at _ _ _ hcn.out _).mono ?_ | refine (cut_at _ _ _ hc.out _).mono ?_); rintro e w' ⟨rfl, rfl⟩)
              | (go_at_call 12; (with_reducible refine (back_at _ _ _ _ hn.out _).mono ?_); rintro e w' ⟨rfl, rfl⟩))
            go_ret
            exact ⟨rfl, Below.refl _ _⟩
          · by_cases g : n - x < x - (n + (q - 4) * 4294967296)
            · clear key2
              go_enter Try.func6, Try.ntmps6
              go_wp2_with (first
                | (go_at_call 14; (with_reducible first | refine (pick_at _ _ _ HP.out _ (by decide) (by decide)).mono ?_ | refine (pick_at _ _ _ hq.out _ (by decide) (by decide)).mono ?_); rintro e w' ⟨rfl, rfl⟩)
                | (go_at_call 13; (with_reducible refine (hmay_at _ _ hx.out _ b1 b2).mono ?_); rintro e w' ⟨rfl, rfl⟩)
                | (go_at_call 9; refine (known_any _).mono ?_; rintro e w' ⟨rfl, rfl⟩)
                | (go_at_call 11; (with_reducible first | refine (cut_at _ _ _ hcn.out _).mono ?_ | refine (cut_at _ _ _ hc.out _).mono ?_); rintro e w' ⟨rfl, rfl⟩)
                | (go_at_call 12; (with_reducible refine (back_at _ _ _ _ hn.out _).mono ?_); rintro e w' ⟨rfl, rfl⟩))
              go_ret
              exact ⟨rfl, Below.refl _ _⟩
            · have g2 : (n - x == x - (n + (q - 4) * 4294967296)) = true := by simp; omega
              have g3 : n + (q - 4) * 4294967296 < n := by omega
              clear key2
              go_enter Try.func6, Try.ntmps6
              go_wp2_with (first
                | (go_at_call 14; (with_reducible first | refine (pick_at _ _ _ HP.out _ (by decide) (by decide)).mono ?_ | refine (pick_at _ _ _ hq.out _ (by decide) (by decide)).mono ?_); rintro e w' ⟨rfl, rfl⟩)
                | (go_at_call 13; (with_reducible refine (hmay_at _ _ hx.out _ b1 b2).mono ?_); rintro e w' ⟨rfl, rfl⟩)
                | (go_at_call 9; refine (known_any _).mono ?_; rintro e w' ⟨rfl, rfl⟩)
                | (go_at_call 11; (with_reducible first | refine (cut_at _ _ _ hcn.out _).mono ?_ | refine (cut_at _ _ _ hc.out _).mono ?_); rintro e w' ⟨rfl, rfl⟩)
                | (go_at_call 12; (with_reducible refine (back_at _ _ _ _ hn.out _).mono ?_); rintro e w' ⟨rfl, rfl⟩))
              go_ret
              exact ⟨rfl, Below.refl _ _⟩
          · have g : x - n < n + (q - 4) * 4294967296 - x := by omega
            clear key2
            go_enter Try.func6, Try.ntmps6
            go_wp2_with (first
              | (go_at_call 14; (with_reducible first | refine (pick_at _ _ _ HP.out _ (by decide) (by decide)).mono ?_ | refine (pick_at _ _ _ hq.out _ (by decide) (by decide)).mono ?_); rintro e w' ⟨rfl, rfl⟩)
              | (go_at_call 13; (with_reducible refine (hmay_at _ _ hx.out _ b1 b2).mono ?_); rintro e w' ⟨rfl, rfl⟩)
              | (go_at_call 9; refine (known_any _).mono ?_; rintro e w' ⟨rfl, rfl⟩)
              | (go_at_call 11; (with_reducible first | refine (cut_at _ _ _ hcn.out _).mono ?_ | refine (cut_at _ _ _ hc.out _).mono ?_); rintro e w' ⟨rfl, rfl⟩)
              | (go_at_call 12; (with_reducible refine (back_at _ _ _ _ hn.out _).mono ?_); rintro e w' ⟨rfl, rfl⟩))
            go_ret
            exact ⟨rfl, Below.refl _ _⟩
          · have g : x - n < x - (n + (q - 4) * 4294967296) := by omega
            clear key2
            go_enter Try.func6, Try.ntmps6
            go_wp2_with (first
              | (go_at_call 14; (with_reducible first | refine (pick_at _ _ _ HP.out _ (by decide) (by decide)).mono ?_ | refine (pick_at _ _ _ hq.out _ (by decide) (by decide)).mono ?_); rintro e w' ⟨rfl, rfl⟩)
              | (go_at_call 13; (with_reducible refine (hmay_at _ _ hx.out _ b1 b2).mono ?_); rintro e w' ⟨rfl, rfl⟩)
              | (go_at_call 9; refine (known_any _).mono ?_; rintro e w' ⟨rfl, rfl⟩)
              | (go_at_call 11; (with_reducible first | refine (cut_at _ _ _ hcn.out _).mono ?_ | refine (cut_at _ _ _ hc.out _).mono ?_); rintro e w' ⟨rfl, rfl⟩)
              | (go_at_call 12; (with_reducible refine (back_at _ _ _ _ hn.out _).mono ?_); rintro e w' ⟨rfl, rfl⟩))
            go_ret
            exact ⟨rfl, Below.refl _ _⟩

end Go.Proofs.Ytmdmkjkdfagcfaa
