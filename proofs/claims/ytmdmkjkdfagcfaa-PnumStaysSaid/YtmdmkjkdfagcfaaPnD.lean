/- PnumStays, PnumMonotone: the walks. Conditions: the numbers fit their kinds. -/
import Derived.Test.YtmdmkjkdfagcfaaPnC
namespace Go.Proofs.Ytmdmkjkdfagcfaa
open Go Go.RowKit

theorem pick_at (n m r : Int) (h : n % m = r) (w : World) (hm : 0 < m) (hm2 : m ≤ 9223372036854775807) :
    Calls Try.prog 14 #[.int .i64 n, .int .i64 m] w fun e w' => e = .returned (.int .i64 r) ∧ w = w' := by
  have := pick_any n m w hm hm2
  rwa [h] at this
theorem hmay_at (n r : Int) (h : mayF n = r) (w : World) (h1 : -9223372036854775808 ≤ n) (h2 : n ≤ 9223372036854775807) :
    Calls Try.prog 13 #[.int .i64 n] w fun e w' => e = .returned (.int .i64 r) ∧ w = w' := by
  have := hmay_any n w h1 h2
  rwa [h] at this
theorem hid_of {p : Prop} (h : p) : Hid p := h

theorem backF_spec (cut k x : Int) (h0 : 0 ≤ x) (h1 : x ≤ 4611686018427387903) :
    0 ≤ backF cut k x ∧ backF cut k x ≤ 4611686018427387903 ∧ (∃ q, backF cut k x - cut = tn k * q) ∧ ((x - cut) % tn k = 0 → backF cut k x = x) := by
  have := backG_spec cut (tn k) x (tn_or k) h0 h1
  unfold backF
  rw [mayR_id x h0 h1]
  exact ⟨this.1, this.2.1, this.2.2.1, this.2.2.2.1⟩
theorem cut_back (x k : Int) : (x - cutF x k) % tn k = 0 := by
  unfold cutF
  have := Int.mul_ediv_add_emod x (tn k)
  have e : x - x % tn k = tn k * (x / tn k) := by omega
  rw [e, Int.mul_emod_right]

set_option maxHeartbeats 1000000 in
theorem stays_walk (a0 a1 a2 : Int) (w : World) (b1 : -9223372036854775808 ≤ a0) (b2 : a0 ≤ 9223372036854775807) (_ : -9223372036854775808 ≤ a1) (_ : a1 ≤ 9223372036854775807) (_ : -9223372036854775808 ≤ a2) (_ : a2 ≤ 9223372036854775807) :
    Calls Try.prog 8 #[.int .i64 a0, .int .i64 a1, .int .i64 a2] w fun e w' => e = .returned (.bool true) ∧ Below w.heap.size w w' := by
  obtain ⟨p, hp⟩ : ∃ p, Hid (a2 % 4 = p) := ⟨_, rfl⟩
  have p0 : 0 ≤ p := by have := hp.out; omega
  have p1 : p ≤ 3 := by have := hp.out; omega
  obtain ⟨x, hx⟩ : ∃ x, Hid (mayF a0 = x) := ⟨_, rfl⟩
  have hxi := mayF_in a0
  rw [hx.out] at hxi
  obtain ⟨x0, x1⟩ := hxi
  obtain ⟨n, hn⟩ : ∃ n, Hid (backF a1 (1 + p) x = n) := ⟨_, rfl⟩
  obtain ⟨n0, n1, hq, _⟩ := backF_spec a1 (1 + p) x x0 x1
  rw [hn.out] at n0 n1 hq
  have hnn : Hid (backF a1 (1 + p) n = n) := hid_of ((backF_spec a1 (1 + p) n n0 n1).2.2.2 (by obtain ⟨q, hq⟩ := hq; rw [hq, Int.mul_emod_right]))
  clear hq
  obtain ⟨c1, hc1⟩ : ∃ c, Hid (cutF x (1 + p) = c) := ⟨_, rfl⟩
  have h1 : Hid (backF c1 (1 + p) x = x) := hid_of ((backF_spec c1 (1 + p) x x0 x1).2.2.2 (by rw [← hc1.out]; exact cut_back x _))
  have hc2 : Hid (cutF 0 (1 + p) = 0) := hid_of (by unfold cutF; simp)
  have h2 : Hid (backF 0 (1 + p) 0 = 0) := hid_of ((backF_spec 0 (1 + p) 0 (by decide) (by decide)).2.2.2 (by simp))
  obtain ⟨c3, hc3⟩ : ∃ c, Hid (cutF 4611686018427387903 (1 + p) = c) := ⟨_, rfl⟩
  have h3 : Hid (backF c3 (1 + p) 4611686018427387903 = 4611686018427387903) := hid_of ((backF_spec c3 (1 + p) 4611686018427387903 (by decide) (by decide)).2.2.2 (by rw [← hc3.out]; exact cut_back _ _))
  go_enter Try.func8, Try.ntmps8
  go_wp2_with (first
    | (go_at_call 14; (with_reducible refine (pick_at _ _ _ hp.out _ (by decide) (by decide)).mono ?_); rintro e w' ⟨rfl, rfl⟩)
    | (go_at_call 13; (with_reducible refine (hmay_at _ _ hx.out _ b1 b2).mono ?_); rintro e w' ⟨rfl, rfl⟩)
    | (go_at_call 9; refine (known_any _).mono ?_; rintro e w' ⟨rfl, rfl⟩)
    | (go_at_call 11; (with_reducible first | refine (cut_at _ _ _ hc1.out _).mono ?_ | refine (cut_at _ _ _ hc2.out _).mono ?_ | refine (cut_at _ _ _ hc3.out _).mono ?_); rintro e w' ⟨rfl, rfl⟩)
    | (go_at_call 12; (with_reducible first | refine (back_at _ _ _ _ hn.out _).mono ?_ | refine (back_at _ _ _ _ h1.out _).mono ?_ | refine (back_at _ _ _ _ h2.out _).mono ?_ | refine (back_at _ _ _ _ h3.out _).mono ?_ | refine (back_at _ _ _ _ hnn.out _).mono ?_); rintro e w' ⟨rfl, rfl⟩))
  go_ret
  exact ⟨rfl, Below.refl _ _⟩
end Go.Proofs.Ytmdmkjkdfagcfaa
