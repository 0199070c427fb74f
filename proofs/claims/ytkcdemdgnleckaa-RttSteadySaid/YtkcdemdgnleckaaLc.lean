/- RttSteady: the walk. Conditions: as the theorem lists them. -/
import Derived.Test.YtkcdemdgnleckaaRd
import Derived.Test.YtkcdemdgnleckaaOp
import Derived.Test.YtkcdemdgnleckaaRtKn
import Derived.Outline
import Derived.Deep.DeepCutAuto
import Derived.Deep.CutBlock
set_option linter.unusedSimpArgs false
set_option linter.unusedVariables false
namespace Go.Proofs.Ytkcdemdgnleckaa.Rtt
open Go Go.RowKit

/-- Samples that are all alike in the one, any between lo and hi in the other. -/
def SteadyW (w wr : World) (p q : Nat) (x lo hi : Int) (s s' : RS) : Prop := One w wr p 23 s ∧ One w wr q 23 s' ∧ p ≠ q ∧ Alike s x ∧ Mid s' lo hi

theorem wait_two {s : RS} (h : Good s) (b : Int) (h0 : 0 ≤ b) (h1 : b ≤ 10) : 2 ≤ waitF (back s b) ∧ waitF (back s b) ≤ 32 ∧ waitF (back s b) ≤ waitF (back s (b + 1)) ∧ waitF (back s (b + 1)) ≤ 2 * waitF (back s b) ∧ waitF (back s (b + 1)) ≤ 32 := by
  have a := wait_bounds (h.back b)
  by_cases c : b < 10
  · have := wait_next h b h0 c; omega
  · have := wait_same (s := s) b (by omega); omega

set_option maxRecDepth 100000 in
set_option maxHeartbeats 8000000 in
theorem steady_walk (A : Option Addr) (c : Nat) (l : List Int) (x0 bk : Int) (w : World) (hl : IsInts w A c l) (_ : -9223372036854775808 ≤ x0) (_ : x0 ≤ 9223372036854775807) (_ : -9223372036854775808 ≤ bk) (_ : bk ≤ 9223372036854775807) :
    Calls Try.prog 5 #[.slice A l.length c, .int .i64 x0, .int .i64 bk] w fun e w' => e = .returned (.bool true) ∧ Below w.heap.size w w' := by
  have HL := Lib.hid hl
  obtain ⟨n, hn⟩ : ∃ n, Hid (l.length = n) := ⟨_, rfl⟩
  have hnc : n ≤ c := by rw [← hn.out]; exact hl.cap
  have hnm : (n : Int) ≤ 17592186044416 := by have := hl.reach; rw [hn.out] at this; omega
  rw [hn.out]
  clear hl
  have HPX := Lib.hid (fun W => pick_any x0 20 W (by omega) (by omega))
  have hx0 := Int.emod_nonneg x0 (show (20 : Int) ≠ 0 by decide)
  have hx1 := Int.emod_lt_of_pos x0 (show (0 : Int) < 20 by decide)
  obtain ⟨x1, hx⟩ : ∃ z, Hid (x0 % 20 = z) := ⟨_, rfl⟩
  rw [hx.out] at HPX hx0 hx1
  go_enter Try.func5, Try.ntmps5
  go_wp2_with (go_at_call 13; refine (HPX.out _).mono ?_; rintro e w' ⟨rfl, rfl⟩)
  obtain ⟨p, hp⟩ : ∃ g, Hid (w.heap.size = g) := ⟨_, rfl⟩
  have h1 : One w (w.alloc (.cells #[.int .i64 0, .int .i64 0, .int .i64 0, .bool false] 23)) p 23 r0 := One.new_ (Below.refl _ _) _ _ hp.out.symm
  have h2 : One w ((w.alloc (.cells #[.int .i64 0, .int .i64 0, .int .i64 0, .bool false] 23)).alloc (.cells #[.int .i64 0, .int .i64 0, .int .i64 0, .bool false] 23)) (p + 1) 23 r0 := One.new_ h1.below _ _ (by simp; exact hp.out.symm)
  have HST : Hid (SteadyW w ((w.alloc (.cells #[.int .i64 0, .int .i64 0, .int .i64 0, .bool false] 23)).alloc (.cells #[.int .i64 0, .int .i64 0, .int .i64 0, .bool false] 23)) p (p + 1) (1 + x1) 1000 0 r0 r0) := ⟨h1.goes ((Below.refl _ _).alloc (Nat.le_refl _) _), h2, by omega, fun h => (by cases h), fun h => (by cases h)⟩
  clear h1 h2
  rw [hp.out]
  go_loopw [9, 10, 23] (fun a b i wr => ∃ (k : Nat) (lo hi : Int) (s s' : RS), k ≤ n ∧ i = .int .i64 k ∧ a = .int .i64 lo ∧ b = .int .i64 hi ∧ 1 ≤ lo ∧ lo ≤ 1000 ∧ 0 ≤ hi ∧ hi ≤ 40 ∧ Hid (SteadyW w wr p (p + 1) (1 + x1) lo hi s s')) (fun _ _ i _ => n - (intOf i).toNat)
  case atStart => exact ⟨0, 1000, 0, r0, r0, Nat.zero_le _, rfl, rfl, rfl, by decide, by decide, by decide, by decide, HST⟩
  case round =>
    clear HST
    obtain ⟨k, lo, hi, s, s', hk, rfl, rfl, rfl, hlo1, hlo2, hhi1, hhi2, HK⟩ := hrel
    by_cases hlt : k < n
    · have hlti : (k : Int) < (n : Int) := by omega
      have hki : (k : Int) ≤ 17592186044416 := by omega
      obtain ⟨_, b, off, hA, hbn, hcs⟩ := HL.out.rd.int (by rw [hn.out]; omega)
      subst hA
      obtain ⟨x, hx⟩ : ∃ x, Hid (l.getD k 0 = x) := ⟨_, rfl⟩
      have hcx : wr.cell? ⟨b, off + k, none⟩ = some (.int .i64 x) := by
        rw [HK.out.1.below.cell (p := ⟨b, off + k, none⟩) hbn, hcs k (by rw [hn.out]; omega), hx.out]
      clear hcs
      have HPY := Lib.hid (fun W => pick_any x 40 W (by omega) (by omega))
      have hy0 := Int.emod_nonneg x (show (40 : Int) ≠ 0 by decide)
      have hy1 := Int.emod_lt_of_pos x (show (0 : Int) < 40 by decide)
      obtain ⟨y, hy⟩ : ∃ z, Hid (x % 40 = z) := ⟨_, rfl⟩
      rw [hy.out] at HPY hy0 hy1
      have HS1 := Lib.hid (sample_one _ HK.out.1 (1 + x1))
      go_wp2_with fail
      refine HS1.out.mono ?_
      rintro e w1 ⟨rfl, h1, hg⟩
      have HK1 : Hid (SteadyW w w1 p (p + 1) (1 + x1) lo hi (samp s (1 + x1)) s') := ⟨h1, HK.out.2.1.but hg HK.out.1.new (Ne.symm HK.out.2.2.1), HK.out.2.2.1, HK.out.2.2.2.1.samp (by omega) (by omega), HK.out.2.2.2.2⟩
      clear h1 hg HS1
      have HS2 := Lib.hid (sample_one _ HK1.out.2.1 (1 + y))
      obtain ⟨lo', hlo'⟩ : ∃ z, Hid (min lo (1 + y) = z) := ⟨_, rfl⟩
      obtain ⟨hi', hhi'⟩ : ∃ z, Hid (max hi (1 + y) = z) := ⟨_, rfl⟩
      go_upto_region 13 with (go_at_call 13; refine (HPY.out _).mono ?_; rintro e w' ⟨rfl, rfl⟩)
      have e1 : (if 1 + y < lo then 1 + y else lo) = lo' := by have := hlo'.out; split <;> omega
      have e2 : (if hi < 1 + y then 1 + y else hi) = hi' := by have := hhi'.out; split <;> omega
      rw [e1, e2]
      clear e1 e2
      have f1 : 1 ≤ lo' ∧ lo' ≤ 40 ∧ 1 ≤ hi' ∧ hi' ≤ 40 := by have := hlo'.out; have := hhi'.out; omega
      obtain ⟨f1, f2, f3, f4⟩ := f1
      go_wp2_with fail
      refine HS2.out.mono ?_
      rintro e w2 ⟨rfl, h1, hg⟩
      have h4 : SteadyW w w2 p (p + 1) (1 + x1) lo' hi' (samp s (1 + x1)) (samp s' (1 + y)) := ⟨HK1.out.1.but hg HK1.out.2.1.new HK1.out.2.2.1, h1, HK1.out.2.2.1, HK1.out.2.2.2.1, by have := HK1.out.2.2.2.2.samp (x := 1 + y) (by omega) (by omega); rwa [hlo'.out, hhi'.out] at this⟩
      have hr1 : roundF (samp s (1 + x1)) = 1 + x1 := alike_round h4.2.2.2.1 (samp_so _ _) (by omega)
      have hr2 := mid_round h4.2.2.2.2 (samp_so _ _) f3
      have hv := h4.2.1.good.v0
      have hvc := h4.2.1.cells.2.1
      have HRO := Lib.hid (round_one _ h4.1)
      rw [hr1] at HRO
      have HRP := Lib.hid (round_one _ h4.2.1)
      obtain ⟨t1, ht1⟩ : ∃ z, Hid (samp s (1 + x1) = z) := ⟨_, rfl⟩
      obtain ⟨t2, ht2⟩ : ∃ z, Hid (samp s' (1 + y) = z) := ⟨_, rfl⟩
      rw [ht1.out, ht2.out] at h4
      rw [ht2.out] at hv hvc hr2 HRP
      have HK2 := Lib.hid h4
      obtain ⟨r, hr'⟩ : ∃ z, Hid (roundF t2 = z) := ⟨_, rfl⟩
      obtain ⟨v, hv'⟩ : ∃ z, Hid (t2.va = z) := ⟨_, rfl⟩
      rw [hr'.out] at HRP hr2
      rw [hv'.out] at hv hvc
      obtain ⟨r1, r2⟩ := hr2
      have d0 : decide (hi' < r) = false := decide_eq_false (by omega)
      have d1 : decide (v < 0) = false := decide_eq_false (by omega)
      have q0 : 1 ≤ r := by omega
      have q1 : lo' - 1 ≤ r := by omega
      clear h4 h1 hg HS2 HK1 hr1
      go_wp2_with fail
      refine HRO.out.mono ?_
      rintro e w' ⟨rfl, rfl⟩
      go_wp2_with fail
      refine HRP.out.mono ?_
      rintro e w' ⟨rfl, rfl⟩
      go_wp2_with fail
      all_goals
        refine HRP.out.mono ?_
        rintro e w' ⟨rfl, rfl⟩
        go_wp2_with fail
        refine ⟨⟨k + 1, lo', hi', t1, t2, by omega, by go_num, rfl, rfl, by omega, by omega, by omega, by omega, HK2⟩, by simp [intOf]; omega⟩
    · obtain rfl : k = n := by omega
      have HPB := Lib.hid (fun W => pick_any bk 11 W (by omega) (by omega))
      have hb0 := Int.emod_nonneg bk (show (11 : Int) ≠ 0 by decide)
      have hb1 := Int.emod_lt_of_pos bk (show (0 : Int) < 11 by decide)
      obtain ⟨b, hb⟩ : ∃ z, Hid (bk % 11 = z) := ⟨_, rfl⟩
      rw [hb.out] at HPB hb0 hb1
      have HO := Lib.hid HK.out.2.1
      have hf2 := HO.out.cells.2.2.2.2 2
      have hc2 := HO.out.cells.2.2.1
      clear HK
      go_wp2_with fail
      refine (HPB.out _).mono ?_
      rintro e w' ⟨rfl, hw⟩
      subst hw
      go_upto_region 18 with fail
      have h2 := (HO.out.back b).1
      generalize wr.setCell ⟨p + 1, 2, none⟩ (.int .i64 b) = w2 at h2 ⊢
      have W2 := wait_two HO.out.good b hb0 (by omega)
      have HWA := Lib.hid (wait_one _ h2)
      have HO2 := Lib.hid h2
      clear hf2 hc2 HO h2
      have hf2 := HO2.out.cells.2.2.2.2 2
      have hc2 := HO2.out.cells.2.2.1
      have e3 : (back s' b).bk = b := rfl
      rw [e3] at hc2
      clear e3
      obtain ⟨one, h1'⟩ : ∃ z, Hid (waitF (back s' b) = z) := ⟨_, rfl⟩
      obtain ⟨two, h2'⟩ : ∃ z, Hid (waitF (back s' (b + 1)) = z) := ⟨_, rfl⟩
      rw [h1'.out] at W2 HWA
      rw [h2'.out] at W2
      obtain ⟨g1, g2, g3, g4, g5⟩ := W2
      go_wp2_with fail
      refine HWA.out.mono ?_
      rintro e w' ⟨rfl, hw⟩
      obtain rfl : w2 = w' := hw.symm
      go_upto_region 20 with fail
      have h3 := (HO2.out.back (b + 1)).1
      generalize w2.setCell ⟨p + 1, 2, none⟩ (.int .i64 (b + 1)) = w3 at h3 ⊢
      have HWB := Lib.hid (wait_one _ h3)
      have e4 : waitF (back (back s' b) (b + 1)) = two := h2'.out
      rw [e4] at HWB
      clear e4 HWA HO2 hf2 hc2
      have HO3 := Lib.hid h3
      clear h3
      go_wp2_with fail
      refine HWB.out.mono ?_
      rintro e w' ⟨rfl, hw⟩
      obtain rfl : w3 = w' := hw.symm
      go_wp2_with fail
      refine (RtKn.known_any _).mono ?_
      rintro e w4 ⟨rfl, hb⟩
      have h4 := HO3.out.goes hb
      have HRO := Lib.hid (round_one _ h4)
      have HLA := Lib.hid (late_one _ h4)
      have hr := h4.good.round
      have hll : roundF (back (back s' b) (b + 1)) < lateF (back (back s' b) (b + 1)) := by unfold lateF; omega
      obtain ⟨r, hr'⟩ : ∃ z, Hid (roundF (back (back s' b) (b + 1)) = z) := ⟨_, rfl⟩
      obtain ⟨d, hd'⟩ : ∃ z, Hid (lateF (back (back s' b) (b + 1)) = z) := ⟨_, rfl⟩
      rw [hr'.out] at HRO hll hr
      rw [hd'.out] at HLA hll
      have HB := Lib.hid h4.below
      clear hb h4 HO3
      have d1 : decide (1 ≤ one) = true := decide_eq_true (by omega)
      have d2 : decide (one ≤ two) = true := decide_eq_true (by omega)
      have d3 : decide (two ≤ 2 * one) = true := decide_eq_true (by omega)
      have d4 : decide (two ≤ 32) = true := decide_eq_true (by omega)
      have d5 : decide (r < d) = true := decide_eq_true (by omega)
      go_wp2_with fail
      refine HLA.out.mono ?_
      rintro e w' ⟨rfl, hw⟩
      obtain rfl : w4 = w' := hw.symm
      go_wp2_with fail
      refine HRO.out.mono ?_
      rintro e w' ⟨rfl, hw⟩
      obtain rfl : w4 = w' := hw.symm
      go_wp2_with fail
      go_ret
      exact ⟨rfl, HB.out⟩
end Go.Proofs.Ytkcdemdgnleckaa.Rtt
