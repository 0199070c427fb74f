/- RttGrows: the walk. Conditions: as the theorem lists them. -/
import Derived.Test.YtkcdemdgnleckaaRd
import Derived.Test.YtkcdemdgnleckaaOp
import Derived.Test.YtkcdemdgnleckaaRtKn
import Derived.Outline
import Derived.Deep.DeepCutAuto
import Derived.Deep.CutBlock
set_option linter.unusedSimpArgs false
set_option linter.unusedVariables false
namespace Go.Proofs.Ytkcdemdgnleckaa.Rtt
open Go Go.RowKit

theorem One.copy {w wr : World} {p : Nat} {T : TypeId} {s : RS} (h : One w wr p T s) (q : Nat) (hq : q = wr.heap.size) : One w (wr.alloc (.cells #[.int .i64 s.sm, .int .i64 s.va, .int .i64 s.bk, .bool s.so] T)) q T s ∧ One w (wr.alloc (.cells #[.int .i64 s.sm, .int .i64 s.va, .int .i64 s.bk, .bool s.so] T)) p T s ∧ p ≠ q := by
  subst hq
  exact ⟨⟨heap_alloc_new _ _, h.good, h.below.alloc h.below.size _, h.below.size⟩, h.goes ((Below.refl _ _).alloc (Nat.le_refl _) _), by have := h.lt; omega⟩

set_option maxRecDepth 100000 in
set_option maxHeartbeats 8000000 in
theorem grows_walk (A : Option Addr) (c : Nat) (l : List Int) (x0 mo bk : Int) (w : World) (hl : IsInts w A c l) (_ : -9223372036854775808 ≤ x0) (_ : x0 ≤ 9223372036854775807) (_ : -9223372036854775808 ≤ mo) (_ : mo ≤ 9223372036854775807) (_ : -9223372036854775808 ≤ bk) (_ : bk ≤ 9223372036854775807) :
    Calls Try.prog 6 #[.slice A l.length c, .int .i64 x0, .int .i64 mo, .int .i64 bk] w fun e w' => e = .returned (.bool true) ∧ Below w.heap.size w w' := by
  have HL := Lib.hid hl
  obtain ⟨n, hn⟩ : ∃ n, Hid (l.length = n) := ⟨_, rfl⟩
  have hnc : n ≤ c := by rw [← hn.out]; exact hl.cap
  have hnm : (n : Int) ≤ 17592186044416 := by have := hl.reach; rw [hn.out] at this; omega
  rw [hn.out]
  clear hl
  go_enter Try.func6, Try.ntmps6
  go_wp2_with fail
  obtain ⟨p, hp⟩ : ∃ g, Hid (w.heap.size = g) := ⟨_, rfl⟩
  have HST : Hid (One w (w.alloc (.cells #[.int .i64 0, .int .i64 0, .int .i64 0, .bool false] 23)) p 23 r0) := One.new_ (Below.refl _ _) _ _ hp.out.symm
  rw [hp.out]
  go_loopw [19] (fun i wr => ∃ (k : Nat) (s : RS), k ≤ n ∧ i = .int .i64 k ∧ Hid (One w wr p 23 s)) (fun i _ => n - (intOf i).toNat)
  case atStart => exact ⟨0, r0, Nat.zero_le _, rfl, HST⟩
  case round =>
    clear HST
    obtain ⟨k, s, hk, rfl, HK⟩ := hrel
    by_cases hlt : k < n
    · have hlti : (k : Int) < (n : Int) := by omega
      have hki : (k : Int) ≤ 17592186044416 := by omega
      obtain ⟨_, b, off, hA, hbn, hcs⟩ := HL.out.rd.int (by rw [hn.out]; omega)
      subst hA
      obtain ⟨x, hx⟩ : ∃ x, Hid (l.getD k 0 = x) := ⟨_, rfl⟩
      have hcx : wr.cell? ⟨b, off + k, none⟩ = some (.int .i64 x) := by
        rw [HK.out.below.cell (p := ⟨b, off + k, none⟩) hbn, hcs k (by rw [hn.out]; omega), hx.out]
      clear hcs
      have HPY := Lib.hid (fun W => pick_any x 50 W (by omega) (by omega))
      have hy0 := Int.emod_nonneg x (show (50 : Int) ≠ 0 by decide)
      have hy1 := Int.emod_lt_of_pos x (show (0 : Int) < 50 by decide)
      obtain ⟨y, hy⟩ : ∃ z, Hid (x % 50 = z) := ⟨_, rfl⟩
      rw [hy.out] at HPY hy0 hy1
      have HS1 := Lib.hid (sample_one _ HK.out (1 + y))
      go_wp2_with fail
      refine (HPY.out _).mono ?_
      rintro e w' ⟨rfl, hw⟩
      subst hw
      go_wp2_with fail
      refine HS1.out.mono ?_
      rintro e w1 ⟨rfl, h1, hg⟩
      have H1 := Lib.hid h1
      clear h1 hg
      go_wp2_with fail
      go_roundw
      case rel => exact ⟨k + 1, samp s (1 + y), by omega, by go_num, H1⟩
      case measure => simp [intOf]; omega
    · obtain rfl : k = n := by omega
      have HGS := Lib.hid HK.out.good
      obtain ⟨a0, a1, a2, a3, _⟩ := HK.out.cells
      go_wp2_with fail
      have HPX := Lib.hid (fun W => pick_any x0 50 W (by omega) (by omega))
      have HPM := Lib.hid (fun W => pick_any mo 20 W (by omega) (by omega))
      have HPB := Lib.hid (fun W => pick_any bk 9 W (by omega) (by omega))
      have hx0 := Int.emod_nonneg x0 (show (50 : Int) ≠ 0 by decide)
      have hx1 := Int.emod_lt_of_pos x0 (show (0 : Int) < 50 by decide)
      have hm0 := Int.emod_nonneg mo (show (20 : Int) ≠ 0 by decide)
      have hm1 := Int.emod_lt_of_pos mo (show (0 : Int) < 20 by decide)
      have hb0 := Int.emod_nonneg bk (show (9 : Int) ≠ 0 by decide)
      have hb1 := Int.emod_lt_of_pos bk (show (0 : Int) < 9 by decide)
      obtain ⟨x, hx⟩ : ∃ z, Hid (x0 % 50 = z) := ⟨_, rfl⟩
      obtain ⟨m, hm⟩ : ∃ z, Hid (mo % 20 = z) := ⟨_, rfl⟩
      obtain ⟨b, hb⟩ : ∃ z, Hid (bk % 9 = z) := ⟨_, rfl⟩
      rw [hx.out] at HPX hx0 hx1
      rw [hm.out] at HPM hm0 hm1
      rw [hb.out] at HPB hb0 hb1
      obtain ⟨q, hq⟩ : ∃ g, Hid (wr.heap.size = g) := ⟨_, rfl⟩
      have h1 := HK.out.copy q hq.out.symm
      rw [hq.out]
      generalize wr.alloc (.cells #[.int .i64 s.sm, .int .i64 s.va, .int .i64 s.bk, .bool s.so] 23) = W1 at h1 ⊢
      have H1 := Lib.hid h1
      clear h1 a0 a1 a2 a3 HK hq
      refine (HPX.out _).mono ?_
      rintro e w' ⟨rfl, hw⟩
      subst hw
      have HS := Lib.hid (sample_one _ H1.out.2.1 (1 + x))
      go_wp2_with fail
      refine HS.out.mono ?_
      rintro e W2 ⟨rfl, h1, hg⟩
      obtain ⟨u, hu⟩ : ∃ z, Hid (samp s (1 + x) = z) := ⟨_, rfl⟩
      rw [hu.out] at h1
      have H2 : Hid (One w W2 p 23 u ∧ One w W2 q 23 s ∧ p ≠ q) := ⟨h1, H1.out.1.but hg H1.out.2.1.new (Ne.symm H1.out.2.2), H1.out.2.2⟩
      clear h1 hg HS H1
      have hc := H2.out.2.1.cells.2.2.1
      have hf := H2.out.2.1.cells.2.2.2.2 2
      go_upto_region 11 with fail
      have h1 := H2.out.2.1.back 5
      have h2 : One w (W2.setCell ⟨q, 2, none⟩ (.int .i64 5)) p 23 u := H2.out.1.but h1.2 H2.out.2.1.new H2.out.2.2
      obtain ⟨h1, _⟩ := h1
      generalize W2.setCell ⟨q, 2, none⟩ (.int .i64 5) = W3 at h1 h2 ⊢
      have H3 := Lib.hid (And.intro h2 (And.intro h1 H2.out.2.2))
      clear h1 h2 hc hf H2
      go_wp2_with fail
      refine (HPM.out _).mono ?_
      rintro e w' ⟨rfl, hw⟩
      subst hw
      have HS := Lib.hid (sample_one _ H3.out.2.1 (1 + x + m))
      go_wp2_with fail
      refine HS.out.mono ?_
      rintro e W4 ⟨rfl, h1, hg⟩
      obtain ⟨v, hv⟩ : ∃ z, Hid (samp s (1 + x + m) = z) := ⟨_, rfl⟩
      rw [samp_back, hv.out] at h1
      have H4 : Hid (One w W4 p 23 u ∧ One w W4 q 23 v ∧ p ≠ q) := ⟨H3.out.1.but hg H3.out.2.1.new H3.out.2.2, h1, H3.out.2.2⟩
      clear h1 hg HS H3
      obtain ⟨a0, a1, a2, a3, _⟩ := H4.out.1.cells
      go_upto_region 13 with fail
      obtain ⟨o, ho⟩ : ∃ g, Hid (W4.heap.size = g) := ⟨_, rfl⟩
      have h1 := H4.out.1.copy o ho.out.symm
      have h2 := H4.out.2.1.goes ((Below.refl _ _).alloc (Nat.le_refl _) (.cells #[.int .i64 u.sm, .int .i64 u.va, .int .i64 u.bk, .bool u.so] 23))
      have h3 : o ≠ q := by have := H4.out.2.1.lt; have := ho.out; omega
      rw [ho.out]
      generalize W4.alloc (.cells #[.int .i64 u.sm, .int .i64 u.va, .int .i64 u.bk, .bool u.so] 23) = W5 at h1 h2 ⊢
      have H5 : Hid (One w W5 p 23 u ∧ One w W5 q 23 v ∧ One w W5 o 23 u ∧ p ≠ q ∧ p ≠ o ∧ o ≠ q) := ⟨h1.2.1, h2, h1.1, H4.out.2.2, h1.2.2, h3⟩
      clear h1 h2 h3 a0 a1 a2 a3 H4 ho
      obtain ⟨a0, a1, a2, a3, _⟩ := H5.out.1.cells
      go_upto_region 14 with fail
      obtain ⟨t, ht⟩ : ∃ g, Hid (W5.heap.size = g) := ⟨_, rfl⟩
      have h1 := H5.out.1.copy t ht.out.symm
      have h2 := H5.out.2.1.goes ((Below.refl _ _).alloc (Nat.le_refl _) (.cells #[.int .i64 u.sm, .int .i64 u.va, .int .i64 u.bk, .bool u.so] 23))
      have h4 := H5.out.2.2.1.goes ((Below.refl _ _).alloc (Nat.le_refl _) (.cells #[.int .i64 u.sm, .int .i64 u.va, .int .i64 u.bk, .bool u.so] 23))
      have h3 : t ≠ q ∧ t ≠ o := by have := H5.out.2.1.lt; have := H5.out.2.2.1.lt; have := ht.out; omega
      rw [ht.out]
      generalize W5.alloc (.cells #[.int .i64 u.sm, .int .i64 u.va, .int .i64 u.bk, .bool u.so] 23) = W6 at h1 h2 h4 ⊢
      have H6 : Hid (One w W6 p 23 u ∧ One w W6 q 23 v ∧ One w W6 o 23 u ∧ One w W6 t 23 u ∧ p ≠ o ∧ q ≠ o ∧ t ≠ o ∧ p ≠ t ∧ q ≠ t ∧ o ≠ t) := ⟨h1.2.1, h2, h4, h1.1, H5.out.2.2.2.2.1, Ne.symm H5.out.2.2.2.2.2, h3.2, h1.2.2, Ne.symm h3.1, Ne.symm h3.2⟩
      clear h1 h2 h3 h4 a0 a1 a2 a3 H5 ht
      have hc := H6.out.2.2.1.cells.2.2.1
      have hf := H6.out.2.2.1.cells.2.2.2.2 2
      go_upto_region 15 with (go_at_call 13; refine (HPB.out _).mono ?_; rintro e w' ⟨rfl, rfl⟩)
      have h1 := H6.out.2.2.1.back b
      obtain ⟨g1, g2, _, g4, n1, n2, n3, n4, n5, n6⟩ := H6.out
      have g1 := g1.but h1.2 H6.out.2.2.1.new n1
      have g2 := g2.but h1.2 H6.out.2.2.1.new n2
      have g4 := g4.but h1.2 H6.out.2.2.1.new n3
      obtain ⟨h1, _⟩ := h1
      generalize W6.setCell ⟨o, 2, none⟩ (.int .i64 b) = W7 at h1 g1 g2 g4 ⊢
      have H7 := Lib.hid (And.intro g1 (And.intro g2 (And.intro h1 g4)))
      have N4 := Lib.hid (And.intro n4 (And.intro n5 n6))
      clear h1 g1 g2 g4 n1 n2 n3 n4 n5 n6 hc hf H6
      have hc : W7.cell? ⟨o, 2, none⟩ = some (.int .i64 b) := H7.out.2.2.1.cells.2.2.1
      have hct := H7.out.2.2.2.cells.2.2.1
      have hf := H7.out.2.2.2.cells.2.2.2.2 2
      go_upto_region 16 with fail
      have h1 := H7.out.2.2.2.back (b + 1)
      obtain ⟨g1, g2, g3, _⟩ := H7.out
      have g1 := g1.but h1.2 H7.out.2.2.2.new N4.out.1
      have g2 := g2.but h1.2 H7.out.2.2.2.new N4.out.2.1
      have g3 := g3.but h1.2 H7.out.2.2.2.new N4.out.2.2
      obtain ⟨h1, _⟩ := h1
      generalize W7.setCell ⟨t, 2, none⟩ (.int .i64 (b + 1)) = W8 at h1 g1 g2 g3 ⊢
      have H8 := Lib.hid (And.intro g1 (And.intro g2 (And.intro g3 h1)))
      clear h1 g1 g2 g3 hc hct hf H7
      go_wp2_with fail
      refine (RtKn.known_any _).mono ?_
      rintro e W9 ⟨rfl, hb⟩
      obtain ⟨g1, g2, g3, g4⟩ := H8.out
      have g1 := g1.goes hb
      have g2 := g2.goes hb
      have g3 := g3.goes hb
      have g4 := g4.goes hb
      clear hb H8
      have HB := Lib.hid g1.below
      have HRP := Lib.hid (round_one _ g1)
      have HRQ := Lib.hid (round_one _ g2)
      have HW1 := Lib.hid (wait_one _ g3)
      have HW2 := Lib.hid (wait_one _ g4)
      have ww := wait_next g1.good b hb0 (by omega)
      have wb := wait_bounds (g1.good.back b)
      obtain ⟨p0, _, _, p3, _⟩ := g1.cells
      obtain ⟨q0, _, q2, _, _⟩ := g2.cells
      have hso : u.so = true := by rw [← hu.out]; exact samp_so _ _
      have hbk : v.bk = 0 := by rw [← hv.out]; exact samp_bk _ _
      rw [hso] at p3
      rw [hbk] at q2
      have gs := samp_grows HGS.out (1 + x) (1 + x + m) (by omega)
      rw [hu.out, hv.out] at gs
      clear g1 g2 g3 g4 hso hbk
      obtain ⟨us, hus⟩ : ∃ z, Hid (u.sm = z) := ⟨_, rfl⟩
      obtain ⟨vs, hvs⟩ : ∃ z, Hid (v.sm = z) := ⟨_, rfl⟩
      obtain ⟨ur, hur⟩ : ∃ z, Hid (roundF u = z) := ⟨_, rfl⟩
      obtain ⟨vr, hvr⟩ : ∃ z, Hid (roundF v = z) := ⟨_, rfl⟩
      obtain ⟨y1, hy1⟩ : ∃ z, Hid (waitF (back u b) = z) := ⟨_, rfl⟩
      obtain ⟨y2, hy2⟩ : ∃ z, Hid (waitF (back u (b + 1)) = z) := ⟨_, rfl⟩
      rw [hus.out] at p0 gs
      rw [hvs.out] at q0 gs
      rw [hur.out] at HRP gs
      rw [hvr.out] at HRQ gs
      rw [hy1.out] at HW1 ww wb
      rw [hy2.out] at HW2 ww
      obtain ⟨gs1, gs2⟩ := gs
      obtain ⟨wb1, wb2⟩ := wb
      have d1 : decide (us ≤ vs) = true := decide_eq_true gs1
      have d2 : decide (ur ≤ vr) = true := decide_eq_true gs2
      have WW := Lib.hid ww
      clear ww
      go_wp2_with fail
      refine HRQ.out.mono ?_
      rintro e w' ⟨rfl, hw⟩
      obtain rfl : W9 = w' := hw.symm
      go_wp2_with fail
      refine HRP.out.mono ?_
      rintro e w' ⟨rfl, hw⟩
      obtain rfl : W9 = w' := hw.symm
      go_wp2_with fail
      refine HW2.out.mono ?_
      rintro e w' ⟨rfl, hw⟩
      obtain rfl : W9 = w' := hw.symm
      by_cases c1 : 32 < 2 * y1
      · have d3 : (y2 == 32) = true := by have := WW.out; simp; omega
        go_wp2_with fail
        refine HW1.out.mono ?_
        rintro e w' ⟨rfl, hw⟩
        obtain rfl : W9 = w' := hw.symm
        go_wp2_with fail
        go_ret
        exact ⟨rfl, HB.out⟩
      · have d3 : (y2 == 2 * y1) = true := by have := WW.out; simp; omega
        go_wp2_with fail
        refine HW1.out.mono ?_
        rintro e w' ⟨rfl, hw⟩
        obtain rfl : W9 = w' := hw.symm
        go_wp2_with fail
        go_ret
        exact ⟨rfl, HB.out⟩
end Go.Proofs.Ytkcdemdgnleckaa.Rtt
