/- CongBounds: the walk. Conditions: the calls' row is an argument's. -/
import Derived.Test.YtdfnhapclojecaaCg1
set_option linter.unusedSimpArgs false
set_option linter.unusedVariables false
namespace Go.Proofs.Ytdfnhapclojecaa.Cg
open Go Go.RowKit Go.Proofs.Ytdfnhapclojecaa

set_option maxRecDepth 100000 in
set_option maxHeartbeats 16000000 in
theorem bounds_walk (A : Option Addr) (n cap : Nat) (zs : List Int) (w : World) (hr : IsRows w A cap n 3 zs) :
    Calls Try.prog 5 #[.slice A n cap] w fun e w' => e = .returned (.bool true) ∧ Below w.heap.size w w' := by
  have HR := Lib.hid hr
  have hncap := hr.cap
  have hnI : (n : Int) ≤ 17592186044416 := by have := hr.reach; omega
  have hncI : (n : Int) ≤ (cap : Int) := by omega
  clear hr
  go_enter Try.func5, Try.ntmps5
  go_wp2_with fail
  refine (new_any _).mono ?_; rintro e w1 ⟨rfl, hb1⟩
  go_upto_region 2 with (fail)
  obtain ⟨w2, hw2⟩ : ∃ x, w1.alloc (.cells #[.int .i64 4, .int .i64 32, .int .i64 0, .int .i64 0] 23) = x := ⟨_, rfl⟩
  have h2 := SW.new w1 23 4 32 0 0
  have hb2 := hb1.alloc hb1.size (.cells #[.int .i64 4, .int .i64 32, .int .i64 0, .int .i64 0] 23)
  rw [hw2] at h2 hb2 ⊢
  obtain ⟨p, hp⟩ : ∃ x, w1.heap.size = x := ⟨_, rfl⟩
  have hpB : w.heap.size ≤ p := hp ▸ hb1.size
  rw [hp] at h2 ⊢
  clear hw2 hp hb1 w1
  have H2 := Lib.hid h2
  have HB2 := Lib.hid hb2
  clear h2 hb2
  go_wp2_with fail
  go_loopw [12] (fun i wr => ∃ (j : Nat) (s : Win), j ≤ n ∧ i = .int .i64 (j : Int) ∧ Hid (SW wr p 23 s ∧ OkW s ∧ 0 ≤ s.till ∧ s.till ≤ 80 ∧ Below w.heap.size w wr)) (fun i _ => n - (intOf i).toNat)
  case atStart => exact ⟨0, ⟨4, 32, 0, 0⟩, Nat.zero_le _, rfl, H2.out, ⟨by decide, by decide, by decide, by decide, by decide, by decide⟩, by decide, by decide, HB2.out⟩
  case round =>
    clear H2 HB2
    obtain ⟨j, s, hj, rfl, HK⟩ := hrel
    by_cases hjn : j < n
    · have hjnI : (j : Int) < (n : Int) := by omega
      obtain ⟨h1, hok, ht0, ht80, hbe⟩ := HK.out
      obtain ⟨b, off, hA, hbn, hcs⟩ := HR.out.rd.2 (by omega)
      subst hA
      have hzl := HR.out.len
      have hrd : ∀ q v, q < n * 3 → zs.getD q 0 = v → wr.cell? ⟨b, off + q, none⟩ = some (.int .i64 v) := fun q v hq hv => by
        rw [hbe.cell (p := ⟨b, off + q, none⟩) hbn, hcs q _ (ints_get zs q (by omega)), hv]
      obtain ⟨x0, hx0⟩ : ∃ v, Hid (zs.getD (j * 3) 0 = v) := ⟨_, rfl⟩
      obtain ⟨x1, hx1⟩ : ∃ v, Hid (zs.getD (j * 3 + 1) 0 = v) := ⟨_, rfl⟩
      obtain ⟨x2, hx2⟩ : ∃ v, Hid (zs.getD (j * 3 + 2) 0 = v) := ⟨_, rfl⟩
      have cx0 := hrd (j * 3) x0 (by omega) hx0.out
      have cx1 : wr.cell? ⟨b, off + j * 3 + 1, none⟩ = some (.int .i64 x1) := hrd (j * 3 + 1) x1 (by omega) hx1.out
      have cx2 : wr.cell? ⟨b, off + j * 3 + 2, none⟩ = some (.int .i64 x2) := hrd (j * 3 + 2) x2 (by omega) hx2.out
      obtain ⟨sz, sl, pt, ti⟩ := s
      have H1 := Lib.hid h1
      have HOK := Lib.hid hok
      have HBE := Lib.hid hbe
      simp only at ht0 ht80
      clear hcs hrd hx0 hx1 hx2 h1 hok hbe HK hzl
      go_upto_region 5 with (fail)
      obtain ⟨q1, hq1⟩ : ∃ x, wr.heap.size = x := ⟨_, rfl⟩
      obtain ⟨w1, hw1⟩ : ∃ x, wr.alloc (.cells #[.int .i64 x0, .int .i64 x1, .int .i64 x2] 33) = x := ⟨_, rfl⟩
      have hb1 : Below q1 wr w1 := by rw [← hw1, ← hq1]; exact (Below.refl _ _).alloc (Nat.le_refl _) _
      have hr1 := RawIn.new wr x0 x1 x2
      have hpq1 : p < q1 := hq1 ▸ H1.out.lt
      have h1 := H1.out.below hb1 hpq1
      have hbe := HBE.out.trans (hb1.mono (Nat.le_trans hpB (Nat.le_of_lt hpq1)))
      rw [hw1, hq1] at hr1
      rw [hw1, hq1]
      clear hw1 hq1 hb1 cx0 cx1 cx2 H1 HBE wr
      obtain ⟨⟨c0, c1, c2, c3⟩, hf⟩ := h1.cell
      simp only at c0 c1 c2 c3
      go_upto_region 6 with (fail)
      obtain ⟨q2, hq2⟩ : ∃ x, w1.heap.size = x := ⟨_, rfl⟩
      obtain ⟨w2, hw2⟩ : ∃ x, w1.alloc (.cells #[.int .i64 sz, .int .i64 sl, .int .i64 pt, .int .i64 ti] 23) = x := ⟨_, rfl⟩
      have hb2 : Below q2 w1 w2 := by rw [← hw2, ← hq2]; exact (Below.refl _ _).alloc (Nat.le_refl _) _
      have hpq2 : p < q2 := hq2 ▸ h1.lt
      have hq12 : q1 < q2 := hq2 ▸ hr1.lt
      have hs2 := SW.new w1 23 sz sl pt ti
      have hr2 := hr1.below hb2 hq12
      have h2 := h1.below hb2 hpq2
      have hbe2 := hbe.trans (hb2.mono (Nat.le_trans hpB (Nat.le_of_lt hpq2)))
      rw [hw2, hq2] at hs2
      rw [hw2, hq2]
      clear hw2 hq2 hb2 c0 c1 c2 c3 hf h1 hbe hr1 w1
      obtain ⟨r0, r1, r2⟩ := hr2.cell
      have HS2 := Lib.hid hs2
      have H2 := Lib.hid h2
      have HB2 := Lib.hid hbe2
      clear hs2 h2 hbe2 hr2
      obtain ⟨N, hN, hN60⟩ : ∃ x : Nat, x1 % 60 = (x : Int) ∧ x < 60 := ⟨(x1 % 60).toNat, by omega, by omega⟩
      obtain ⟨M, hM, hM3⟩ : ∃ x : Nat, x0 % 3 = (x : Int) ∧ x < 3 := ⟨(x0 % 3).toNat, by omega, by omega⟩
      obtain ⟨Y, hY, hY20⟩ : ∃ x : Nat, x2 % 20 = (x : Int) ∧ x < 20 := ⟨(x2 % 20).toNat, by omega, by omega⟩
      have HP1 := pick_any x1 60 w2 (by decide) (by decide)
      have HP0 := pick_any x0 3 w2 (by decide) (by decide)
      have HP2 := pick_any x2 20 w2 (by decide) (by decide)
      rw [hN] at HP1
      rw [hM] at HP0
      rw [hY] at HP2
      have hNI : (N : Int) < 60 := by omega
      have hYI : (Y : Int) < 20 := by omega
      clear hN hM hY
      have s2 := HOK.out.s2
      have s32 := HOK.out.s32
      simp only at s2 s32
      go_wp2_with fail
      refine HP1.mono ?_; rintro e w' ⟨rfl, rfl⟩
      go_wp2_with fail
      refine HP0.mono ?_; rintro e w' ⟨rfl, rfl⟩
      by_cases hM0 : (M : Int) = 0
      · go_wp2_with fail
        refine HP2.mono ?_; rintro e w' ⟨rfl, rfl⟩
        obtain ⟨nx, hnx⟩ : ∃ x : Int, (N : Int) + 1 + (Y : Int) = x := ⟨_, rfl⟩
        have HBD := Lib.hid (bad_sw w2 p _ _ H2.out HOK.out (N : Int) nx)
        have HO3 := Lib.hid (HOK.out.bad (N : Int) nx)
        have hnN : (N : Int) < nx := by omega
        have hnx80 : nx ≤ 80 := by omega
        clear HP1 HP0 HP2
        go_wp2_with fail
        refine HBD.out.mono ?_; rintro e w3 ⟨rfl, h3, g3⟩
        have ho3 := HO3.out
        have hs3 := HS2.out.kept g3 (by omega)
        have HB3 := Lib.hid (HB2.out.grown g3 (Nat.le_trans hpB (Nat.le_of_lt H2.out.lt)) (by rintro k hk; cases hk; omega))
        clear g3 HBD HO3 HS2 H2 HB2 HOK r0 r1 r2
        by_cases hlt : (N : Int) < ti
        · rw [badS_not (s := ⟨sz, sl, pt, ti⟩) hlt] at h3 ho3
          have H3 := Lib.hid h3
          have HO3 := Lib.hid ho3
          obtain ⟨⟨c0, c1, c2, c3⟩, hf⟩ := h3.cell
          obtain ⟨⟨d0, d1, d2, d3⟩, hf2⟩ := hs3.cell
          simp only at c0 c1 c2 c3 d0 d1 d2 d3
          have heq0 := fun W => eqW ⟨sz, sl, pt, ti⟩ ⟨sz, sl, pt, ti⟩ W
          rw [eqB_refl] at heq0
          simp only at heq0
          clear h3 hs3 ho3
          go_upto_region 11 with (fail)
          clear c0 c1 c2 c3 d0 d1 d2 d3 hf hf2 heq0
          have K3 := H3
          have KO3 := HO3
          clear H3 HO3
          obtain ⟨⟨z, zl, zp, zt⟩, H3, HO3, hz0, hz80⟩ : ∃ s' : Win, Hid (SW w3 p 23 s') ∧ Hid (OkW s') ∧ 0 ≤ s'.till ∧ s'.till ≤ 80 := ⟨_, K3, KO3, by first | exact ht0 | (show 0 ≤ nx; omega), by first | exact ht80 | exact hnx80⟩
          clear K3 KO3
          have z2 := HO3.out.s2
          have z32 := HO3.out.s32
          have zp0 := HO3.out.p0
          simp only at z2 z32 zp0 hz0 hz80
          obtain ⟨⟨c0, c1, c2, c3⟩, hf⟩ := H3.out.cell
          simp only at c0 c1 c2 c3
          go_upto_region 12 with (fail)
          obtain ⟨q3, hq3⟩ : ∃ x, w3.heap.size = x := ⟨_, rfl⟩
          obtain ⟨w5, hw5⟩ : ∃ x, w3.alloc (.cells #[.int .i64 z, .int .i64 zl, .int .i64 zp, .int .i64 zt] 23) = x := ⟨_, rfl⟩
          have hb5 : Below q3 w3 w5 := by rw [← hw5, ← hq3]; exact (Below.refl _ _).alloc (Nat.le_refl _) _
          have hn5 := SW.new w3 23 z zl zp zt
          have hpq3 : p < q3 := hq3 ▸ H3.out.lt
          have h5 := H3.out.below hb5 hpq3
          have hw5' := HB3.out.trans (hb5.mono (Nat.le_trans hpB (Nat.le_of_lt hpq3)))
          rw [hw5, hq3] at hn5
          rw [hw5, hq3]
          clear hw5 hq3 hb5 c0 c1 c2 c3 hf H3 HB3 w3
          have hbd := bad_sw w5 q3 _ _ hn5 HO3.out (zt - 1) (zt + 9)
          rw [badS_not (s := ⟨z, zl, zp, zt⟩) (by show zt - 1 < zt; omega)] at hbd
          have HBD := Lib.hid hbd
          have H5 := Lib.hid h5
          have HW5 := Lib.hid hw5'
          obtain ⟨⟨c0, c1, c2, c3⟩, hf⟩ := h5.cell
          simp only at c0 c1 c2 c3
          clear hbd h5 hw5' hn5
          go_wp2_with fail
          refine HBD.out.mono ?_; rintro e w6 ⟨rfl, hn6, g6⟩
          have H6 := Lib.hid (H5.out.kept g6 (by omega))
          have HW6 : Hid (Below w.heap.size w w6) := HW5.out.grown g6 (Nat.le_trans hpB (Nat.le_of_lt H5.out.lt)) (by rintro k hk; cases hk; omega)
          have heq := fun W => eqW ⟨z, zl, zp, zt⟩ ⟨z, zl, zp, zt⟩ W
          rw [eqB_refl] at heq
          simp only at heq
          clear c0 c1 c2 c3 hf H5 HW5 HBD g6
          obtain ⟨⟨c0, c1, c2, c3⟩, hf⟩ := H6.out.cell
          obtain ⟨⟨d0, d1, d2, d3⟩, hf2⟩ := hn6.cell
          simp only at c0 c1 c2 c3 d0 d1 d2 d3
          clear hn6
          have HF1 := Lib.hid (fits_sw w6 p _ _ H6.out (z - 1))
          have HF2 := Lib.hid (fits_sw w6 p _ _ H6.out z)
          go_wp2_with fail
          refine HF1.out.mono ?_; rintro e w7 ⟨rfl, hw7⟩
          subst hw7
          have hlt1 : decide (z - 1 < z) = true := decide_eq_true (by omega)
          simp only [hlt1]
          go_wp2_with fail
          refine HF2.out.mono ?_; rintro e w8 ⟨rfl, hw8⟩
          subst hw8
          have hlt2 : decide (z < z) = false := decide_eq_false (by omega)
          simp only [hlt2]
          go_wp2_with fail
          go_roundw
          case rel => exact ⟨j + 1, ⟨z, zl, zp, zt⟩, by omega, by go_num, H6.out, HO3.out, hz0, hz80, HW6.out⟩
          case measure => simp [intOf]; omega
  
        · have e2 : sz.tdiv 2 = sz / 2 := Int.tdiv_eq_ediv_of_nonneg (by omega)
          have hge : ti ≤ (N : Int) := by omega
          have hle : ¬ nx ≤ (N : Int) := by omega
          have hxs : 0 ≤ sz := by omega
          obtain ⟨x, hx⟩ : ∃ x, sz / 2 = x := ⟨_, rfl⟩
          rcases Int.lt_trichotomy x 2 with h2x | h2x | h2x
          · rw [badS_yes (s := ⟨sz, sl, pt, ti⟩) hlt] at h3 ho3
            simp only at h3 ho3
            rw [e2] at h3 ho3
            rw [hx, Int.max_eq_right (by omega)] at h3 ho3
            have h2y : ¬ 2 < x := by omega
            have h2z : ¬ 2 ≤ x := by omega
            clear e2
            have H3 := Lib.hid h3
            have HO3 := Lib.hid ho3
            obtain ⟨⟨c0, c1, c2, c3⟩, hf⟩ := h3.cell
            obtain ⟨⟨d0, d1, d2, d3⟩, hf2⟩ := hs3.cell
            simp only at c0 c1 c2 c3 d0 d1 d2 d3
            clear h3 hs3 ho3
            go_upto_region 11 with (fail)
            clear c0 c1 c2 c3 d0 d1 d2 d3 hf hf2
            have K3 := H3
            have KO3 := HO3
            clear H3 HO3
            obtain ⟨⟨z, zl, zp, zt⟩, H3, HO3, hz0, hz80⟩ : ∃ s' : Win, Hid (SW w3 p 23 s') ∧ Hid (OkW s') ∧ 0 ≤ s'.till ∧ s'.till ≤ 80 := ⟨_, K3, KO3, by first | exact ht0 | (show 0 ≤ nx; omega), by first | exact ht80 | exact hnx80⟩
            clear K3 KO3
            have z2 := HO3.out.s2
            have z32 := HO3.out.s32
            have zp0 := HO3.out.p0
            simp only at z2 z32 zp0 hz0 hz80
            obtain ⟨⟨c0, c1, c2, c3⟩, hf⟩ := H3.out.cell
            simp only at c0 c1 c2 c3
            go_upto_region 12 with (fail)
            obtain ⟨q3, hq3⟩ : ∃ x, w3.heap.size = x := ⟨_, rfl⟩
            obtain ⟨w5, hw5⟩ : ∃ x, w3.alloc (.cells #[.int .i64 z, .int .i64 zl, .int .i64 zp, .int .i64 zt] 23) = x := ⟨_, rfl⟩
            have hb5 : Below q3 w3 w5 := by rw [← hw5, ← hq3]; exact (Below.refl _ _).alloc (Nat.le_refl _) _
            have hn5 := SW.new w3 23 z zl zp zt
            have hpq3 : p < q3 := hq3 ▸ H3.out.lt
            have h5 := H3.out.below hb5 hpq3
            have hw5' := HB3.out.trans (hb5.mono (Nat.le_trans hpB (Nat.le_of_lt hpq3)))
            rw [hw5, hq3] at hn5
            rw [hw5, hq3]
            clear hw5 hq3 hb5 c0 c1 c2 c3 hf H3 HB3 w3
            have hbd := bad_sw w5 q3 _ _ hn5 HO3.out (zt - 1) (zt + 9)
            rw [badS_not (s := ⟨z, zl, zp, zt⟩) (by show zt - 1 < zt; omega)] at hbd
            have HBD := Lib.hid hbd
            have H5 := Lib.hid h5
            have HW5 := Lib.hid hw5'
            obtain ⟨⟨c0, c1, c2, c3⟩, hf⟩ := h5.cell
            simp only at c0 c1 c2 c3
            clear hbd h5 hw5' hn5
            go_wp2_with fail
            refine HBD.out.mono ?_; rintro e w6 ⟨rfl, hn6, g6⟩
            have H6 := Lib.hid (H5.out.kept g6 (by omega))
            have HW6 : Hid (Below w.heap.size w w6) := HW5.out.grown g6 (Nat.le_trans hpB (Nat.le_of_lt H5.out.lt)) (by rintro k hk; cases hk; omega)
            have heq := fun W => eqW ⟨z, zl, zp, zt⟩ ⟨z, zl, zp, zt⟩ W
            rw [eqB_refl] at heq
            simp only at heq
            clear c0 c1 c2 c3 hf H5 HW5 HBD g6
            obtain ⟨⟨c0, c1, c2, c3⟩, hf⟩ := H6.out.cell
            obtain ⟨⟨d0, d1, d2, d3⟩, hf2⟩ := hn6.cell
            simp only at c0 c1 c2 c3 d0 d1 d2 d3
            clear hn6
            have HF1 := Lib.hid (fits_sw w6 p _ _ H6.out (z - 1))
            have HF2 := Lib.hid (fits_sw w6 p _ _ H6.out z)
            go_wp2_with fail
            refine HF1.out.mono ?_; rintro e w7 ⟨rfl, hw7⟩
            subst hw7
            have hlt1 : decide (z - 1 < z) = true := decide_eq_true (by omega)
            simp only [hlt1]
            go_wp2_with fail
            refine HF2.out.mono ?_; rintro e w8 ⟨rfl, hw8⟩
            subst hw8
            have hlt2 : decide (z < z) = false := decide_eq_false (by omega)
            simp only [hlt2]
            go_wp2_with fail
            go_roundw
            case rel => exact ⟨j + 1, ⟨z, zl, zp, zt⟩, by omega, by go_num, H6.out, HO3.out, hz0, hz80, HW6.out⟩
            case measure => simp [intOf]; omega
    
          · rw [badS_yes (s := ⟨sz, sl, pt, ti⟩) hlt] at h3 ho3
            simp only at h3 ho3
            rw [e2] at h3 ho3
            subst h2x
            rw [hx, show max (2 : Int) 2 = 2 from rfl] at h3 ho3
            clear e2
            have H3 := Lib.hid h3
            have HO3 := Lib.hid ho3
            obtain ⟨⟨c0, c1, c2, c3⟩, hf⟩ := h3.cell
            obtain ⟨⟨d0, d1, d2, d3⟩, hf2⟩ := hs3.cell
            simp only at c0 c1 c2 c3 d0 d1 d2 d3
            clear h3 hs3 ho3
            go_upto_region 11 with (fail)
            clear c0 c1 c2 c3 d0 d1 d2 d3 hf hf2
            have K3 := H3
            have KO3 := HO3
            clear H3 HO3
            obtain ⟨⟨z, zl, zp, zt⟩, H3, HO3, hz0, hz80⟩ : ∃ s' : Win, Hid (SW w3 p 23 s') ∧ Hid (OkW s') ∧ 0 ≤ s'.till ∧ s'.till ≤ 80 := ⟨_, K3, KO3, by first | exact ht0 | (show 0 ≤ nx; omega), by first | exact ht80 | exact hnx80⟩
            clear K3 KO3
            have z2 := HO3.out.s2
            have z32 := HO3.out.s32
            have zp0 := HO3.out.p0
            simp only at z2 z32 zp0 hz0 hz80
            obtain ⟨⟨c0, c1, c2, c3⟩, hf⟩ := H3.out.cell
            simp only at c0 c1 c2 c3
            go_upto_region 12 with (fail)
            obtain ⟨q3, hq3⟩ : ∃ x, w3.heap.size = x := ⟨_, rfl⟩
            obtain ⟨w5, hw5⟩ : ∃ x, w3.alloc (.cells #[.int .i64 z, .int .i64 zl, .int .i64 zp, .int .i64 zt] 23) = x := ⟨_, rfl⟩
            have hb5 : Below q3 w3 w5 := by rw [← hw5, ← hq3]; exact (Below.refl _ _).alloc (Nat.le_refl _) _
            have hn5 := SW.new w3 23 z zl zp zt
            have hpq3 : p < q3 := hq3 ▸ H3.out.lt
            have h5 := H3.out.below hb5 hpq3
            have hw5' := HB3.out.trans (hb5.mono (Nat.le_trans hpB (Nat.le_of_lt hpq3)))
            rw [hw5, hq3] at hn5
            rw [hw5, hq3]
            clear hw5 hq3 hb5 c0 c1 c2 c3 hf H3 HB3 w3
            have hbd := bad_sw w5 q3 _ _ hn5 HO3.out (zt - 1) (zt + 9)
            rw [badS_not (s := ⟨z, zl, zp, zt⟩) (by show zt - 1 < zt; omega)] at hbd
            have HBD := Lib.hid hbd
            have H5 := Lib.hid h5
            have HW5 := Lib.hid hw5'
            obtain ⟨⟨c0, c1, c2, c3⟩, hf⟩ := h5.cell
            simp only at c0 c1 c2 c3
            clear hbd h5 hw5' hn5
            go_wp2_with fail
            refine HBD.out.mono ?_; rintro e w6 ⟨rfl, hn6, g6⟩
            have H6 := Lib.hid (H5.out.kept g6 (by omega))
            have HW6 : Hid (Below w.heap.size w w6) := HW5.out.grown g6 (Nat.le_trans hpB (Nat.le_of_lt H5.out.lt)) (by rintro k hk; cases hk; omega)
            have heq := fun W => eqW ⟨z, zl, zp, zt⟩ ⟨z, zl, zp, zt⟩ W
            rw [eqB_refl] at heq
            simp only at heq
            clear c0 c1 c2 c3 hf H5 HW5 HBD g6
            obtain ⟨⟨c0, c1, c2, c3⟩, hf⟩ := H6.out.cell
            obtain ⟨⟨d0, d1, d2, d3⟩, hf2⟩ := hn6.cell
            simp only at c0 c1 c2 c3 d0 d1 d2 d3
            clear hn6
            have HF1 := Lib.hid (fits_sw w6 p _ _ H6.out (z - 1))
            have HF2 := Lib.hid (fits_sw w6 p _ _ H6.out z)
            go_wp2_with fail
            refine HF1.out.mono ?_; rintro e w7 ⟨rfl, hw7⟩
            subst hw7
            have hlt1 : decide (z - 1 < z) = true := decide_eq_true (by omega)
            simp only [hlt1]
            go_wp2_with fail
            refine HF2.out.mono ?_; rintro e w8 ⟨rfl, hw8⟩
            subst hw8
            have hlt2 : decide (z < z) = false := decide_eq_false (by omega)
            simp only [hlt2]
            go_wp2_with fail
            go_roundw
            case rel => exact ⟨j + 1, ⟨z, zl, zp, zt⟩, by omega, by go_num, H6.out, HO3.out, hz0, hz80, HW6.out⟩
            case measure => simp [intOf]; omega
    
          · rw [badS_yes (s := ⟨sz, sl, pt, ti⟩) hlt] at h3 ho3
            simp only at h3 ho3
            rw [e2] at h3 ho3
            rw [hx, Int.max_eq_left (by omega)] at h3 ho3
            have h2y : ¬ x < 2 := by omega
            have h2z : ¬ x ≤ 2 := by omega
            clear e2
            have H3 := Lib.hid h3
            have HO3 := Lib.hid ho3
            obtain ⟨⟨c0, c1, c2, c3⟩, hf⟩ := h3.cell
            obtain ⟨⟨d0, d1, d2, d3⟩, hf2⟩ := hs3.cell
            simp only at c0 c1 c2 c3 d0 d1 d2 d3
            clear h3 hs3 ho3
            go_upto_region 11 with (fail)
            clear c0 c1 c2 c3 d0 d1 d2 d3 hf hf2
            have K3 := H3
            have KO3 := HO3
            clear H3 HO3
            obtain ⟨⟨z, zl, zp, zt⟩, H3, HO3, hz0, hz80⟩ : ∃ s' : Win, Hid (SW w3 p 23 s') ∧ Hid (OkW s') ∧ 0 ≤ s'.till ∧ s'.till ≤ 80 := ⟨_, K3, KO3, by first | exact ht0 | (show 0 ≤ nx; omega), by first | exact ht80 | exact hnx80⟩
            clear K3 KO3
            have z2 := HO3.out.s2
            have z32 := HO3.out.s32
            have zp0 := HO3.out.p0
            simp only at z2 z32 zp0 hz0 hz80
            obtain ⟨⟨c0, c1, c2, c3⟩, hf⟩ := H3.out.cell
            simp only at c0 c1 c2 c3
            go_upto_region 12 with (fail)
            obtain ⟨q3, hq3⟩ : ∃ x, w3.heap.size = x := ⟨_, rfl⟩
            obtain ⟨w5, hw5⟩ : ∃ x, w3.alloc (.cells #[.int .i64 z, .int .i64 zl, .int .i64 zp, .int .i64 zt] 23) = x := ⟨_, rfl⟩
            have hb5 : Below q3 w3 w5 := by rw [← hw5, ← hq3]; exact (Below.refl _ _).alloc (Nat.le_refl _) _
            have hn5 := SW.new w3 23 z zl zp zt
            have hpq3 : p < q3 := hq3 ▸ H3.out.lt
            have h5 := H3.out.below hb5 hpq3
            have hw5' := HB3.out.trans (hb5.mono (Nat.le_trans hpB (Nat.le_of_lt hpq3)))
            rw [hw5, hq3] at hn5
            rw [hw5, hq3]
            clear hw5 hq3 hb5 c0 c1 c2 c3 hf H3 HB3 w3
            have hbd := bad_sw w5 q3 _ _ hn5 HO3.out (zt - 1) (zt + 9)
            rw [badS_not (s := ⟨z, zl, zp, zt⟩) (by show zt - 1 < zt; omega)] at hbd
            have HBD := Lib.hid hbd
            have H5 := Lib.hid h5
            have HW5 := Lib.hid hw5'
            obtain ⟨⟨c0, c1, c2, c3⟩, hf⟩ := h5.cell
            simp only at c0 c1 c2 c3
            clear hbd h5 hw5' hn5
            go_wp2_with fail
            refine HBD.out.mono ?_; rintro e w6 ⟨rfl, hn6, g6⟩
            have H6 := Lib.hid (H5.out.kept g6 (by omega))
            have HW6 : Hid (Below w.heap.size w w6) := HW5.out.grown g6 (Nat.le_trans hpB (Nat.le_of_lt H5.out.lt)) (by rintro k hk; cases hk; omega)
            have heq := fun W => eqW ⟨z, zl, zp, zt⟩ ⟨z, zl, zp, zt⟩ W
            rw [eqB_refl] at heq
            simp only at heq
            clear c0 c1 c2 c3 hf H5 HW5 HBD g6
            obtain ⟨⟨c0, c1, c2, c3⟩, hf⟩ := H6.out.cell
            obtain ⟨⟨d0, d1, d2, d3⟩, hf2⟩ := hn6.cell
            simp only at c0 c1 c2 c3 d0 d1 d2 d3
            clear hn6
            have HF1 := Lib.hid (fits_sw w6 p _ _ H6.out (z - 1))
            have HF2 := Lib.hid (fits_sw w6 p _ _ H6.out z)
            go_wp2_with fail
            refine HF1.out.mono ?_; rintro e w7 ⟨rfl, hw7⟩
            subst hw7
            have hlt1 : decide (z - 1 < z) = true := decide_eq_true (by omega)
            simp only [hlt1]
            go_wp2_with fail
            refine HF2.out.mono ?_; rintro e w8 ⟨rfl, hw8⟩
            subst hw8
            have hlt2 : decide (z < z) = false := decide_eq_false (by omega)
            simp only [hlt2]
            go_wp2_with fail
            go_roundw
            case rel => exact ⟨j + 1, ⟨z, zl, zp, zt⟩, by omega, by go_num, H6.out, HO3.out, hz0, hz80, HW6.out⟩
            case measure => simp [intOf]; omega
    

      · have HGD := Lib.hid (good_sw w2 p _ _ H2.out HOK.out (N : Int) ⟨by omega, by omega⟩)
        clear HP1 HP0 HP2
        go_wp2_with fail
        refine HGD.out.mono ?_; rintro e w6 ⟨rfl, h3, g3⟩
        rw [Int.toNat_natCast] at h3
        have hgs := goodN_size HOK.out N
        obtain ⟨⟨z, zl, zp, zt⟩, h6, HO3, hgs⟩ : ∃ s' : Win, SW w6 p 23 s' ∧ Hid (OkW s') ∧ (sz ≤ s'.size ∧ s'.size ≤ sz + N ∧ s'.slow = sl ∧ s'.till = ti) := ⟨_, h3, HOK.out.goodN N, hgs⟩
        clear h3
        simp only at hgs
        obtain ⟨hz1, hz2, hz3, hz4⟩ := hgs
        obtain rfl : zl = sl := hz3
        obtain rfl : zt = ti := hz4
        have z2 := HO3.out.s2
        have z32 := HO3.out.s32
        have zp0 := HO3.out.p0
        simp only at z2 z32 zp0
        have hz1' : ¬ z < sz := by omega
        have hz2' : ¬ sz + (N : Int) < z := by omega
        have hs6 := HS2.out.kept g3 (by omega)
        have HW6 := Lib.hid (HB2.out.grown g3 (Nat.le_trans hpB (Nat.le_of_lt H2.out.lt)) (by rintro k hk; cases hk; omega))
        have H6 := Lib.hid h6
        obtain ⟨⟨c0, c1, c2, c3⟩, hf⟩ := h6.cell
        obtain ⟨⟨d0, d1, d2, d3⟩, hf2⟩ := hs6.cell
        simp only at c0 c1 c2 c3 d0 d1 d2 d3
        have hz0 := ht0
        have hz80 := ht80
        clear h6 hs6 g3 HGD HS2 H2 HB2 HOK r0 r1 r2
        have HF1 := Lib.hid (fits_sw w6 p _ _ H6.out (z - 1))
        have HF2 := Lib.hid (fits_sw w6 p _ _ H6.out z)
        go_wp2_with fail
        refine HF1.out.mono ?_; rintro e w7 ⟨rfl, hw7⟩
        subst hw7
        have hlt1 : decide (z - 1 < z) = true := decide_eq_true (by omega)
        simp only [hlt1]
        go_wp2_with fail
        refine HF2.out.mono ?_; rintro e w8 ⟨rfl, hw8⟩
        subst hw8
        have hlt2 : decide (z < z) = false := decide_eq_false (by omega)
        simp only [hlt2]
        go_wp2_with fail
        go_roundw
        case rel => exact ⟨j + 1, ⟨z, zl, zp, zt⟩, by omega, by go_num, H6.out, HO3.out, hz0, hz80, HW6.out⟩
        case measure => simp [intOf]; omega

    · obtain rfl : j = n := by omega
      obtain ⟨h1, _, _, _, hbe⟩ := HK.out
      have H1 := Lib.hid h1
      have HBE := Lib.hid hbe
      clear h1 hbe HK
      go_wp2_with fail
      refine (CgKn.known_any wr).mono ?_; rintro e w6 ⟨rfl, hb6⟩
      have HBF := Lib.hid (HBE.out.trans (hb6.mono (Nat.le_trans hpB (Nat.le_of_lt H1.out.lt))))
      clear hb6 HBE H1
      go_wp2_with fail
      go_ret
      exact ⟨rfl, HBF.out⟩

end Go.Proofs.Ytdfnhapclojecaa.Cg
