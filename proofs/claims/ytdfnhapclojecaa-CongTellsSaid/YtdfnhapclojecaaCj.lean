/- CongTells: the walk. Conditions: the calls' row is an argument's. -/
import Derived.Test.YtdfnhapclojecaaCi
set_option linter.unusedSimpArgs false
set_option linter.unusedVariables false
namespace Go.Proofs.Ytdfnhapclojecaa.Cg
open Go Go.RowKit Go.Proofs.Ytdfnhapclojecaa

set_option maxRecDepth 100000 in
set_option maxHeartbeats 16000000 in
theorem tells_walk (A : Option Addr) (n cap : Nat) (zs : List Int) (a0 b0 d0' : Int) (w : World) (hr : IsRows w A cap n 3 zs) (ha : -9223372036854775808 ≤ a0) (ha' : a0 ≤ 9223372036854775807) (hb : -9223372036854775808 ≤ b0) (hb' : b0 ≤ 9223372036854775807) (hd : -9223372036854775808 ≤ d0') (hd' : d0' ≤ 9223372036854775807) :
    Calls Try.prog 4 #[.slice A n cap, .int .i64 a0, .int .i64 b0, .int .i64 d0'] w fun e w' => e = .returned (.bool true) ∧ Below w.heap.size w w' := by
  have HR := Lib.hid hr
  have hncap := hr.cap
  have hnI : (n : Int) ≤ 17592186044416 := by have := hr.reach; omega
  have hncI : (n : Int) ≤ (cap : Int) := by omega
  clear hr
  go_enter Try.func4, Try.ntmps4
  go_wp2_with fail
  refine (new_any _).mono ?_; rintro e w1 ⟨rfl, hb1⟩
  go_upto_region 2 with (fail)
  obtain ⟨w2, hw2⟩ : ∃ x, w1.alloc (.cells #[.int .i64 4, .int .i64 32, .int .i64 0, .int .i64 0] 23) = x := ⟨_, rfl⟩
  have h2 := SW.new w1 23 4 32 0 0
  have hb2 := hb1.alloc hb1.size (.cells #[.int .i64 4, .int .i64 32, .int .i64 0, .int .i64 0] 23)
  rw [hw2] at h2 hb2 ⊢
  obtain ⟨p, hp⟩ : ∃ x, w1.heap.size = x := ⟨_, rfl⟩
  have hpB : w.heap.size ≤ p := hp ▸ hb1.size
  rw [hp] at h2 ⊢
  clear hw2 hp hb1 w1
  have H2 := Lib.hid h2
  have HB2 := Lib.hid hb2
  clear h2 hb2
  go_wp2_with fail
  refine (rnew_any _).mono ?_; rintro e w3 ⟨rfl, hb3⟩
  go_upto_region 3 with (fail)
  obtain ⟨w4, hw4⟩ : ∃ x, w3.alloc (.cells #[.int .i64 4, .int .i64 32, .int .i64 0, .int .i64 0] 29) = x := ⟨_, rfl⟩
  obtain ⟨r, hr⟩ : ∃ x, w3.heap.size = x := ⟨_, rfl⟩
  have HW4 : Hid (BothW w w4 p r ⟨4, 32, 0, 0⟩) := by
    have h3 := H2.out.below hb3 H2.out.lt
    have hpr : p < r := hr ▸ h3.lt
    have hb4 : Below r w3 w4 := by rw [← hw4, ← hr]; exact (Below.refl _ _).alloc (Nat.le_refl _) _
    refine ⟨h3.below hb4 hpr, ?_, ⟨by decide, by decide, by decide, by decide, by decide, by decide⟩, hpr, hpB, ?_⟩
    · rw [← hr, ← hw4]
      exact SW.new w3 29 4 32 0 0
    · exact (HB2.out.trans (hb3.mono (Nat.le_trans hpB (Nat.le_of_lt H2.out.lt)))).trans (hb4.mono (by omega))
  rw [hw4, hr]
  clear hw4 hr hb3 H2 HB2 w3 w2
  obtain ⟨M, hM, hM3⟩ : ∃ x : Nat, a0 % 3 = (x : Int) ∧ x < 3 := ⟨(a0 % 3).toNat, by omega, by omega⟩
  have HP0 := fun W => pick_any a0 3 W (by decide) (by decide)
  rw [hM] at HP0
  clear hM
  go_upto_if 18 with (go_at_call 12; refine (HP0 _).mono ?_; rintro e w' ⟨rfl, rfl⟩)
  go_cut [8] (fun v wx => v = .bool false ∧ Hid (∃ s, BothW w wx p r s))
  case first =>
    by_cases hM2 : (M : Int) = 2
    · obtain ⟨s3, hs3⟩ : ∃ x, wrap64 (a0.tdiv 3) = x := ⟨_, rfl⟩
      obtain ⟨S, hS, hS31⟩ : ∃ x : Nat, a0.tdiv 3 % 31 = (x : Int) ∧ x < 31 := ⟨(a0.tdiv 3 % 31).toNat, by omega, by omega⟩
      obtain ⟨L, hL, hL31⟩ : ∃ x : Nat, b0 % 31 = (x : Int) ∧ x < 31 := ⟨(b0 % 31).toNat, by omega, by omega⟩
      have HP1 := fun W => pick_any (a0.tdiv 3) 31 W (by decide) (by decide)
      have HP2 := fun W => pick_any b0 31 W (by decide) (by decide)
      rw [hS] at HP1
      rw [hL] at HP2
      obtain ⟨sz, hsz⟩ : ∃ x : Int, 2 + (S : Int) = x := ⟨_, rfl⟩
      obtain ⟨sl, hsl⟩ : ∃ x : Int, 2 + (L : Int) = x := ⟨_, rfl⟩
      have hSI : (S : Int) < 31 := by omega
      have hLI : (L : Int) < 31 := by omega
      have sz2 : 2 ≤ sz := by omega
      have sz32 : sz ≤ 32 := by omega
      have sl2 : 2 ≤ sl := by omega
      have sl32 : sl ≤ 32 := by omega
      clear hS hL hS31 hL31
      obtain ⟨⟨c0, c1, c2, c3⟩, hf⟩ := HW4.out.a.cell
      simp only at c0 c1 c2 c3
      go_wp2_with fail
      refine (HP1 _).mono ?_; rintro e w' ⟨rfl, hw'⟩
      have hw' := hw'.symm
      subst hw'
      go_wp2_with fail
      refine (HP2 _).mono ?_; rintro e w' ⟨rfl, hw'⟩
      have hw' := hw'.symm
      subst hw'
      go_upto_region 5 with (fail)
      have h5 := HW4.out.a.set4 sz sl 0 0
      obtain ⟨w5, hw5⟩ : ∃ x, ((((w'.setCell ⟨p, 0, none⟩ (.int .i64 sz)).setCell ⟨p, 1, none⟩ (.int .i64 sl)).setCell ⟨p, 2, none⟩ (.int .i64 0)).setCell ⟨p, 3, none⟩ (.int .i64 0)) = x := ⟨_, rfl⟩
      rw [hw5] at h5 ⊢
      have hr5 := HW4.out.b.kept h5.2 (by have := HW4.out.ne; omega)
      have hb5 := HW4.out.be.grown h5.2 (by have := HW4.out.a.lt; omega) (by rintro k hk; cases hk; exact hpB)
      have hne := HW4.out.ne
      obtain ⟨h5, _⟩ := h5
      have H5 := Lib.hid h5
      have HR5 := Lib.hid hr5
      have HB5 := Lib.hid hb5
      clear c0 c1 c2 c3 hf HP0 HP1 HP2
      obtain ⟨⟨c0, c1, c2, c3⟩, hf⟩ := h5.cell
      simp only at c0 c1 c2 c3
      have hP0 := Int.emod_nonneg d0' (show sz ≠ 0 by omega)
      have hP1 := Int.emod_lt_of_pos d0' (show (0 : Int) < sz by omega)
      have HP3 := fun W => pick_any d0' sz W (by omega) (by omega)
      obtain ⟨P, hP⟩ : ∃ x, d0' % sz = x := ⟨_, rfl⟩
      rw [hP] at HP3 hP0 hP1
      clear h5 hr5 hb5 hw5 HW4 hP
      go_wp2_with fail
      refine (HP3 _).mono ?_; rintro e w6 ⟨rfl, hw6⟩
      have hw6 := hw6.symm
      subst hw6
      go_upto_region 6 with (fail)
      have h6 := H5.out.set2 P
      obtain ⟨w7, hw7⟩ : ∃ x, w6.setCell ⟨p, 2, none⟩ (.int .i64 P) = x := ⟨_, rfl⟩
      rw [hw7] at h6 ⊢
      have hr6 := HR5.out.kept h6.2 (by omega)
      have hb6 := HB5.out.grown h6.2 (by have := H5.out.lt; omega) (by rintro k hk; cases hk; exact hpB)
      obtain ⟨h6, _⟩ := h6
      clear c0 c1 c2 c3 hf HP3 hw7 H5 HR5 HB5
      obtain ⟨⟨c0, c1, c2, c3⟩, hf⟩ := h6.cell
      obtain ⟨⟨d0, d1, d2, d3⟩, hf2⟩ := hr6.cell
      simp only at c0 c1 c2 c3 d0 d1 d2 d3
      have hx := hr6.set4 sz sl P 0
      have HF : Hid (∃ s, BothW w ((((w7.setCell ⟨r, 0, none⟩ (.int .i64 sz)).setCell ⟨r, 1, none⟩ (.int .i64 sl)).setCell ⟨r, 2, none⟩ (.int .i64 P)).setCell ⟨r, 3, none⟩ (.int .i64 0)) p r s) :=
        ⟨⟨sz, sl, P, 0⟩, h6.kept hx.2 (by omega), hx.1, ⟨sz2, sz32, sl2, sl32, hP0, hP1⟩, hne, hpB, hb6.grown hx.2 (by have := h6.lt; omega) (by rintro k hk; cases hk; omega)⟩
      clear hx h6 hr6 hb6
      go_wp2_with fail
      go_meet
      case rel => exact ⟨rfl, HF⟩
    · have hM2' : ((M : Int) == 2) = false := by simpa using hM2
      go_wp2_with fail
      go_meet
      case rel => exact ⟨rfl, _, HW4.out⟩
  case rest =>
    obtain ⟨rfl, HK⟩ := hcut
    clear HW4 HP0
    go_wp2_with fail
    go_loopw [41] (fun i wr => ∃ (j : Nat), j ≤ n ∧ i = .int .i64 (j : Int) ∧ Hid (∃ s, BothW w wr p r s)) (fun i _ => n - (intOf i).toNat)
    case atStart => exact ⟨0, Nat.zero_le _, rfl, HK⟩
    case round =>
      clear HK
      obtain ⟨j, hj, rfl, HK⟩ := hrel
      obtain ⟨s, hk⟩ := HK.out
      clear HK
      by_cases hjn : j < n
      · have hjnI : (j : Int) < (n : Int) := by omega
        obtain ⟨b, off, hA, hbn, hcs⟩ := HR.out.rd.2 (by omega)
        subst hA
        have hzl := HR.out.len
        have hrd : ∀ q v, q < n * 3 → zs.getD q 0 = v → wr.cell? ⟨b, off + q, none⟩ = some (.int .i64 v) := fun q v hq hv => by
          rw [hk.be.cell (p := ⟨b, off + q, none⟩) hbn, hcs q _ (ints_get zs q (by omega)), hv]
        obtain ⟨x0, hx0⟩ : ∃ v, Hid (zs.getD (j * 3) 0 = v) := ⟨_, rfl⟩
        obtain ⟨x1, hx1⟩ : ∃ v, Hid (zs.getD (j * 3 + 1) 0 = v) := ⟨_, rfl⟩
        obtain ⟨x2, hx2⟩ : ∃ v, Hid (zs.getD (j * 3 + 2) 0 = v) := ⟨_, rfl⟩
        have cx0 := hrd (j * 3) x0 (by omega) hx0.out
        have cx1 : wr.cell? ⟨b, off + j * 3 + 1, none⟩ = some (.int .i64 x1) := hrd (j * 3 + 1) x1 (by omega) hx1.out
        have cx2 : wr.cell? ⟨b, off + j * 3 + 2, none⟩ = some (.int .i64 x2) := hrd (j * 3 + 2) x2 (by omega) hx2.out
        have H1 := Lib.hid hk
        clear hcs hrd hx0 hx1 hx2 hk hzl
        go_upto_region 10 with (fail)
        obtain ⟨q1, hq1⟩ : ∃ x, wr.heap.size = x := ⟨_, rfl⟩
        obtain ⟨w1, hw1⟩ : ∃ x, wr.alloc (.cells #[.int .i64 x0, .int .i64 x1, .int .i64 x2] 33) = x := ⟨_, rfl⟩
        have hb1 : Below q1 wr w1 := by rw [← hw1, ← hq1]; exact (Below.refl _ _).alloc (Nat.le_refl _) _
        have hr1 := RawIn.new wr x0 x1 x2
        have hrq : r < q1 := hq1 ▸ H1.out.b.lt
        have h1 := H1.out.below hb1 (Nat.le_of_eq hq1)
        rw [hw1, hq1] at hr1
        rw [hw1, hq1]
        clear hw1 hq1 hb1 cx0 cx1 cx2 H1 wr
        obtain ⟨r0, r1, r2⟩ := hr1.cell
        obtain ⟨N, hN, hN60⟩ : ∃ x : Nat, x1 % 50 = (x : Int) ∧ x < 50 := ⟨(x1 % 50).toNat, by omega, by omega⟩
        obtain ⟨M, hM, hM3⟩ : ∃ x : Nat, x0 % 4 = (x : Int) ∧ x < 4 := ⟨(x0 % 4).toNat, by omega, by omega⟩
        obtain ⟨Y, hY, hY20⟩ : ∃ x : Nat, x2 % 20 = (x : Int) ∧ x < 20 := ⟨(x2 % 20).toNat, by omega, by omega⟩
        have HP1 := pick_any x1 50 w1 (by decide) (by decide)
        have HP0 := pick_any x0 4 w1 (by decide) (by decide)
        have HP2 := fun W => pick_any x2 20 W (by decide) (by decide)
        rw [hN] at HP1
        rw [hM] at HP0
        rw [hY] at HP2
        obtain ⟨V, hV⟩ : ∃ x : Int, (N : Int) - 3 = x := ⟨_, rfl⟩
        have hNI : (N : Int) < 50 := by omega
        have hYI : (Y : Int) < 20 := by omega
        have hV0 : -3 ≤ V := by omega
        have hV1 : V ≤ 46 := by omega
        have H1 := Lib.hid h1
        have HR1 := Lib.hid hr1
        have hne := h1.ne
        clear hN hM hY h1 hr1
        go_wp2_with fail
        refine HP1.mono ?_; rintro e w' ⟨rfl, hw'⟩
        have hw' := hw'.symm
        subst hw'
        go_upto_if 52 with (go_at_call 12; refine HP0.mono ?_; rintro e w' ⟨rfl, rfl⟩)
        go_cut [13] (fun v wx => v = .int .i64 V ∧ Hid (∃ s, BothW w wx p r s))
        case first =>
          by_cases hM0 : (M : Int) = 0
          · have hM0' : ((M : Int) == 0) = true := by simp [hM0]
            obtain ⟨nx, hnx⟩ : ∃ x : Int, V + (Y : Int) = x := ⟨_, rfl⟩
            have hnx0 : -3 ≤ nx := by omega
            have hnx1 : nx ≤ 80 := by omega
            go_wp2_with fail
            refine (HP2 _).mono ?_; rintro e w2 ⟨rfl, hw2⟩
            have hw2 := hw2.symm
            subst hw2
            have HB1 := Lib.hid (bad_sw w2 p _ s H1.out.a H1.out.ok V nx)
            clear r0 r1 r2
            go_wp2_with fail
            refine HB1.out.mono ?_; rintro e w3 ⟨rfl, h3, g3⟩
            have hr3 := HR1.out.kept g3 (by omega)
            obtain ⟨_, _, r2⟩ := hr3.cell
            have HB2 := Lib.hid (rbad_sw w3 r _ s (H1.out.b.kept g3 (by omega)) H1.out.ok V nx)
            have H3 := Lib.hid h3
            have G3 := Lib.hid g3
            clear h3 g3 hr3 HB1
            go_wp2_with fail
            refine (HP2 _).mono ?_; rintro e w4 ⟨rfl, hw4⟩
            have hw4 := hw4.symm
            subst hw4
            clear r2
            go_wp2_with fail
            refine HB2.out.mono ?_; rintro e w5 ⟨rfl, h5, g5⟩
            have HF := Lib.hid (H1.out.turn H3.out G3.out h5 g5 (H1.out.ok.bad V nx))
            clear h5 g5 HB2 H3 G3
            go_wp2_with fail
            go_meet
            case rel => exact ⟨rfl, _, HF.out⟩
          · have hM0' : ((M : Int) == 0) = false := by simpa using hM0
            have HB1 := Lib.hid (good_sw _ p _ s H1.out.a H1.out.ok V ⟨by omega, by omega⟩)
            clear r0 r1 r2
            go_wp2_with fail
            refine HB1.out.mono ?_; rintro e w3 ⟨rfl, h3, g3⟩
            have HB2 := Lib.hid (rgood_sw w3 r _ s (H1.out.b.kept g3 (by omega)) H1.out.ok V ⟨by omega, by omega⟩)
            have H3 := Lib.hid h3
            have G3 := Lib.hid g3
            clear h3 g3 HB1
            go_wp2_with fail
            refine HB2.out.mono ?_; rintro e w5 ⟨rfl, h5, g5⟩
            have HF := Lib.hid (H1.out.turn H3.out G3.out h5 g5 (H1.out.ok.goodN V.toNat))
            clear h5 g5 HB2 H3 G3
            go_wp2_with fail
            go_meet
            case rel => exact ⟨rfl, _, HF.out⟩
        case rest =>
          obtain ⟨rfl, HK⟩ := hcut
          clear H1 HR1 HP0 HP1 HP2 r0 r1 r2
          obtain ⟨s, hk⟩ := HK.out
          have HF1 := fits_sw wc p _ s hk.a V
          have HF2 := rfits_sw wc r _ s hk.b V
          obtain ⟨bb, hbb⟩ : ∃ x, decide (V < s.size) = x := ⟨_, rfl⟩
          rw [hbb] at HF1 HF2
          obtain ⟨sz, sl, pt, ti⟩ := s
          obtain ⟨⟨c0, c1, c2, c3⟩, hf⟩ := hk.a.cell
          obtain ⟨⟨d0, d1, d2, d3⟩, hf2⟩ := hk.b.cell
          simp only at c0 c1 c2 c3 d0 d1 d2 d3
          have HF1 := Lib.hid HF1
          have HF2 := Lib.hid HF2
          clear hk hbb
          go_wp2_with fail
          refine HF1.out.mono ?_; rintro e w7 ⟨rfl, hw7⟩
          subst hw7
          go_wp2_with fail
          refine HF2.out.mono ?_; rintro e w8 ⟨rfl, hw8⟩
          subst hw8
          cases bb
          · go_wp2_with fail
            go_roundw
            case rel => exact ⟨j + 1, by omega, by go_num, HK⟩
            case measure => simp [intOf]; omega
          · go_wp2_with fail
            go_roundw
            case rel => exact ⟨j + 1, by omega, by go_num, HK⟩
            case measure => simp [intOf]; omega
      · obtain rfl : j = n := by omega
        have HBE := Lib.hid (And.intro hk.be (Nat.le_of_lt (Nat.lt_of_le_of_lt hk.lt hk.a.lt)))
        clear hk
        go_wp2_with fail
        refine (CgKn.known_any wr).mono ?_; rintro e w6 ⟨rfl, hb6⟩
        have HBF := Lib.hid (HBE.out.1.trans (hb6.mono HBE.out.2))
        clear hb6 HBE
        go_wp2_with fail
        go_ret
        exact ⟨rfl, HBF.out⟩
end Go.Proofs.Ytdfnhapclojecaa.Cg
