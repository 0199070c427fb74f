/- CongClimbs: the walk. Conditions: as each theorem lists them. -/
import Derived.Test.YtdfnhapclojecaaCe
set_option linter.unusedSimpArgs false
set_option linter.unusedVariables false
namespace Go.Proofs.Ytdfnhapclojecaa.Cg
open Go Go.RowKit Go.Proofs.Ytdfnhapclojecaa

set_option maxRecDepth 100000 in
set_option maxHeartbeats 8000000 in
theorem climbs_walk (sl0 n0 c0' : Int) (w : World) (hs : -9223372036854775808 ≤ sl0) (hs' : sl0 ≤ 9223372036854775807) (hn : -9223372036854775808 ≤ n0) (hn' : n0 ≤ 9223372036854775807) (hc : -9223372036854775808 ≤ c0') (hc' : c0' ≤ 9223372036854775807) :
    Calls Try.prog 6 #[.int .i64 sl0, .int .i64 n0, .int .i64 c0'] w fun e w' => e = .returned (.bool true) ∧ Below w.heap.size w w' := by
  go_enter Try.func6, Try.ntmps6
  go_wp2_with fail
  refine (new_any _).mono ?_; rintro e w1 ⟨rfl, hb1⟩
  go_wp2_with fail
  obtain ⟨w2, hw2⟩ : ∃ x, w1.alloc (.cells #[.int .i64 4, .int .i64 32, .int .i64 0, .int .i64 0] 23) = x := ⟨_, rfl⟩
  have h2 := SW.new w1 23 4 32 0 0
  have hb2 := hb1.alloc hb1.size (.cells #[.int .i64 4, .int .i64 32, .int .i64 0, .int .i64 0] 23)
  rw [hw2] at h2 hb2 ⊢
  obtain ⟨p, hp⟩ : ∃ x, w1.heap.size = x := ⟨_, rfl⟩
  have hpB : w.heap.size ≤ p := hp ▸ hb1.size
  rw [hp] at h2 ⊢
  clear hw2 hp hb1 w1
  refine (bad_sw w2 p 23 _ h2 ⟨by decide, by decide, by decide, by decide, by decide, by decide⟩ 0 1).mono ?_; rintro e w3 ⟨rfl, h3, hg3⟩
  replace h3 : SW w3 p 23 ⟨2, 2, 0, 1⟩ := h3
  have hb3 := hb2.grown hg3 (Nat.le_of_lt (Nat.lt_of_le_of_lt hpB h2.lt)) (by rintro k hk; cases hk; exact hpB)
  clear h2 hg3 hb2 w2
  go_wp2_with fail
  refine (pick_any sl0 31 w3 (by decide) (by decide)).mono ?_; rintro e w4 ⟨rfl, rfl⟩
  obtain ⟨S0, hS0, hS1⟩ : ∃ x : Nat, sl0 % 31 = (x : Int) ∧ x < 31 := ⟨(sl0 % 31).toNat, by omega, by omega⟩
  rw [hS0]
  obtain ⟨S, hS⟩ : ∃ x : Int, (2 : Int) + (S0 : Int) = x := ⟨_, rfl⟩
  have hS2 : 2 ≤ S := by omega
  have hS32 : S ≤ 32 := by omega
  have hS0' : (S0 : Int) < 31 := by omega
  obtain ⟨⟨c0, c1, c2, c3⟩, hf⟩ := h3.cell
  have h4 := (h3.set1 S).1
  have hb4 := hb3.grown (h3.set1 S).2 (Nat.le_of_lt (Nat.lt_of_le_of_lt hpB h3.lt)) (by rintro k hk; cases hk; exact hpB)
  simp only at c0 c1 c2 c3 h4
  clear hS0 hS1 h3 hb3
  go_upto_region 4 with (fail)
  obtain ⟨w4, hw4⟩ : ∃ x, w3.setCell ⟨p, 1, none⟩ (.int .i64 S) = x := ⟨_, rfl⟩
  rw [hw4] at h4 hb4 ⊢
  clear hw4 c0 c1 c2 c3 hf w3
  obtain ⟨⟨c0, c1, c2, c3⟩, hf⟩ := h4.cell
  simp only at c0 c1 c2 c3
  go_upto_region 5 with (fail)
  obtain ⟨pa, hpa⟩ : ∃ x, w4.heap.size = x := ⟨_, rfl⟩
  obtain ⟨w5, hw5⟩ : ∃ x, w4.alloc (.cells #[.int .i64 2, .int .i64 S, .int .i64 0, .int .i64 1] 23) = x := ⟨_, rfl⟩
  have hpA : p < pa := hpa ▸ h4.lt
  have ha5 := SW.new w4 23 2 S 0 1
  have hw45 : Below pa w4 w5 := by rw [← hw5, ← hpa]; exact (Below.refl _ _).alloc (Nat.le_refl _) _
  have h5 := h4.below hw45 hpA
  have hb5 := hb4.trans (hw45.mono (Nat.le_trans hpB (Nat.le_of_lt hpA)))
  rw [hw5, hpa] at ha5
  rw [hw5, hpa]
  clear hw5 hpa c0 c1 c2 c3 hf h4 hb4 hw45 w4
  obtain ⟨⟨c0, c1, c2, c3⟩, hf⟩ := h5.cell
  simp only at c0 c1 c2 c3
  go_upto_region 6 with (fail)
  obtain ⟨pb, hpb⟩ : ∃ x, w5.heap.size = x := ⟨_, rfl⟩
  obtain ⟨w6, hw6⟩ : ∃ x, w5.alloc (.cells #[.int .i64 2, .int .i64 S, .int .i64 0, .int .i64 1] 23) = x := ⟨_, rfl⟩
  have hpAB : pa < pb := hpb ▸ ha5.lt
  have hb6' := SW.new w5 23 2 S 0 1
  have hw56 : Below pb w5 w6 := by rw [← hw6, ← hpb]; exact (Below.refl _ _).alloc (Nat.le_refl _) _
  have h6 := h5.below hw56 (Nat.lt_trans hpA hpAB)
  have ha6 := ha5.below hw56 hpAB
  have hb6 := hb5.trans (hw56.mono (Nat.le_trans hpB (Nat.le_of_lt (Nat.lt_trans hpA hpAB))))
  rw [hw6, hpb] at hb6'
  rw [hw6, hpb]
  clear hw6 hpb c0 c1 c2 c3 hf h5 ha5 hb5 hw56 w5
  have H6 := Lib.hid h6
  have HA6 := Lib.hid ha6
  have HB6 := Lib.hid hb6'
  clear h6 ha6 hb6'
  obtain ⟨N, hN, hN0⟩ : ∃ x : Nat, n0 % 300 = (x : Int) ∧ x < 300 := ⟨(n0 % 300).toNat, by omega, by omega⟩
  have hK0 := Int.emod_nonneg c0' (show ((N : Int) + 1) ≠ 0 by omega)
  have hK1 := Int.emod_lt_of_pos c0' (show (0 : Int) < (N : Int) + 1 by omega)
  obtain ⟨K, hK, hKN⟩ : ∃ x : Nat, c0' % ((N : Int) + 1) = (x : Int) ∧ x ≤ N := ⟨(c0' % ((N : Int) + 1)).toNat, by omega, by omega⟩
  have HP2 := pick_any n0 300 w6 (by decide) (by decide)
  have HP3 := pick_any c0' ((N : Int) + 1) w6 (by omega) (by omega)
  rw [hN] at HP2
  rw [hK] at HP3
  have hN300 : (N : Int) < 300 := by omega
  have hKI : (K : Int) ≤ (N : Int) := by omega
  clear hN hN0 hK hK0 hK1
  go_wp2_with fail
  refine HP2.mono ?_; rintro e w' ⟨rfl, rfl⟩
  go_wp2_with fail
  refine HP3.mono ?_; rintro e w' ⟨rfl, rfl⟩
  clear HP2 HP3
  go_wp2_with fail
  obtain ⟨s0, hs0⟩ : ∃ x, (⟨2, S, 0, 1⟩ : Win) = x := ⟨_, rfl⟩
  rw [hs0] at H6 HA6 HB6
  have hok : OkW s0 := by subst hs0; exact ⟨Int.le_refl _, by show (2 : Int) ≤ 32; decide, hS2, hS32, by show (0 : Int) ≤ 0; decide, by show (0 : Int) < 2; decide⟩
  clear hs0 hS2 hS32 hS0' hS
  refine (good_sw _ pa _ s0 HA6.out hok _ ⟨by omega, by omega⟩).mono ?_; rintro e w7 ⟨rfl, ha7, g7⟩
  rw [Int.toNat_natCast] at ha7
  have h7 := H6.out.kept g7 (by omega)
  have hb7' := HB6.out.kept g7 (by omega)
  have hb7 := hb6.grown g7 (by have := H6.out.lt; omega) (by rintro k hk; cases hk; omega)
  clear H6 HA6 HB6 hb6 g7
  have H7 := Lib.hid h7
  have HA7 := Lib.hid ha7
  have HB7 := Lib.hid hb7
  clear h7 ha7 hb7
  go_wp2_with fail
  refine (good_sw _ pb _ s0 hb7' hok _ ⟨by omega, by omega⟩).mono ?_; rintro e w8 ⟨rfl, hb8, g8⟩
  rw [Int.toNat_natCast] at hb8
  have HW8 := Lib.hid (And.intro (H7.out.kept g8 (by omega)) (And.intro (HA7.out.kept g8 (by omega)) (HB7.out.grown g8 (by have := H7.out.lt; omega) (by rintro k hk; cases hk; omega))))
  have HB8 := Lib.hid hb8
  clear H7 HA7 HB7 g8 hb8 hb7'
  go_wp2_with fail
  refine (good_sw _ pb _ _ HB8.out (hok.goodN K) _ ⟨by omega, by omega⟩).mono ?_; rintro e w9 ⟨rfl, hb9, g9⟩
  have hNK : ((N : Int) - (K : Int)).toNat = N - K := by omega
  rw [hNK, ← goodN_add, show K + (N - K) = N by omega] at hb9
  obtain ⟨h8, ha8, hw8⟩ := HW8.out
  have h9 := h8.kept g9 (by omega)
  have ha9 := ha8.kept g9 (by omega)
  have hw9 := hw8.grown g9 (by have := h8.lt; omega) (by rintro k hk; cases hk; omega)
  clear HW8 HB8 h8 ha8 hw8 g9 hNK
  have H9 := Lib.hid h9
  have HA9 := Lib.hid ha9
  have HB9 := Lib.hid hb9
  have HW9 := Lib.hid hw9
  clear h9 ha9 hb9 hw9
  go_wp2_with fail
  go_loopw [11] (fun i wr => ∃ j : Nat, i = .int .i64 (j : Int) ∧ j ≤ N ∧ Hid (SW wr p 23 (goodN j s0) ∧ SW wr pa 23 (goodN N s0) ∧ SW wr pb 23 (goodN N s0) ∧ Below w.heap.size w wr)) (fun i _ => N - (intOf i).toNat)
  case atStart => exact ⟨0, rfl, Nat.zero_le _, H9.out, HA9.out, HB9.out, HW9.out⟩
  case round =>
    obtain ⟨j, rfl, hj, HK⟩ := hrel
    clear H9 HA9 HB9 HW9
    obtain ⟨h1, h2, h3, hb⟩ := HK.out
    clear HK
    by_cases hlt : j < N
    · have hltI : (j : Int) < (N : Int) := by omega
      obtain ⟨st, hst⟩ : ∃ x, goodN j s0 = x := ⟨_, rfl⟩
      have hos : OkW st := hst ▸ hok.goodN j
      have hnx : goodN (j + 1) s0 = goodN 1 st := by rw [goodN_add, hst]
      rw [hst] at h1
      obtain ⟨sz, sl, pt, ti⟩ := st
      obtain ⟨⟨c0, c1, c2, c3⟩, hf⟩ := h1.cell
      simp only at c0 c1 c2 c3
      have H1 := Lib.hid h1
      have H2 := Lib.hid h2
      have H3 := Lib.hid h3
      have HB := Lib.hid hb
      have HNX := Lib.hid hnx
      have HOS := Lib.hid hos
      clear h1 h2 h3 hb hst hnx hos
      go_wp2_with fail
      obtain ⟨q, hq⟩ : ∃ x, wr.heap.size = x := ⟨_, rfl⟩
      obtain ⟨w2, hw2⟩ : ∃ x, wr.alloc (.cells #[.int .i64 sz, .int .i64 sl, .int .i64 pt, .int .i64 ti] 23) = x := ⟨_, rfl⟩
      have hq5 := SW.new wr 23 sz sl pt ti
      have hb5 : Below q wr w2 := by rw [← hw2, ← hq]; exact (Below.refl _ _).alloc (Nat.le_refl _) _
      have hq1 : p < q := hq ▸ H1.out.lt
      have h5 := H1.out.below hb5 hq1
      have ha5 := H2.out.below hb5 (hq ▸ H2.out.lt)
      have hb5' := H3.out.below hb5 (hq ▸ H3.out.lt)
      have hw5 := HB.out.trans (hb5.mono (Nat.le_trans hpB (Nat.le_of_lt hq1)))
      rw [hw2, hq] at hq5
      rw [hw2, hq]
      have hqa : pa < q := hq ▸ H2.out.lt
      have hqb : pb < q := hq ▸ H3.out.lt
      clear hw2 hq c0 c1 c2 c3 hf H1 H2 H3 HB hb5 wr
      refine (good_sw _ p _ _ h5 HOS.out 1 ⟨by decide, by decide⟩).mono ?_; rintro e w6 ⟨rfl, h6, g6⟩
      have hq6 := hq5.kept g6 (by omega)
      have ha6 := ha5.kept g6 (by omega)
      have hb6 := hb5'.kept g6 (by omega)
      have hw6 := hw5.grown g6 (Nat.le_trans hpB (Nat.le_of_lt h5.lt)) (by rintro k hk; cases hk; exact hpB)
      have HN' : Hid (SW w6 p 23 (goodN (j + 1) s0) ∧ SW w6 pa 23 (goodN N s0) ∧ SW w6 pb 23 (goodN N s0) ∧ Below w.heap.size w w6) := by rw [HNX.out]; exact ⟨h6, ha6, hb6, hw6⟩
      have hg : goodN (1 : Int).toNat (⟨sz, sl, pt, ti⟩ : Win) = goodS ⟨sz, sl, pt, ti⟩ := rfl
      rw [hg] at h6
      have l32 := HOS.out.l32
      have s32 := HOS.out.s32
      have s2 := HOS.out.s2
      have p0 := HOS.out.p0
      have ps := HOS.out.ps
      simp only at l32 s32 s2 p0 ps
      obtain ⟨⟨c0, c1, c2, c3⟩, hf⟩ := hq6.cell
      simp only at c0 c1 c2 c3
      have d0 := h6.cell.1.1
      clear h5 ha5 hb5' hw5 h6 g6 hq5 hq6 ha6 hb6 hw6 HNX HOS hg c3
      by_cases ha : sz < sl
      · have hz : (goodS ⟨sz, sl, pt, ti⟩).size = sz + 1 := by unfold goodS; rw [if_pos ha]; show min (sz + 1) 32 = sz + 1; omega
        rw [hz] at d0
        clear hz
        have ha' : ¬ sl ≤ sz := by omega
        go_wp2_with fail
        refine ⟨⟨j + 1, by go_num, by omega, HN'⟩, ?_⟩
        simp [intOf]; omega
      · have ha' : sl ≤ sz := by omega
        by_cases hb : pt + 1 < sz
        · have hz : (goodS ⟨sz, sl, pt, ti⟩).size = sz := by unfold goodS; rw [if_neg ha, if_neg (by show ¬ pt + 1 = sz; omega)]; show min sz 32 = sz; omega
          rw [hz] at d0
          clear hz
          go_wp2_with fail
          refine ⟨⟨j + 1, by go_num, by omega, HN'⟩, ?_⟩
          simp [intOf]; omega
        · go_wp2_with fail
          refine ⟨⟨j + 1, by go_num, by omega, HN'⟩, ?_⟩
          simp [intOf]; omega
    · have hltI : ¬ (j : Int) < (N : Int) := by omega
      obtain rfl : j = N := by omega
      have H1 := Lib.hid h1
      have H2 := Lib.hid h2
      have H3 := Lib.hid h3
      have HB := Lib.hid hb
      clear h1 h2 h3 hb
      go_wp2_with fail
      refine (CgKn.known_any wr).mono ?_; rintro e w6 ⟨rfl, hb6⟩
      have hb := HB.out.trans (hb6.mono (Nat.le_trans hpB (Nat.le_of_lt H1.out.lt)))
      have h1 := H1.out.below hb6 H1.out.lt
      have h2 := H2.out.below hb6 H2.out.lt
      have h3 := H3.out.below hb6 H3.out.lt
      obtain ⟨st, hst⟩ : ∃ x, goodN j s0 = x := ⟨_, rfl⟩
      rw [hst] at h1 h2 h3
      obtain ⟨⟨c0, c1, c2, c3⟩, hf⟩ := h1.cell
      obtain ⟨⟨d0, d1, d2, d3⟩, hf2⟩ := h2.cell
      obtain ⟨⟨e0, e1, e2, e3⟩, hf3⟩ := h3.cell
      have heq := fun W => eqW st st W
      rw [eqB_refl] at heq
      have hN9 : (j : Int) < 900 := by omega
      have HBF := Lib.hid hb
      clear hst h1 h2 h3 hb hb6 H1 H2 H3 HB
      go_wp2_with fail
      go_ret
      exact ⟨rfl, HBF.out⟩
end Go.Proofs.Ytdfnhapclojecaa.Cg
