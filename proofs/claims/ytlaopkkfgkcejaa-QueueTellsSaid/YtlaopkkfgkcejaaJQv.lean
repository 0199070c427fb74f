/- QueueTells: the walk. Conditions: the calls are an argument's. -/
import Derived.Test.YtlaopkkfgkcejaaJQt
set_option linter.unusedSimpArgs false
set_option linter.unusedVariables false

namespace Go.Proofs.Ytlaopkkfgkcejaa.Qu
open Go Go.RowKit Go.Proofs.Ytlaopkkfgkcejaa

theorem rqd_drew {w : World} {r lo : Nat} {v : Value} {ds : List (Int × List Nat)} (h : RQD (w.setCell ⟨r, 0, none⟩ v) r lo ds) : RQD (w.drew.setCell ⟨r, 0, none⟩ v) r lo ds := h.below ⟨rfl, rfl, rfl, Nat.le_refl _, fun _ _ => rfl⟩
theorem infoI : (Try.prog.info? 3).map (fun i => (i.zero, i.size, i.bytes)) = some (some (.int .i64 0), 1, 8) := by kernel_rfl
set_option maxRecDepth 100000 in
set_option maxHeartbeats 80000000 in
theorem tells_walk (A : Option Addr) (n cap : Nat) (rs : List Qc.Rc) (w : World) (hx : Qc.CallsIn w A cap n rs) (hnb : n ≤ 140737488355328) :
    Calls Try.prog 4 #[.slice A n cap] w fun e w' => e = .returned (.bool true) ∧ Below w.heap.size w w' := by
  have HX := Lib.hid hx
  have hnc := hx.le
  have HKN := Lib.hid known_any
  have HQ0 : Hid (TellQ w ((w.alloc (.cells zeroQ 27)).alloc (.cells #[.slice none 0 0] 39)) w.heap.size []) := TellQ.new w
  have hnI : (n : Int) ≤ 140737488355328 := by omega
  obtain ⟨i0, hi, hz0, hz1, hz2⟩ := info_parts infoIt
  have HI := Lib.hid (And.intro hi (And.intro hz0 (And.intro hz1 hz2)))
  obtain ⟨i2, hi, hz0, hz1, hz2⟩ := info_parts infoRf
  have HI2 := Lib.hid (And.intro hi (And.intro hz0 (And.intro hz1 hz2)))
  obtain ⟨i3, hi, hz0, hz1, hz2⟩ := info_parts infoI
  have HI3 := Lib.hid (And.intro hi (And.intro hz0 (And.intro hz1 hz2)))
  obtain ⟨p, hp⟩ : ∃ p, w.heap.size = p := ⟨_, rfl⟩
  rw [hp] at HQ0
  clear hx hi hz0 hz1 hz2
  go_enter Try.func4, Try.ntmps4
  go_wp2_with (refine wpList_queue_new 17 3 rfl rfl rfl rfl rfl rfl rfl rfl rfl (fun _ _ => rfl) (fun _ _ => rfl) ?_)
  go_loopw [21] (fun i wr => ∃ (j : Nat), j ≤ n ∧ i = .int .i64 (j : Int) ∧ Hid (∃ ds, TellQ w wr p ds)) (fun i _ => n - (intOf i).toNat)
  case atStart => exact ⟨0, Nat.zero_le _, rfl, [], HQ0.out⟩
  case round =>
    obtain ⟨j, hj, rfl, HK⟩ := hrel
    by_cases hlt : j < n
    · have hltI : (j : Int) < (n : Int) := by omega
      have hjI : (0 : Int) ≤ (j : Int) := by omega
      obtain ⟨ds, hq⟩ := HK.out
      obtain ⟨b, off, rfl, hbl, hcs⟩ := HX.out.rd (by omega)
      obtain ⟨r, hr⟩ : ∃ r, rs[j]? = some r := ⟨_, List.getElem?_eq_getElem (by have := HX.out.len; omega)⟩
      obtain ⟨hrok, hrc⟩ := hcs j r hr
      obtain ⟨f0, A1, f1, c1, A2, f2, c2⟩ := r
      have hbw := hq.1.bel
      have x0 : wr.cell? ⟨b, off + j * 3, none⟩ = some (.int .i64 f0) := (hbw.cell (p := ⟨b, off + j * 3, none⟩) hbl).trans (hrc 0 _ rfl)
      have x1 : wr.cell? ⟨b, off + j * 3 + 1, none⟩ = some (.slice A1 f1.length c1) := (hbw.cell (p := ⟨b, off + j * 3 + 1, none⟩) hbl).trans (hrc 1 _ rfl)
      have x2 : wr.cell? ⟨b, off + j * 3 + 2, none⟩ = some (.slice A2 f2.length c2) := (hbw.cell (p := ⟨b, off + j * 3 + 2, none⟩) hbl).trans (hrc 2 _ rfl)
      obtain ⟨L, hL⟩ : ∃ L, f1.length = L := ⟨_, rfl⟩
      rw [hL] at x1
      have hL0 : L ≤ 17592186044416 := by rw [← hL]; exact hrok.u1
      have hLc : L ≤ c1 := by rw [← hL]; exact hrok.l1
      have hLI : (L : Int) ≤ 17592186044416 := by omega
      have hbn : b ≠ wr.heap.size := by have := hbw.size; omega
      obtain ⟨h, hh⟩ : ∃ h, wr.heap.size = h := ⟨_, rfl⟩
      obtain ⟨w1, hw1⟩ : ∃ x, wr.alloc (.cells #[.int .i64 f0, .slice A1 L c1, .slice A2 f2.length c2] 41) = x := ⟨_, rfl⟩
      have hb1 : Below wr.heap.size wr w1 := by rw [← hw1]; exact (Below.refl _ _).alloc (Nat.le_refl _) _
      have HQ1 : Hid (TellQ w w1 p ds) := hq.below hb1
      have y0 : w1.cell? ⟨h, 0, none⟩ = some (.int .i64 f0) := by rw [← hw1, ← hh]; simp
      have Y1 : Hid (w1.cell? ⟨h, 1, none⟩ = some (.slice A1 L c1)) := by show _ = _; rw [← hw1, ← hh]; simp
      have Y2 : Hid (w1.cell? ⟨h, 2, none⟩ = some (.slice A2 f2.length c2)) := by show _ = _; rw [← hw1, ← hh]; simp
      have hz1 : w1.heap.size = h + 1 := by rw [← hw1, ← hh]; simp
      have hph : p + 1 < h := by have := hq.2.lt; omega
      have HR1 : Hid (Rd w1 w1.heap.size A1 L (ints f1)) := by
        have := (hrok.r1.below (hbw.trans (hb1.mono hbw.size)) (Nat.le_refl _)).more (Nat.le_trans hbw.size hb1.size)
        rw [hL] at this
        exact this
      have HR2 : Hid (Rd w1 w1.heap.size A2 f2.length (bv f2)) := (hrok.r2.below (hbw.trans (hb1.mono hbw.size)) (Nat.le_refl _)).more (Nat.le_trans hbw.size hb1.size)
      have HF2 : Hid (f2.length ≤ c2 ∧ f2.length ≤ 140737488355328) := ⟨hrok.l2, hrok.u2⟩
      have HL1 : Hid (f1.length = L) := hL
      have HZ1 := Lib.hid hrok.z1
      have HP := Lib.hid (pick_any f0 6 w1 (by decide) (by decide))
      obtain ⟨z, hz⟩ : ∃ z, f0 % 6 = z := ⟨_, rfl⟩
      rw [hz] at HP
      clear HK hq hcs hrc hbw hrok hz hL hr hb1
      go_wp2_with fail
      go_at_call 13
      refine HP.out.mono ?_
      rintro e w2 ⟨rfl, hw2⟩
      subst hw2
      clear HP x0 x1 x2 y0 hw1 hh
      go_upto_block 2 with (fail)
      go_cut [7, 8, 9, 10, 11, 12, 13, 14] (fun v7 v8 v9 v10 v11 v12 v13 v14 wx => Hid (∃ es, TellQ w wx p es))
      case first =>
        by_cases hz0 : z = 0
        · subst hz0
          go_wp2_with fail
          go_loopw [7, 8] (fun v i w2 => ∃ k : Nat, k ≤ 3 ∧ k ≤ L ∧ i = .int .i64 (k : Int) ∧ Hid (NotI w1 w2 (h + 1) v k)) (fun _ i _ => 3 - (intOf i).toNat)
          case atStart => exact ⟨0, by omega, by omega, rfl, [], rfl, own_nil _ _ _ _, Below.refl _ _⟩
          case round =>
            obtain ⟨k, hk3, hkL, rfl, HK⟩ := hrel
            obtain ⟨l, hll, hown, hb2⟩ := HK.out
            obtain ⟨A9, c9, e9, hkc9, hc9m, _, _⟩ := own_form hown
            subst e9
            have y1 : wr.cell? ⟨h, 1, none⟩ = some (.slice A1 L c1) := (hb2.cell (p := ⟨h, 1, none⟩) (by simp; omega)).trans Y1.out
            have hkI : (k : Int) ≤ 3 := by omega
            have hk0I : (0 : Int) ≤ (k : Int) := by omega
            have HOWN := Lib.hid hown
            have HB2 := Lib.hid hb2
            have HLL := Lib.hid hll
            clear hown hb2 HK hll
            by_cases hkk : k < L ∧ k < 3
            · obtain ⟨hk1, hk2⟩ := hkk
              have hk1I : (k : Int) < (L : Int) := by omega
              have hk2I : (k : Int) < 3 := by omega
              have hsz : w1.heap.size ≤ wr.heap.size := HB2.out.size
              obtain ⟨b2, off2, rfl, hb2l, hcs2⟩ := HR1.out.2 (by omega)
              obtain ⟨y, hy⟩ : ∃ y, f1[k]? = some y := ⟨_, List.getElem?_eq_getElem (by have := HL1.out; omega)⟩
              have ny : wr.cell? ⟨b2, off2 + k, none⟩ = some (.int .i64 y) := (HB2.out.cell (p := ⟨b2, off2 + k, none⟩) hb2l).trans (hcs2 k _ (by simp [ints, hy]))
              have HPK := Lib.hid (pick_any y 30 wr (by decide) (by decide))
              obtain ⟨pv, hpv⟩ : ∃ x, y % 30 = x := ⟨_, rfl⟩
              rw [hpv] at HPK
              obtain ⟨s, hs⟩ : ∃ s, wr.heap.size = s := ⟨_, rfl⟩
              have HO2 : Hid ((wr.alloc (.cells #[.int .i64 pv] 3)).ownsRow (h + 1) 3 1 (.slice A9 k c9) k (ints l)) := HOWN.out.alloc _
              have hd1 : Hid (Rd (wr.alloc (.cells #[.int .i64 pv] 3)) (s + 1) (some ⟨s, 0, none⟩) (1 * 1) [.int .i64 pv]) := by rw [← hs]; exact rd_new _ _ _ _ _ _ _ rfl (by omega) rfl rfl
              have hd2 : Hid (ones [Value.int .i64 pv]) := fun u hu => by simp at hu; subst hu; rfl
              have hd4 : Hid (h + 1 ≤ (wr.alloc (.cells #[.int .i64 pv] 3)).heap.size) := by show _ ≤ _; simp; omega
              have HB3 : Hid (Below w1.heap.size w1 (wr.alloc (.cells #[.int .i64 pv] 3))) := HB2.out.alloc hsz _
              clear hcs2 hy hpv
              go_wp2_with fail
              go_at_call 13
              refine HPK.out.mono ?_
              rintro e w3 ⟨rfl, hw3⟩
              subst hw3
              go_wp2_with (at_builtin; refine wpList_app _ rfl (.tmp 89) (.tmp 96) 32 rfl (h + 1) 3 i3 (.int .i64 0) 1 8 Try.underlying32 HI3.out.1 HI3.out.2.1 HI3.out.2.2.1 HI3.out.2.2.2 rfl (by decide) (.slice A9 k c9) k (ints l) rfl HO2.out (s + 1) (some ⟨s, 0, none⟩) 1 1 [.int .i64 pv] rfl hd1.out hd2.out (by unfold maxLen; omega) (by omega) hd4.out ?_)
              intro v3 w3 hown3 hgrow3
              have HT3 : Hid (NotI w1 w3 (h + 1) v3 (k + 1)) := ⟨l ++ [pv], by simp [HLL.out], by rw [ints_app]; exact hown3, HB3.out.grown hgrow3 HB3.out.size (fun g hg => by have := (HO2.out.lt g hg).1; omega)⟩
              obtain ⟨A3, c3, e3, _⟩ := own_form hown3
              subst e3
              clear hown3 hgrow3
              go_wp2_with fail
              refine ⟨⟨k + 1, by omega, by omega, by go_num, HT3⟩, ?_⟩
              simp [intOf]; omega
            · have HQ2 := Lib.hid (HQ1.out.below HB2.out)
              have HAT : Hid (At wr (h + 1) A9 k (ints l)) := by have := At.of_own HOWN.out; rwa [Nat.mul_one] at this
              have HDR := Lib.hid (drop_lq HQ2.out.1 l k c9 A9 (HAT.out.less (by omega)) hkc9 (by omega))
              obtain ⟨D, hD⟩ : ∃ D, ((ds.length : Int) - ((ds.filter (keepD l)).length : Int)) = D := ⟨_, rfl⟩
              rw [hD] at HDR
              by_cases hk1 : k < L
              · have hk1I : (k : Int) < (L : Int) := by omega
                have hk2I : ¬ (k : Int) < 3 := by omega
                go_wp2_with fail
                go_at_call 9
                refine HDR.out.mono ?_
                rintro e w5 ⟨rfl, hq5, hg5⟩
                have HDR2 := Lib.hid (rdrop_any ((HQ2.out.2).grown hg5 (by omega) (by omega)) l k c9 A9 ((HAT.out.grown hg5 (by omega)).less (by omega)) hkc9 (by omega))
                rw [hD] at HDR2
                have HG5 := Lib.hid (And.intro hq5 hg5)
                clear hq5 hg5
                go_wp2_with fail
                go_at_call 14
                refine HDR2.out.mono ?_
                rintro e w6 ⟨rfl, hq6, hg6⟩
                have HM : Hid (∃ es, TellQ w w6 p es) := ⟨_, HG5.out.1.other hg6 (by omega) (by omega) (by omega), hq6⟩
                clear hq6 hg6
                go_wp2_with fail
                go_meet
                exact HM
              · have hk1I : ¬ (k : Int) < (L : Int) := by omega
                go_wp2_with fail
                go_at_call 9
                refine HDR.out.mono ?_
                rintro e w5 ⟨rfl, hq5, hg5⟩
                have HDR2 := Lib.hid (rdrop_any ((HQ2.out.2).grown hg5 (by omega) (by omega)) l k c9 A9 ((HAT.out.grown hg5 (by omega)).less (by omega)) hkc9 (by omega))
                rw [hD] at HDR2
                have HG5 := Lib.hid (And.intro hq5 hg5)
                clear hq5 hg5
                go_wp2_with fail
                go_at_call 14
                refine HDR2.out.mono ?_
                rintro e w6 ⟨rfl, hq6, hg6⟩
                have HM : Hid (∃ es, TellQ w w6 p es) := ⟨_, HG5.out.1.other hg6 (by omega) (by omega) (by omega), hq6⟩
                clear hq6 hg6
                go_wp2_with fail
                go_meet
                exact HM
        · have hz0b : (z == 0) = false := by simpa using hz0
          by_cases hz1' : z = 1
          · subst hz1'
            cases ds with
            | nil =>
              go_wp2_with fail
              go_at_call 10
              refine (pop_nil HQ1.out.1).mono ?_
              rintro e w5 ⟨rfl, hq5, hb5⟩
              have hqr := HQ1.out.2.below hb5
              obtain ⟨A0, c0, z0, _, _⟩ := hqr.len
              have hne5 : p + 1 ≠ w5.heap.size := by have := hqr.lt; omega
              have hne6 : w5.heap.size ≠ p + 1 := fun e => hne5 e.symm
              have hlt5 : p + 1 < w5.heap.size := hqr.lt
              have HM : Hid (∃ es, TellQ w (w5.alloc (.cells #[.int .i64 0, .slice none 0 0] 24)) p es) := ⟨[], hq5.alloc _, hqr.below ((Below.refl _ _).alloc (Nat.le_refl _) _)⟩
              simp only [List.length_nil] at z0
              clear hq5 hb5 hqr
              go_wp2_with fail
              go_meet
              exact HM
            | cons d ds =>
              obtain ⟨kd, bd⟩ := d
              go_wp2_with fail
              go_at_call 10
              refine (pop_cons HQ1.out.1).mono ?_
              rintro e w5 ⟨⟨k5, A5, n5, c5, bs5⟩, rfl, hd5, hi5, hq5L, hg5⟩
              simp only [dat, Prod.mk.injEq] at hd5
              obtain ⟨rfl, rfl⟩ := hd5
              have hq5R := HQ1.out.2.grown hg5 (by omega) (by omega)
              clear hg5
              obtain ⟨hx, hhx⟩ : ∃ x, w5.heap.size = x := ⟨_, rfl⟩
              obtain ⟨w6, hw6⟩ : ∃ x, w5.alloc (.cells #[.int .i64 k5, .slice A5 n5 c5] 24) = x := ⟨_, rfl⟩
              have hb6 : Below w5.heap.size w5 w6 := by rw [← hw6]; exact (Below.refl _ _).alloc (Nat.le_refl _) _
              have hz6 : w6.heap.size = hx + 1 := by rw [← hw6, ← hhx]; simp
              have u0 : w6.cell? ⟨hx, 0, none⟩ = some (.int .i64 k5) := by rw [← hw6, ← hhx]; simp
              have u1 : w6.cell? ⟨hx, 1, none⟩ = some (.slice A5 n5 c5) := by rw [← hw6, ← hhx]; simp
              obtain ⟨b3, o3, c3, A6, n6, c6, z0, zf, hc3, hlo3, hbl3, z1, z2, hrd6, _, htl⟩ := (hq5R.below hb6).first
              have hpr := hq5R.lt
              have HIR : Hid (Rd w6 w6.heap.size A5 n5 (bv bs5)) := (hi5.at'.rd.below hb6 (Nat.le_refl _)).more hb6.size
              have HRR : Hid (Rd w6 w6.heap.size A6 n6 (bv bs5)) := hrd6
              have HLQ6 := Lib.hid (hq5L.below hb6)
              have HRQ6 := Lib.hid (hq5R.below hb6)
              have HTL := Lib.hid htl
              have hcI : (1 : Int) ≤ (ds.length : Int) + 1 := by omega
              have hcc : ((ds.length : Int) + 1) ≤ (c3 : Int) := by omega
              have hgt : (0 : Int) < (ds.length : Int) + 1 := by omega
              simp only at z1
              clear hrd6 htl hb6
              clear hi5 hq5L hq5R
              have HS : Hid (∀ W, Below w6.heap.size w6 W → (fun W : World => W.cell? ⟨hx, 0, none⟩ = some (.int .i64 k5) ∧ W.cell? ⟨hx, 1, none⟩ = some (.slice A5 n5 c5) ∧ W.cell? ⟨p + 1, 0, none⟩ = some (.slice (some ⟨b3, o3, none⟩) (ds.length + 1) c3) ∧ W.cell? ⟨b3, o3, none⟩ = some (.int .i64 k5) ∧ W.cell? ⟨b3, o3 + 1, none⟩ = some (.slice A6 n6 c6) ∧ (convert 22 9 (.slice A5 n5 c5)).run Try.prog W = .ok (.string (strOf bs5)) W ∧ (convert 22 9 (.slice A6 n6 c6)).run Try.prog W = .ok (.string (strOf bs5)) W) W) := fun W hW =>
                ⟨(hW.cell (p := ⟨hx, 0, none⟩) (by simp; omega)).trans u0, (hW.cell (p := ⟨hx, 1, none⟩) (by simp; omega)).trans u1, (hW.cell (p := ⟨p + 1, 0, none⟩) (by simp; omega)).trans z0, (hW.cell (p := ⟨b3, o3, none⟩) (by simp; omega)).trans z1, (hW.cell (p := ⟨b3, o3 + 1, none⟩) (by simp; omega)).trans z2, conv_it ((HIR.out.below hW (Nat.le_refl _)).more hW.size), conv_it ((HRR.out.below hW (Nat.le_refl _)).more hW.size)⟩
              go_wp2_with fail
              refine wp_region_held_drew (S := (fun W : World => W.cell? ⟨hx, 0, none⟩ = some (.int .i64 k5) ∧ W.cell? ⟨hx, 1, none⟩ = some (.slice A5 n5 c5) ∧ W.cell? ⟨p + 1, 0, none⟩ = some (.slice (some ⟨b3, o3, none⟩) (ds.length + 1) c3) ∧ W.cell? ⟨b3, o3, none⟩ = some (.int .i64 k5) ∧ W.cell? ⟨b3, o3 + 1, none⟩ = some (.slice A6 n6 c6) ∧ (convert 22 9 (.slice A5 n5 c5)).run Try.prog W = .ok (.string (strOf bs5)) W ∧ (convert 22 9 (.slice A6 n6 c6)).run Try.prog W = .ok (.string (strOf bs5)) W)) (by kernel_rfl) ?_ (fun hHeld => ?_)
              · exact HS.out _ (Below.refl _ _).drew
              refine wpAnyH_take (i := 0) (v := ?_) rfl (by kernel_rfl) (by kernel_rfl) (by kernel_rfl) (fun _ _ _ h => h) (Or.inl ⟨by rfl, ?_⟩) (by assumption) ?_
              rotate_left
              · intro w hSw; (try dsimp only at hSw); go_simp; try with_reducible rfl
              go_simp
              refine wpAnyH_take (i := 1) (v := ?_) rfl (by kernel_rfl) (by kernel_rfl) (by kernel_rfl) (fun _ _ _ h => h) (Or.inl ⟨by rfl, ?_⟩) (by assumption) ?_
              rotate_left
              · intro w hSw; (try dsimp only at hSw); go_simp; try with_reducible rfl
              go_simp
              refine wpAnyH_take (i := 2) (v := ?_) rfl (by kernel_rfl) (by kernel_rfl) (by kernel_rfl) (fun _ _ _ h => h) (Or.inl ⟨by rfl, ?_⟩) (by assumption) ?_
              rotate_left
              · intro w hSw; (try dsimp only at hSw); go_simp; try with_reducible rfl
              go_simp
              refine wpAnyH_take (i := 3) (v := ?_) rfl (by kernel_rfl) (by kernel_rfl) (by kernel_rfl) (fun _ _ _ h => h) (Or.inl ⟨by rfl, ?_⟩) (by assumption) ?_
              rotate_left
              · intro w hSw; (try dsimp only at hSw); go_simp; try with_reducible rfl
              go_simp
              refine wpAnyH_take (i := 4) (v := ?_) rfl (by kernel_rfl) (by kernel_rfl) (by kernel_rfl) (fun _ _ _ h => h) (Or.inl ⟨by rfl, ?_⟩) (by assumption) ?_
              rotate_left
              · intro w hSw; (try dsimp only at hSw); go_simp; try with_reducible rfl
              go_simp
              refine wpAnyH_take (i := 5) (v := ?_) rfl (by kernel_rfl) (by kernel_rfl) (by kernel_rfl) (fun _ _ _ h => h) (Or.inl ⟨by rfl, ?_⟩) (by assumption) ?_
              rotate_left
              · intro w hSw; (try dsimp only at hSw); go_simp; try with_reducible rfl
              go_simp
              refine wpAnyH_take (i := 6) (v := ?_) rfl (by kernel_rfl) (by kernel_rfl) (by kernel_rfl) (fun _ _ _ h => h) (Or.inl ⟨by rfl, ?_⟩) (by assumption) ?_
              rotate_left
              · intro w hSw; (try dsimp only at hSw); go_simp; try with_reducible rfl
              go_simp
              refine wpAnyH_take (i := 7) (v := ?_) rfl (by kernel_rfl) (by kernel_rfl) (by kernel_rfl) (fun _ _ _ h => h) (Or.inl ⟨by rfl, ?_⟩) (by assumption) ?_
              rotate_left
              · intro w hSw; (try dsimp only at hSw); go_simp; try with_reducible rfl
              go_simp
              refine wpAnyH_take (i := 8) (v := ?_) rfl (by kernel_rfl) (by kernel_rfl) (by kernel_rfl) (fun _ _ _ h => h) (Or.inl ⟨by rfl, ?_⟩) (by assumption) ?_
              rotate_left
              · intro w hSw; (try dsimp only at hSw); go_simp; try with_reducible rfl
              go_simp
              refine wpAnyH_take (i := 9) (v := ?_) rfl (by kernel_rfl) (by kernel_rfl) (by kernel_rfl) (fun _ _ _ h => h) (Or.inl ⟨by rfl, ?_⟩) (by assumption) ?_
              rotate_left
              · intro w hSw; (try dsimp only at hSw); go_simp; try with_reducible rfl
              go_simp
              refine wpAnyH_take (i := 10) (v := ?_) rfl (by kernel_rfl) (by kernel_rfl) (by kernel_rfl) (fun _ _ _ h => h) (Or.inl ⟨by rfl, ?_⟩) (by assumption) ?_
              rotate_left
              · intro w hSw; (try dsimp only at hSw); go_simp; try with_reducible rfl
              go_simp
              refine wpAnyH_take (i := 11) (v := ?_) rfl (by kernel_rfl) (by kernel_rfl) (by kernel_rfl) (fun _ _ _ h => h) (Or.inl ⟨by rfl, ?_⟩) (by assumption) ?_
              rotate_left
              · intro w hSw; (try dsimp only at hSw); go_simp; try with_reducible rfl
              go_simp
              refine wpAnyH_take (i := 12) (v := ?_) rfl (by kernel_rfl) (by kernel_rfl) (by kernel_rfl) (fun _ _ _ h => h) (Or.inl ⟨by rfl, ?_⟩) (by assumption) ?_
              rotate_left
              · intro w hSw; (try dsimp only at hSw); go_simp; try with_reducible rfl
              go_simp
              refine wpAnyH_take (i := 13) (v := ?_) rfl (by kernel_rfl) (by kernel_rfl) (by kernel_rfl) (fun _ _ _ h => h) (Or.inl ⟨by rfl, ?_⟩) (by assumption) ?_
              rotate_left
              · intro w hSw; (try dsimp only at hSw); go_simp; try with_reducible rfl
              go_simp
              refine wpAnyH_take (i := 14) (v := ?_) rfl (by kernel_rfl) (by kernel_rfl) (by kernel_rfl) (fun _ _ _ h => h) (Or.inl ⟨by rfl, ?_⟩) (by assumption) ?_
              rotate_left
              · intro w hSw; (try dsimp only at hSw); go_simp; try with_reducible rfl
              go_simp
              refine wpAnyH_take (i := 15) (v := ?_) rfl (by kernel_rfl) (by kernel_rfl) (by kernel_rfl) (fun _ _ _ h => h) (Or.inl ⟨by rfl, ?_⟩) (by assumption) ?_
              rotate_left
              · intro w hSw; (try dsimp only at hSw); go_simp; try with_reducible rfl
              go_simp
              refine wpAnyH_take (i := 16) (v := ?_) rfl (by kernel_rfl) (by kernel_rfl) (by kernel_rfl) (fun _ _ _ h => h) (Or.inl ⟨by rfl, ?_⟩) (by assumption) ?_
              rotate_left
              · intro w hSw; (try dsimp only at hSw); go_simp; try with_reducible rfl
              go_simp
              refine wpAnyH_take (i := 17) (v := ?_) rfl (by kernel_rfl) (by kernel_rfl) (by kernel_rfl) (fun _ _ _ h => h) (Or.inl ⟨by rfl, ?_⟩) (by assumption) ?_
              rotate_left
              · intro w hSw; (try dsimp only at hSw); go_simp; try with_reducible rfl
              go_simp
              refine wpAnyH_take (i := 18) (v := ?_) rfl (by kernel_rfl) (by kernel_rfl) (by kernel_rfl) (fun _ _ _ h => h) (Or.inl ⟨by rfl, ?_⟩) (by assumption) ?_
              rotate_left
              · intro w hSw; (try dsimp only at hSw); go_simp; try with_reducible rfl
              go_simp
              refine wpAnyH_take (i := 19) (v := ?_) rfl (by kernel_rfl) (by kernel_rfl) (by kernel_rfl) (fun _ _ _ h => h) (Or.inl ⟨by rfl, ?_⟩) (by assumption) ?_
              rotate_left
              · intro w hSw; (try dsimp only at hSw); go_simp; try with_reducible rfl
              go_simp
              refine wpAnyH_done (by kernel_rfl) ?_ _
              have zf' : World.frozen? w6.drew ⟨p + 1, 0, none⟩ = false := zf
              have zc' : World.cell? w6.drew ⟨p + 1, 0, none⟩ = some (.slice (some ⟨b3, o3, none⟩) (ds.length + 1) c3) := z0
              have HM : Hid (∀ A' c', (A' = if c3 = 1 then some ⟨b3, o3, none⟩ else some ⟨b3, o3 + 2, none⟩) → c' = c3 - 1 → ∃ es, TellQ w (w6.drew.setCell ⟨p + 1, 0, none⟩ (.slice A' ds.length c')) p es) := fun A' c' h1 h2 => ⟨ds, (HLQ6.out.below (Below.refl _ _).drew).other (grown_set (grown_refl _ _) 0 _) (by omega) (by omega) (by omega), rqd_drew (HTL.out A' c' h1 h2)⟩
              clear HS HIR HRR HTL
              by_cases hc31 : c3 = 1
              · go_wp2_with fail
                go_meet
                exact HM.out _ _ (by rw [if_pos hc31]) (by omega)
              · go_wp2_with fail
                go_meet
                exact HM.out _ _ (by rw [if_neg hc31]) (by omega)
          · have hz1b : (z == 1) = false := by simpa using hz1'
            go_wp2_with fail
            go_loopw [11, 12, 13] (fun va vb i w2 => ∃ k : Nat, k ≤ 5 ∧ k ≤ L ∧ i = .int .i64 (k : Int) ∧ Hid (TwoI w1 w2 (h + 1) va vb k)) (fun _ _ i _ => 5 - (intOf i).toNat)
            case atStart => exact ⟨0, by omega, by omega, rfl, TwoI.nil _ _⟩
            case round =>
              obtain ⟨k, hk5, hkL, rfl, HK⟩ := hrel
              obtain ⟨qs, hrow, hob, hfew, hb2⟩ := HK.out
              obtain ⟨A9, c9, e9, hkc9, hc9m, _, _⟩ := own_form hrow.2.1
              subst e9
              obtain ⟨Ab, cb, eb, hkcb, hcbm, _, _⟩ := own_form hob
              subst eb
              have y1 : wr.cell? ⟨h, 1, none⟩ = some (.slice A1 L c1) := (hb2.cell (p := ⟨h, 1, none⟩) (by simp; omega)).trans Y1.out
              have y2 : wr.cell? ⟨h, 2, none⟩ = some (.slice A2 f2.length c2) := (hb2.cell (p := ⟨h, 2, none⟩) (by simp; omega)).trans Y2.out
              have hkI : (k : Int) ≤ 5 := by omega
              have hk0I : (0 : Int) ≤ (k : Int) := by omega
              have HROW := Lib.hid hrow
              have HOB := Lib.hid hob
              have HB2 := Lib.hid hb2
              have HFEW := Lib.hid hfew
              clear hrow hob hb2 HK hfew
              by_cases hkk : k < L ∧ k < 5
              · obtain ⟨hk1, hk2⟩ := hkk
                have hk1I : (k : Int) < (L : Int) := by omega
                have hk2I : (k : Int) < 5 := by omega
                have hsz : w1.heap.size ≤ wr.heap.size := HB2.out.size
                obtain ⟨b2, off2, rfl, hb2l, hcs2⟩ := HR1.out.2 (by omega)
                obtain ⟨y, hy⟩ : ∃ y, f1[k]? = some y := ⟨_, List.getElem?_eq_getElem (by have := HL1.out; omega)⟩
                have ny : wr.cell? ⟨b2, off2 + k, none⟩ = some (.int .i64 y) := (HB2.out.cell (p := ⟨b2, off2 + k, none⟩) hb2l).trans (hcs2 k _ (by simp [ints, hy]))
                have hb2w : b2 < wr.heap.size := by omega
                have NY1 : Hid (w1.cell? ⟨b2, off2 + k, none⟩ = some (.int .i64 y)) := hcs2 k _ (by simp [ints, hy])
                have HS : Hid (∀ W, Below wr.heap.size wr W → (fun W : World => W.cell? ⟨h, 1, none⟩ = some (.slice (some ⟨b2, off2, none⟩) L c1) ∧ W.cell? ⟨h, 2, none⟩ = some (.slice A2 f2.length c2) ∧ W.cell? ⟨b2, off2 + k, none⟩ = some (.int .i64 y)) W) := fun W hW => ⟨(hW.cell (p := ⟨h, 1, none⟩) (by simp; omega)).trans y1, (hW.cell (p := ⟨h, 2, none⟩) (by simp; omega)).trans y2, (hW.cell (p := ⟨b2, off2 + k, none⟩) hb2w).trans ny⟩
                have hyb := HZ1.out y (List.mem_of_getElem? hy)
                have hya : (y.tdiv 30).natAbs = y.natAbs / 30 := by rw [Int.natAbs_tdiv]; rfl
                have hwy : IntKind.i64.wrap (y.tdiv 30) = y.tdiv 30 := IntWalk.i64_in _ (by omega)
                clear hcs2 hy hyb hya
                obtain ⟨m, hm, hm120⟩ : ∃ m : Nat, (y.tdiv 30) % 120 = (m : Int) ∧ m < 120 := ⟨((y.tdiv 30) % 120).toNat, by omega, by omega⟩
                have HPK120 := Lib.hid (pick_any (y.tdiv 30) 120 wr.drew (by decide) (by decide))
                rw [hm] at HPK120
                have HTX := Lib.hid (text_any f2 A2 c2 m wr.drew ((HR2.out.below (HB2.out.drew) (Nat.le_refl _)).more HB2.out.size) (by omega) HF2.out.1 HF2.out.2)
                go_wp2_with fail
                refine wp_region_held_drew (S := (fun W : World => W.cell? ⟨h, 1, none⟩ = some (.slice (some ⟨b2, off2, none⟩) L c1) ∧ W.cell? ⟨h, 2, none⟩ = some (.slice A2 f2.length c2) ∧ W.cell? ⟨b2, off2 + k, none⟩ = some (.int .i64 y))) (by kernel_rfl) ?_ (fun hHeld => ?_)
                · exact HS.out _ (Below.refl _ _).drew
                refine wpAnyH_take (i := 0) (v := ?_) rfl (by kernel_rfl) (by kernel_rfl) (by kernel_rfl) (fun _ _ _ h => h) (Or.inl ⟨by rfl, ?_⟩) (by assumption) ?_
                rotate_left
                · intro w hSw; (try dsimp only at hSw); go_simp; try with_reducible rfl
                go_simp
                refine wpAnyH_take (i := 1) (v := ?_) rfl (by kernel_rfl) (by kernel_rfl) (by kernel_rfl) (fun _ _ _ h => h) (Or.inl ⟨by rfl, ?_⟩) (by assumption) ?_
                rotate_left
                · intro w hSw; (try dsimp only at hSw); go_simp; try with_reducible rfl
                go_simp
                refine wpAnyH_take (i := 2) (v := ?_) rfl (by kernel_rfl) (by kernel_rfl) (by kernel_rfl) (fun _ _ _ h => h) (Or.inl ⟨by rfl, ?_⟩) (by assumption) ?_
                rotate_left
                · intro w hSw; (try dsimp only at hSw); go_simp; try with_reducible rfl
                go_simp
                refine wpAnyH_take (i := 3) (v := ?_) rfl (by kernel_rfl) (by kernel_rfl) (by kernel_rfl) (fun _ _ _ h => h) (Or.inl ⟨by rfl, ?_⟩) (by assumption) ?_
                rotate_left
                · intro w hSw; (try dsimp only at hSw); go_simp; try with_reducible rfl
                go_simp
                refine wpAnyH_take (i := 4) (v := ?_) rfl (by kernel_rfl) (by kernel_rfl) (by kernel_rfl) (fun _ _ _ h => h) (Or.inl ⟨by rfl, ?_⟩) (by assumption) ?_
                rotate_left
                · intro w hSw; (try dsimp only at hSw); go_simp; try with_reducible rfl
                go_simp
                refine wpAnyH_take (i := 5) (v := ?_) rfl (by kernel_rfl) (by kernel_rfl) (by kernel_rfl) (fun _ _ _ h => h) (Or.inl ⟨by rfl, ?_⟩) (by assumption) ?_
                rotate_left
                · intro w hSw; (try dsimp only at hSw); go_simp; try with_reducible rfl
                go_simp
                refine wpAnyH_take (i := 6) (v := ?_) rfl (by kernel_rfl) (by kernel_rfl) (by kernel_rfl) (fun _ _ _ h => h) (Or.inl ⟨by rfl, ?_⟩) (by assumption) ?_
                rotate_left
                · intro w hSw; (try dsimp only at hSw); go_simp; try with_reducible rfl
                go_simp
                refine wpAnyH_take (i := 7) (v := ?_) rfl (by kernel_rfl) (by kernel_rfl) (by kernel_rfl) (fun _ _ _ h => h) (Or.inl ⟨by rfl, ?_⟩) (by assumption) ?_
                rotate_left
                · intro w hSw; (try dsimp only at hSw); go_simp; try with_reducible rfl
                go_simp
                refine wpAnyH_ready (rs := [8]) (by kernel_rfl) (by simp) ?_
                refine AllReadyH.cons rfl (fun K hK => ?_) AllReadyH.nil
                go_simp
                refine HPK120.out.mono ?_
                rintro e w3 ⟨rfl, hw3⟩
                subst hw3
                refine hK.out _ _ ?_ (fun hHeld => ?_)
                · exact HS.out _ (Below.refl _ _).drew
                clear hK K
                go_simp
                refine wpAnyH_ready (rs := [9]) (by kernel_rfl) (by simp) ?_
                refine AllReadyH.cons rfl (fun K hK => ?_) AllReadyH.nil
                go_simp
                refine HTX.out.mono ?_
                rintro e w5 ⟨A5, c5, rfl, out, ho1, ho2, ho3, ho4⟩
                have HB5 : Hid (Below wr.heap.size wr w5) := (Below.refl _ _).drew.trans ho4
                have HO5 := Lib.hid ho3
                have HO5L := Lib.hid ho2
                have HO5N := Lib.hid ho1
                have hc5 : m ≤ c5 := by
                  obtain ⟨_, _, ev, h5, _⟩ := own_form ho3
                  simp only [Value.slice.injEq] at ev
                  omega
                clear ho1 ho2 ho3 ho4
                refine hK.out _ _ ?_ (fun hHeld => ?_)
                · exact HS.out _ HB5.out
                clear hK K
                go_simp
                refine wpAnyH_take (i := 10) (v := ?_) rfl (by kernel_rfl) (by kernel_rfl) (by kernel_rfl) (fun _ _ _ h => h) (Or.inl ⟨by rfl, ?_⟩) (by assumption) ?_
                rotate_left
                · intro w hSw; (try dsimp only at hSw); go_simp; try with_reducible rfl
                go_simp
                refine wpAnyH_done (by kernel_rfl) ?_ _
                have y1 : w5.cell? ⟨h, 1, none⟩ = some (.slice (some ⟨b2, off2, none⟩) L c1) := (HS.out _ HB5.out).1
                have ny : w5.cell? ⟨b2, off2 + k, none⟩ = some (.int .i64 y) := (HS.out _ HB5.out).2.2
                have HPK := Lib.hid (fun W => pick_any y 30 W (by decide) (by decide))
                obtain ⟨pv, hpv⟩ : ∃ x, y % 30 = x := ⟨_, rfl⟩
                rw [hpv] at HPK
                have hsz5 : wr.heap.size ≤ w5.heap.size := HB5.out.size
                obtain ⟨s, hs⟩ : ∃ s, w5.heap.size = s := ⟨_, rfl⟩
                have hba : Below w5.heap.size w5 (w5.alloc (.cells #[.int .i64 pv, .slice A5 m c5] 24)) := (Below.refl _ _).alloc (Nat.le_refl _) _
                have HIT5 : ItB w5 (h + 1) ⟨pv, A5, m, c5, out⟩ := itb_own (own_base HO5.out (show h + 1 ≤ wr.heap.size by omega)) HO5L.out hc5 pv
                have HITA := Lib.hid (HIT5.below hba)
                have HRA := Lib.hid ((HROW.out.below HB5.out).below hba)
                have HOA := Lib.hid ((own_below (own_below HOB.out HB5.out) hba))
                have HBA : Hid (Below w1.heap.size w1 (w5.alloc (.cells #[.int .i64 pv, .slice A5 m c5] 24))) := (HB2.out.trans (HB5.out.mono hsz)).trans (hba.mono (by omega))
                have hd1 : Hid (Rd (w5.alloc (.cells #[.int .i64 pv, .slice A5 m c5] 24)) (s + 1) (some ⟨s, 0, none⟩) (1 * 2) (itC ⟨pv, A5, m, c5, out⟩)) := by rw [← hs]; exact rd_new _ _ _ _ _ _ _ rfl (by omega) rfl rfl
                have hd2 : Hid (ones (itC ⟨pv, A5, m, c5, out⟩)) := fun u hu => by simp [itC] at hu; rcases hu with rfl | rfl <;> rfl
                have hd1s : Hid (h + 1 ≤ (w5.alloc (.cells #[.int .i64 pv, .slice A5 m c5] 24)).heap.size) := by show _ ≤ _; simp; omega
                clear hpv hba HIT5 HS
                go_wp2_with fail
                go_at_call 13
                refine (HPK.out _).mono ?_
                rintro e w3 ⟨rfl, hw3⟩
                subst hw3
                go_wp2_with (at_builtin; refine wpList_app _ rfl (.tmp 49) (.tmp 58) 29 rfl (h + 1) 24 i0 (.agg #[.int .i64 0, .slice none 0 0]) 2 32 Try.underlying29 HI.out.1 HI.out.2.1 HI.out.2.2.1 HI.out.2.2.2 rfl (by decide) (.slice A9 k c9) k (its qs) rfl HRA.out.2.1 (s + 1) (some ⟨s, 0, none⟩) 1 1 (itC ⟨pv, A5, m, c5, out⟩) rfl hd1.out hd2.out (by unfold maxLen; omega) (by omega) hd1s.out ?_)
                intro v7 w7 hown7 hgrow7
                have HR7 := Lib.hid (HRA.out.push HITA.out hown7 hgrow7)
                have HO7 := Lib.hid (own_apart HRA.out.2.1 HOA.out (by decide) hgrow7)
                have HB7 : Hid (Below w1.heap.size w1 w7) := HBA.out.grown hgrow7 HBA.out.size (fun g hg => by have := (HRA.out.2.1.lt g hg).1; omega)
                obtain ⟨A7, c7, e7, _⟩ := own_form hown7
                subst e7
                have y1 : w7.cell? ⟨h, 1, none⟩ = some (.slice (some ⟨b2, off2, none⟩) L c1) := (HB7.out.cell (p := ⟨h, 1, none⟩) (by simp; omega)).trans Y1.out
                have ny : w7.cell? ⟨b2, off2 + k, none⟩ = some (.int .i64 y) := (HB7.out.cell (p := ⟨b2, off2 + k, none⟩) hb2l).trans NY1.out
                obtain ⟨s7, hs7⟩ : ∃ s, w7.heap.size = s := ⟨_, rfl⟩
                have hsz7 : w1.heap.size ≤ w7.heap.size := HB7.out.size
                have hbb : Below w7.heap.size w7 (w7.alloc (.cells #[.int .i64 pv, .slice A5 m c5] 44)) := (Below.refl _ _).alloc (Nat.le_refl _) _
                have HRB := Lib.hid (HR7.out.below hbb)
                have HOBB := Lib.hid (own_below HO7.out hbb)
                have HBB : Hid (Below w1.heap.size w1 (w7.alloc (.cells #[.int .i64 pv, .slice A5 m c5] 44))) := HB7.out.trans (hbb.mono hsz7)
                have hd3 : Hid (Rd (w7.alloc (.cells #[.int .i64 pv, .slice A5 m c5] 44)) (s7 + 1) (some ⟨s7, 0, none⟩) (1 * 2) (itC ⟨pv, A5, m, c5, out⟩)) := by rw [← hs7]; exact rd_new _ _ _ _ _ _ _ rfl (by omega) rfl rfl
                have hd3s : Hid (h + 1 ≤ (w7.alloc (.cells #[.int .i64 pv, .slice A5 m c5] 44)).heap.size) := by show _ ≤ _; simp; omega
                clear hown7 hgrow7 hbb
                go_wp2_with fail
                go_at_call 13
                refine (HPK.out _).mono ?_
                rintro e w3 ⟨rfl, hw3⟩
                subst hw3
                go_wp2_with (at_builtin; refine wpList_app _ rfl (.tmp 60) (.tmp 69) 37 rfl (h + 1) 44 i2 (.agg #[.int .i64 0, .slice none 0 0]) 2 32 Try.underlying37 HI2.out.1 HI2.out.2.1 HI2.out.2.2.1 HI2.out.2.2.2 rfl (by decide) (.slice Ab k cb) k (its qs) rfl HOBB.out (s7 + 1) (some ⟨s7, 0, none⟩) 1 1 (itC ⟨pv, A5, m, c5, out⟩) rfl hd3.out hd2.out (by unfold maxLen; omega) (by omega) hd3s.out ?_)
                intro v9 w9 hown9 hgrow9
                have HT9 : Hid (TwoI w1 w9 (h + 1) (.slice A7 (k + 1) c7) v9 (k + 1)) := ⟨qs ++ [⟨pv, A5, m, c5, out⟩], ⟨HRB.out.1, own_apart HOBB.out HRB.out.2.1 (by decide) hgrow9, fun x hx => (HRB.out.2.2 x hx).apart HOBB.out (by decide) hgrow9⟩, by rw [its_app]; simpa [its] using hown9, fun x hx => by
                  rw [List.mem_append] at hx
                  rcases hx with hx | hx
                  · exact HFEW.out x hx
                  · have : x = ⟨pv, A5, m, c5, out⟩ := by simpa using hx
                    subst this
                    show m ≤ _
                    omega, HBB.out.grown hgrow9 HBB.out.size (fun g hg => by have := (HOBB.out.lt g hg).1; omega)⟩
                obtain ⟨A10, c10, e10, _⟩ := own_form hown9
                subst e10
                clear hown9 hgrow9
                go_wp2_with fail
                refine ⟨⟨k + 1, by omega, by omega, by go_num, HT9⟩, ?_⟩
                simp [intOf]; omega
              · have HQ2 := Lib.hid (HQ1.out.below HB2.out)
                have HAT : Hid (At wr (h + 1) A9 (k * 2) (its qs)) := At.of_own HROW.out.2.1
                have HATB : Hid (At wr (h + 1) Ab (k * 2) (its qs)) := At.of_own HOB.out
                have HPU := Lib.hid (put_lq HQ2.out.1 qs k c9 A9 (HAT.out.less (by omega)) hkc9 (by omega) (fun q hq => ⟨(HROW.out.2.2 q hq).ok.less (by omega), HFEW.out q hq⟩))
                obtain ⟨D, hD⟩ : ∃ D, ((putD ds.length (qs.map dat)).length : Int) = D := ⟨_, rfl⟩
                rw [hD] at HPU
                by_cases hk1 : k < L
                · have hk1I : (k : Int) < (L : Int) := by omega
                  have hk2I : ¬ (k : Int) < 5 := by omega
                  go_wp2_with fail
                  go_at_call 7
                  refine HPU.out.mono ?_
                  rintro e w5 ⟨rfl, hq5, hg5⟩
                  have HPU2 := Lib.hid (rput_any ((HQ2.out.2).grown hg5 (by omega) (by omega)) qs k cb Ab ((HATB.out.grown hg5 (by omega)).less (by omega)) hkcb (by omega) (fun q hq => ⟨(((HROW.out.2.2 q hq).ok).grown hg5 (by omega)).less (by omega), HFEW.out q hq⟩))
                  unfold RPutP at HPU2
                  rw [hD] at HPU2
                  have HG5 := Lib.hid (And.intro hq5 hg5)
                  clear hq5 hg5
                  go_wp2_with fail
                  go_at_call 16
                  refine HPU2.out.mono ?_
                  rintro e w6 ⟨rfl, hq6, hg6⟩
                  have HM : Hid (∃ es, TellQ w w6 p es) := ⟨_, HG5.out.1.other hg6 (by omega) (by omega) (by omega), hq6⟩
                  clear hq6 hg6
                  go_wp2_with fail
                  go_meet
                  exact HM
                · have hk1I : ¬ (k : Int) < (L : Int) := by omega
                  go_wp2_with fail
                  go_at_call 7
                  refine HPU.out.mono ?_
                  rintro e w5 ⟨rfl, hq5, hg5⟩
                  have HPU2 := Lib.hid (rput_any ((HQ2.out.2).grown hg5 (by omega) (by omega)) qs k cb Ab ((HATB.out.grown hg5 (by omega)).less (by omega)) hkcb (by omega) (fun q hq => ⟨(((HROW.out.2.2 q hq).ok).grown hg5 (by omega)).less (by omega), HFEW.out q hq⟩))
                  unfold RPutP at HPU2
                  rw [hD] at HPU2
                  have HG5 := Lib.hid (And.intro hq5 hg5)
                  clear hq5 hg5
                  go_wp2_with fail
                  go_at_call 16
                  refine HPU2.out.mono ?_
                  rintro e w6 ⟨rfl, hq6, hg6⟩
                  have HM : Hid (∃ es, TellQ w w6 p es) := ⟨_, HG5.out.1.other hg6 (by omega) (by omega) (by omega), hq6⟩
                  clear hq6 hg6
                  go_wp2_with fail
                  go_meet
                  exact HM
      case rest =>
        obtain ⟨es, hq⟩ := hcut.out
        have HQ := Lib.hid hq
        clear hq
        cases es with
        | nil =>
          go_wp2_with fail
          go_at_call 11
          refine (first_nil HQ.out.1).mono ?_
          rintro e w5 ⟨rfl, hq5, hb5⟩
          have hqr := HQ.out.2.below hb5
          have hb6 : Below w5.heap.size w5 (w5.alloc (.cells #[.int .i64 0, .slice none 0 0] 24)) := (Below.refl _ _).alloc (Nat.le_refl _) _
          obtain ⟨A0, c0, z0, _, _⟩ := (hqr.below hb6).len
          have hpr6 := (hqr.below hb6).lt
          simp only [List.length_nil] at z0
          have HS : Hid (∀ W, Below (w5.alloc (.cells #[.int .i64 0, .slice none 0 0] 24)).heap.size (w5.alloc (.cells #[.int .i64 0, .slice none 0 0] 24)) W → W.cell? ⟨p + 1, 0, none⟩ = some (.slice A0 0 c0)) := fun W hW => (hW.cell (p := ⟨p + 1, 0, none⟩) hpr6).trans z0
          have HLEN := Lib.hid (len_lq ((hq5.below hb6).below (Below.refl _ _).drew))
          have HM : Hid (∃ es, TellQ w (w5.alloc (.cells #[.int .i64 0, .slice none 0 0] 24)).drew p es) := ⟨[], (hq5.below hb6).below (Below.refl _ _).drew, (hqr.below hb6).below (Below.refl _ _).drew⟩
          simp only [List.length_nil] at HLEN
          clear z0 hpr6
          clear hq5 hb5 hqr hb6
          go_wp2_with fail
          refine wp_region_held_drew (S := (fun W : World => W.cell? ⟨p + 1, 0, none⟩ = some (.slice A0 0 c0))) (by kernel_rfl) ?_ (fun hHeld => ?_)
          · exact HS.out _ (Below.refl _ _).drew
          refine wpAnyH_take (i := 1) (v := ?_) rfl (by kernel_rfl) (by kernel_rfl) (by kernel_rfl) (fun _ _ _ h => h) (Or.inl ⟨by rfl, ?_⟩) (by assumption) ?_
          rotate_left
          · intro w hSw; (try dsimp only at hSw); go_simp; try with_reducible rfl
          go_simp
          refine wpAnyH_take (i := 2) (v := ?_) rfl (by kernel_rfl) (by kernel_rfl) (by kernel_rfl) (fun _ _ _ h => h) (Or.inl ⟨by rfl, ?_⟩) (by assumption) ?_
          rotate_left
          · intro w hSw; (try dsimp only at hSw); go_simp; try with_reducible rfl
          go_simp
          refine wpAnyH_take (i := 3) (v := ?_) rfl (by kernel_rfl) (by kernel_rfl) (by kernel_rfl) (fun _ _ _ h => h) (Or.inl ⟨by rfl, ?_⟩) (by assumption) ?_
          rotate_left
          · intro w hSw; (try dsimp only at hSw); go_simp; try with_reducible rfl
          go_simp
          refine wpAnyH_ready (rs := [0]) (by kernel_rfl) (by simp) ?_
          refine AllReadyH.cons rfl (fun K hK => ?_) AllReadyH.nil
          go_simp
          refine HLEN.out.mono ?_
          rintro e w7 ⟨rfl, hw7⟩
          subst hw7
          refine hK.out _ _ ?_ (fun hHeld => ?_)
          · exact HS.out _ (Below.refl _ _).drew
          clear hK K
          go_simp
          refine wpAnyH_take (i := 4) (v := ?_) rfl (by kernel_rfl) (by kernel_rfl) (by kernel_rfl) (fun _ _ _ h => h) (Or.inl ⟨by rfl, ?_⟩) (by assumption) ?_
          rotate_left
          · intro w hSw; (try dsimp only at hSw); go_simp; try with_reducible rfl
          go_simp
          refine wpAnyH_take (i := 5) (v := ?_) rfl (by kernel_rfl) (by kernel_rfl) (by kernel_rfl) (fun _ _ _ h => h) (Or.inl ⟨by rfl, ?_⟩) (by assumption) ?_
          rotate_left
          · intro w hSw; (try dsimp only at hSw); go_simp; try with_reducible rfl
          go_simp
          refine wpAnyH_take (i := 6) (v := ?_) rfl (by kernel_rfl) (by kernel_rfl) (by kernel_rfl) (fun _ _ _ h => h) (Or.inl ⟨by rfl, ?_⟩) (by assumption) ?_
          rotate_left
          · intro w hSw; (try dsimp only at hSw); go_simp; try with_reducible rfl
          go_simp
          refine wpAnyH_take (i := 7) (v := ?_) rfl (by kernel_rfl) (by kernel_rfl) (by kernel_rfl) (fun _ _ _ h => h) (Or.inl ⟨by rfl, ?_⟩) (by assumption) ?_
          rotate_left
          · intro w hSw; (try dsimp only at hSw); go_simp; try with_reducible rfl
          go_simp
          refine wpAnyH_take (i := 8) (v := ?_) rfl (by kernel_rfl) (by kernel_rfl) (by kernel_rfl) (fun _ _ _ h => h) (Or.inl ⟨by rfl, ?_⟩) (by assumption) ?_
          rotate_left
          · intro w hSw; (try dsimp only at hSw); go_simp; try with_reducible rfl
          go_simp
          refine wpAnyH_take (i := 9) (v := ?_) rfl (by kernel_rfl) (by kernel_rfl) (by kernel_rfl) (fun _ _ _ h => h) (Or.inl ⟨by rfl, ?_⟩) (by assumption) ?_
          rotate_left
          · intro w hSw; (try dsimp only at hSw); go_simp; try with_reducible rfl
          go_simp
          refine wpAnyH_take (i := 10) (v := ?_) rfl (by kernel_rfl) (by kernel_rfl) (by kernel_rfl) (fun _ _ _ h => h) (Or.inl ⟨by rfl, ?_⟩) (by assumption) ?_
          rotate_left
          · intro w hSw; (try dsimp only at hSw); go_simp; try with_reducible rfl
          go_simp
          refine wpAnyH_take (i := 11) (v := ?_) rfl (by kernel_rfl) (by kernel_rfl) (by kernel_rfl) (fun _ _ _ h => h) (Or.inl ⟨by rfl, ?_⟩) (by assumption) ?_
          rotate_left
          · intro w hSw; (try dsimp only at hSw); go_simp; try with_reducible rfl
          go_simp
          refine wpAnyH_take (i := 12) (v := ?_) rfl (by kernel_rfl) (by kernel_rfl) (by kernel_rfl) (fun _ _ _ h => h) (Or.inl ⟨by rfl, ?_⟩) (by assumption) ?_
          rotate_left
          · intro w hSw; (try dsimp only at hSw); go_simp; try with_reducible rfl
          go_simp
          refine wpAnyH_take (i := 13) (v := ?_) rfl (by kernel_rfl) (by kernel_rfl) (by kernel_rfl) (fun _ _ _ h => h) (Or.inl ⟨by rfl, ?_⟩) (by assumption) ?_
          rotate_left
          · intro w hSw; (try dsimp only at hSw); go_simp; try with_reducible rfl
          go_simp
          refine wpAnyH_take (i := 14) (v := ?_) rfl (by kernel_rfl) (by kernel_rfl) (by kernel_rfl) (fun _ _ _ h => h) (Or.inl ⟨by rfl, ?_⟩) (by assumption) ?_
          rotate_left
          · intro w hSw; (try dsimp only at hSw); go_simp; try with_reducible rfl
          go_simp
          refine wpAnyH_take (i := 15) (v := ?_) rfl (by kernel_rfl) (by kernel_rfl) (by kernel_rfl) (fun _ _ _ h => h) (Or.inl ⟨by rfl, ?_⟩) (by assumption) ?_
          rotate_left
          · intro w hSw; (try dsimp only at hSw); go_simp; try with_reducible rfl
          go_simp
          refine wpAnyH_take (i := 16) (v := undef) rfl (by kernel_rfl) (by kernel_rfl) (by kernel_rfl) (fun _ _ _ h => h) (Or.inr ⟨by rfl, rfl⟩) (by assumption) ?_
          go_simp
          refine wpAnyH_take (i := 17) (v := undef) rfl (by kernel_rfl) (by kernel_rfl) (by kernel_rfl) (fun _ _ _ h => h) (Or.inr ⟨by rfl, rfl⟩) (by assumption) ?_
          go_simp
          refine wpAnyH_take (i := 18) (v := undef) rfl (by kernel_rfl) (by kernel_rfl) (by kernel_rfl) (fun _ _ _ h => h) (Or.inr ⟨by rfl, rfl⟩) (by assumption) ?_
          go_simp
          refine wpAnyH_take (i := 19) (v := undef) rfl (by kernel_rfl) (by kernel_rfl) (by kernel_rfl) (fun _ _ _ h => h) (Or.inr ⟨by rfl, rfl⟩) (by assumption) ?_
          go_simp
          refine wpAnyH_take (i := 20) (v := undef) rfl (by kernel_rfl) (by kernel_rfl) (by kernel_rfl) (fun _ _ _ h => h) (Or.inr ⟨by rfl, rfl⟩) (by assumption) ?_
          go_simp
          refine wpAnyH_take (i := 21) (v := undef) rfl (by kernel_rfl) (by kernel_rfl) (by kernel_rfl) (fun _ _ _ h => h) (Or.inr ⟨by rfl, rfl⟩) (by assumption) ?_
          go_simp
          refine wpAnyH_take (i := 22) (v := undef) rfl (by kernel_rfl) (by kernel_rfl) (by kernel_rfl) (fun _ _ _ h => h) (Or.inr ⟨by rfl, rfl⟩) (by assumption) ?_
          go_simp
          refine wpAnyH_take (i := 23) (v := undef) rfl (by kernel_rfl) (by kernel_rfl) (by kernel_rfl) (fun _ _ _ h => h) (Or.inr ⟨by rfl, rfl⟩) (by assumption) ?_
          go_simp
          refine wpAnyH_take (i := 24) (v := undef) rfl (by kernel_rfl) (by kernel_rfl) (by kernel_rfl) (fun _ _ _ h => h) (Or.inr ⟨by rfl, rfl⟩) (by assumption) ?_
          go_simp
          refine wpAnyH_take (i := 25) (v := undef) rfl (by kernel_rfl) (by kernel_rfl) (by kernel_rfl) (fun _ _ _ h => h) (Or.inr ⟨by rfl, rfl⟩) (by assumption) ?_
          go_simp
          refine wpAnyH_take (i := 26) (v := undef) rfl (by kernel_rfl) (by kernel_rfl) (by kernel_rfl) (fun _ _ _ h => h) (Or.inr ⟨by rfl, rfl⟩) (by assumption) ?_
          go_simp
          refine wpAnyH_take (i := 27) (v := undef) rfl (by kernel_rfl) (by kernel_rfl) (by kernel_rfl) (fun _ _ _ h => h) (Or.inr ⟨by rfl, rfl⟩) (by assumption) ?_
          go_simp
          refine wpAnyH_take (i := 28) (v := undef) rfl (by kernel_rfl) (by kernel_rfl) (by kernel_rfl) (fun _ _ _ h => h) (Or.inr ⟨by rfl, rfl⟩) (by assumption) ?_
          go_simp
          refine wpAnyH_take (i := 29) (v := undef) rfl (by kernel_rfl) (by kernel_rfl) (by kernel_rfl) (fun _ _ _ h => h) (Or.inr ⟨by rfl, rfl⟩) (by assumption) ?_
          go_simp
          refine wpAnyH_take (i := 30) (v := undef) rfl (by kernel_rfl) (by kernel_rfl) (by kernel_rfl) (fun _ _ _ h => h) (Or.inr ⟨by rfl, rfl⟩) (by assumption) ?_
          go_simp
          refine wpAnyH_take (i := 31) (v := undef) rfl (by kernel_rfl) (by kernel_rfl) (by kernel_rfl) (fun _ _ _ h => h) (Or.inr ⟨by rfl, rfl⟩) (by assumption) ?_
          go_simp
          refine wpAnyH_take (i := 32) (v := undef) rfl (by kernel_rfl) (by kernel_rfl) (by kernel_rfl) (fun _ _ _ h => h) (Or.inr ⟨by rfl, rfl⟩) (by assumption) ?_
          go_simp
          refine wpAnyH_take (i := 33) (v := undef) rfl (by kernel_rfl) (by kernel_rfl) (by kernel_rfl) (fun _ _ _ h => h) (Or.inr ⟨by rfl, rfl⟩) (by assumption) ?_
          go_simp
          refine wpAnyH_take (i := 34) (v := undef) rfl (by kernel_rfl) (by kernel_rfl) (by kernel_rfl) (fun _ _ _ h => h) (Or.inr ⟨by rfl, rfl⟩) (by assumption) ?_
          go_simp
          refine wpAnyH_take (i := 35) (v := undef) rfl (by kernel_rfl) (by kernel_rfl) (by kernel_rfl) (fun _ _ _ h => h) (Or.inr ⟨by rfl, rfl⟩) (by assumption) ?_
          go_simp
          refine wpAnyH_take (i := 36) (v := ?_) rfl (by kernel_rfl) (by kernel_rfl) (by kernel_rfl) (fun _ _ _ h => h) (Or.inl ⟨by rfl, ?_⟩) (by assumption) ?_
          rotate_left
          · intro w hSw; (try dsimp only at hSw); go_simp; try with_reducible rfl
          go_simp
          refine wpAnyH_take (i := 37) (v := ?_) rfl (by kernel_rfl) (by kernel_rfl) (by kernel_rfl) (fun _ _ _ h => h) (Or.inl ⟨by rfl, ?_⟩) (by assumption) ?_
          rotate_left
          · intro w hSw; (try dsimp only at hSw); go_simp; try with_reducible rfl
          go_simp
          refine wpAnyH_done (by kernel_rfl) ?_ _
          go_wp2_with fail
          refine ⟨⟨j + 1, by omega, by go_num, HM⟩, ?_⟩
          simp [intOf]; omega
        | cons d ds =>
          obtain ⟨kd, bd⟩ := d
          go_wp2_with fail
          go_at_call 11
          refine (first_cons HQ.out.1).mono ?_
          rintro e w5 ⟨⟨k5, A5, n5, c5, bs5⟩, rfl, hd5, hi5, hq5L, hb5⟩
          simp only [dat, Prod.mk.injEq] at hd5
          obtain ⟨rfl, rfl⟩ := hd5
          have hq5R := HQ.out.2.below hb5
          clear hb5
          obtain ⟨hx, hhx⟩ : ∃ x, w5.heap.size = x := ⟨_, rfl⟩
          obtain ⟨w6, hw6⟩ : ∃ x, w5.alloc (.cells #[.int .i64 k5, .slice A5 n5 c5] 24) = x := ⟨_, rfl⟩
          have hb6 : Below w5.heap.size w5 w6 := by rw [← hw6]; exact (Below.refl _ _).alloc (Nat.le_refl _) _
          have hz6 : w6.heap.size = hx + 1 := by rw [← hw6, ← hhx]; simp
          have u0 : w6.cell? ⟨hx, 0, none⟩ = some (.int .i64 k5) := by rw [← hw6, ← hhx]; simp
          have u1 : w6.cell? ⟨hx, 1, none⟩ = some (.slice A5 n5 c5) := by rw [← hw6, ← hhx]; simp
          obtain ⟨b3, o3, c3, A6, n6, c6, z0, zf, hc3, hlo3, hbl3, z1, z2, hrd6, _, htl⟩ := (hq5R.below hb6).first
          have hpr := hq5R.lt
          have HIR : Hid (Rd w6 w6.heap.size A5 n5 (bv bs5)) := (hi5.at'.rd.below hb6 (Nat.le_refl _)).more hb6.size
          have HRR : Hid (Rd w6 w6.heap.size A6 n6 (bv bs5)) := hrd6
          have HLQ6 := Lib.hid (hq5L.below hb6)
          have HRQ6 := Lib.hid (hq5R.below hb6)
          have HTL := Lib.hid htl
          have hcI : (1 : Int) ≤ (ds.length : Int) + 1 := by omega
          have hcc : ((ds.length : Int) + 1) ≤ (c3 : Int) := by omega
          have hgt : (0 : Int) < (ds.length : Int) + 1 := by omega
          simp only at z1
          clear hrd6 htl hb6
          have HLEN := Lib.hid (len_lq (HLQ6.out.below (Below.refl _ _).drew))
          have HM : Hid (∃ es, TellQ w w6.drew p es) := ⟨(k5, bs5) :: ds, HLQ6.out.below (Below.refl _ _).drew, HRQ6.out.below (Below.refl _ _).drew⟩
          have el : (((k5, bs5) :: ds).length : Int) = (ds.length : Int) + 1 := by simp
          rw [el] at HLEN
          clear hi5 hq5L hq5R HTL el
          have HS : Hid (∀ W, Below w6.heap.size w6 W → (fun W : World => W.cell? ⟨hx, 0, none⟩ = some (.int .i64 k5) ∧ W.cell? ⟨hx, 1, none⟩ = some (.slice A5 n5 c5) ∧ W.cell? ⟨p + 1, 0, none⟩ = some (.slice (some ⟨b3, o3, none⟩) (ds.length + 1) c3) ∧ W.cell? ⟨b3, o3, none⟩ = some (.int .i64 k5) ∧ W.cell? ⟨b3, o3 + 1, none⟩ = some (.slice A6 n6 c6) ∧ (convert 22 9 (.slice A5 n5 c5)).run Try.prog W = .ok (.string (strOf bs5)) W ∧ (convert 22 9 (.slice A6 n6 c6)).run Try.prog W = .ok (.string (strOf bs5)) W) W) := fun W hW =>
            ⟨(hW.cell (p := ⟨hx, 0, none⟩) (by simp; omega)).trans u0, (hW.cell (p := ⟨hx, 1, none⟩) (by simp; omega)).trans u1, (hW.cell (p := ⟨p + 1, 0, none⟩) (by simp; omega)).trans z0, (hW.cell (p := ⟨b3, o3, none⟩) (by simp; omega)).trans z1, (hW.cell (p := ⟨b3, o3 + 1, none⟩) (by simp; omega)).trans z2, conv_it ((HIR.out.below hW (Nat.le_refl _)).more hW.size), conv_it ((HRR.out.below hW (Nat.le_refl _)).more hW.size)⟩
          go_wp2_with fail
          refine wp_region_held_drew (S := (fun W : World => W.cell? ⟨hx, 0, none⟩ = some (.int .i64 k5) ∧ W.cell? ⟨hx, 1, none⟩ = some (.slice A5 n5 c5) ∧ W.cell? ⟨p + 1, 0, none⟩ = some (.slice (some ⟨b3, o3, none⟩) (ds.length + 1) c3) ∧ W.cell? ⟨b3, o3, none⟩ = some (.int .i64 k5) ∧ W.cell? ⟨b3, o3 + 1, none⟩ = some (.slice A6 n6 c6) ∧ (convert 22 9 (.slice A5 n5 c5)).run Try.prog W = .ok (.string (strOf bs5)) W ∧ (convert 22 9 (.slice A6 n6 c6)).run Try.prog W = .ok (.string (strOf bs5)) W)) (by kernel_rfl) ?_ (fun hHeld => ?_)
          · exact HS.out _ (Below.refl _ _).drew
          refine wpAnyH_take (i := 1) (v := ?_) rfl (by kernel_rfl) (by kernel_rfl) (by kernel_rfl) (fun _ _ _ h => h) (Or.inl ⟨by rfl, ?_⟩) (by assumption) ?_
          rotate_left
          · intro w hSw; (try dsimp only at hSw); go_simp; try with_reducible rfl
          go_simp
          refine wpAnyH_take (i := 2) (v := ?_) rfl (by kernel_rfl) (by kernel_rfl) (by kernel_rfl) (fun _ _ _ h => h) (Or.inl ⟨by rfl, ?_⟩) (by assumption) ?_
          rotate_left
          · intro w hSw; (try dsimp only at hSw); go_simp; try with_reducible rfl
          go_simp
          refine wpAnyH_take (i := 3) (v := ?_) rfl (by kernel_rfl) (by kernel_rfl) (by kernel_rfl) (fun _ _ _ h => h) (Or.inl ⟨by rfl, ?_⟩) (by assumption) ?_
          rotate_left
          · intro w hSw; (try dsimp only at hSw); go_simp; try with_reducible rfl
          go_simp
          refine wpAnyH_ready (rs := [0]) (by kernel_rfl) (by simp) ?_
          refine AllReadyH.cons rfl (fun K hK => ?_) AllReadyH.nil
          go_simp
          refine HLEN.out.mono ?_
          rintro e w7 ⟨rfl, hw7⟩
          subst hw7
          refine hK.out _ _ ?_ (fun hHeld => ?_)
          · exact HS.out _ (Below.refl _ _).drew
          clear hK K
          go_simp
          refine wpAnyH_take (i := 4) (v := ?_) rfl (by kernel_rfl) (by kernel_rfl) (by kernel_rfl) (fun _ _ _ h => h) (Or.inl ⟨by rfl, ?_⟩) (by assumption) ?_
          rotate_left
          · intro w hSw; (try dsimp only at hSw); go_simp; try with_reducible rfl
          go_simp
          refine wpAnyH_take (i := 5) (v := ?_) rfl (by kernel_rfl) (by kernel_rfl) (by kernel_rfl) (fun _ _ _ h => h) (Or.inl ⟨by rfl, ?_⟩) (by assumption) ?_
          rotate_left
          · intro w hSw; (try dsimp only at hSw); go_simp; try with_reducible rfl
          go_simp
          refine wpAnyH_take (i := 6) (v := ?_) rfl (by kernel_rfl) (by kernel_rfl) (by kernel_rfl) (fun _ _ _ h => h) (Or.inl ⟨by rfl, ?_⟩) (by assumption) ?_
          rotate_left
          · intro w hSw; (try dsimp only at hSw); go_simp; try with_reducible rfl
          go_simp
          refine wpAnyH_take (i := 7) (v := ?_) rfl (by kernel_rfl) (by kernel_rfl) (by kernel_rfl) (fun _ _ _ h => h) (Or.inl ⟨by rfl, ?_⟩) (by assumption) ?_
          rotate_left
          · intro w hSw; (try dsimp only at hSw); go_simp; try with_reducible rfl
          go_simp
          refine wpAnyH_take (i := 8) (v := ?_) rfl (by kernel_rfl) (by kernel_rfl) (by kernel_rfl) (fun _ _ _ h => h) (Or.inl ⟨by rfl, ?_⟩) (by assumption) ?_
          rotate_left
          · intro w hSw; (try dsimp only at hSw); go_simp; try with_reducible rfl
          go_simp
          refine wpAnyH_take (i := 9) (v := ?_) rfl (by kernel_rfl) (by kernel_rfl) (by kernel_rfl) (fun _ _ _ h => h) (Or.inl ⟨by rfl, ?_⟩) (by assumption) ?_
          rotate_left
          · intro w hSw; (try dsimp only at hSw); go_simp; try with_reducible rfl
          go_simp
          refine wpAnyH_take (i := 10) (v := ?_) rfl (by kernel_rfl) (by kernel_rfl) (by kernel_rfl) (fun _ _ _ h => h) (Or.inl ⟨by rfl, ?_⟩) (by assumption) ?_
          rotate_left
          · intro w hSw; (try dsimp only at hSw); go_simp; try with_reducible rfl
          go_simp
          refine wpAnyH_take (i := 11) (v := ?_) rfl (by kernel_rfl) (by kernel_rfl) (by kernel_rfl) (fun _ _ _ h => h) (Or.inl ⟨by rfl, ?_⟩) (by assumption) ?_
          rotate_left
          · intro w hSw; (try dsimp only at hSw); go_simp; try with_reducible rfl
          go_simp
          refine wpAnyH_take (i := 12) (v := ?_) rfl (by kernel_rfl) (by kernel_rfl) (by kernel_rfl) (fun _ _ _ h => h) (Or.inl ⟨by rfl, ?_⟩) (by assumption) ?_
          rotate_left
          · intro w hSw; (try dsimp only at hSw); go_simp; try with_reducible rfl
          go_simp
          refine wpAnyH_take (i := 13) (v := ?_) rfl (by kernel_rfl) (by kernel_rfl) (by kernel_rfl) (fun _ _ _ h => h) (Or.inl ⟨by rfl, ?_⟩) (by assumption) ?_
          rotate_left
          · intro w hSw; (try dsimp only at hSw); go_simp; try with_reducible rfl
          go_simp
          refine wpAnyH_take (i := 14) (v := ?_) rfl (by kernel_rfl) (by kernel_rfl) (by kernel_rfl) (fun _ _ _ h => h) (Or.inl ⟨by rfl, ?_⟩) (by assumption) ?_
          rotate_left
          · intro w hSw; (try dsimp only at hSw); go_simp; try with_reducible rfl
          go_simp
          refine wpAnyH_take (i := 15) (v := ?_) rfl (by kernel_rfl) (by kernel_rfl) (by kernel_rfl) (fun _ _ _ h => h) (Or.inl ⟨by rfl, ?_⟩) (by assumption) ?_
          rotate_left
          · intro w hSw; (try dsimp only at hSw); go_simp; try with_reducible rfl
          go_simp
          refine wpAnyH_take (i := 16) (v := ?_) rfl (by kernel_rfl) (by kernel_rfl) (by kernel_rfl) (fun _ _ _ h => h) (Or.inl ⟨by rfl, ?_⟩) (by assumption) ?_
          rotate_left
          · intro w hSw; (try dsimp only at hSw); go_simp; try with_reducible rfl
          go_simp
          refine wpAnyH_take (i := 17) (v := ?_) rfl (by kernel_rfl) (by kernel_rfl) (by kernel_rfl) (fun _ _ _ h => h) (Or.inl ⟨by rfl, ?_⟩) (by assumption) ?_
          rotate_left
          · intro w hSw; (try dsimp only at hSw); go_simp; try with_reducible rfl
          go_simp
          refine wpAnyH_take (i := 18) (v := ?_) rfl (by kernel_rfl) (by kernel_rfl) (by kernel_rfl) (fun _ _ _ h => h) (Or.inl ⟨by rfl, ?_⟩) (by assumption) ?_
          rotate_left
          · intro w hSw; (try dsimp only at hSw); go_simp; try with_reducible rfl
          go_simp
          refine wpAnyH_take (i := 19) (v := ?_) rfl (by kernel_rfl) (by kernel_rfl) (by kernel_rfl) (fun _ _ _ h => h) (Or.inl ⟨by rfl, ?_⟩) (by assumption) ?_
          rotate_left
          · intro w hSw; (try dsimp only at hSw); go_simp; try with_reducible rfl
          go_simp
          refine wpAnyH_take (i := 20) (v := ?_) rfl (by kernel_rfl) (by kernel_rfl) (by kernel_rfl) (fun _ _ _ h => h) (Or.inl ⟨by rfl, ?_⟩) (by assumption) ?_
          rotate_left
          · intro w hSw; (try dsimp only at hSw); go_simp; try with_reducible rfl
          go_simp
          refine wpAnyH_take (i := 21) (v := ?_) rfl (by kernel_rfl) (by kernel_rfl) (by kernel_rfl) (fun _ _ _ h => h) (Or.inl ⟨by rfl, ?_⟩) (by assumption) ?_
          rotate_left
          · intro w hSw; (try dsimp only at hSw); go_simp; try with_reducible rfl
          go_simp
          refine wpAnyH_take (i := 22) (v := ?_) rfl (by kernel_rfl) (by kernel_rfl) (by kernel_rfl) (fun _ _ _ h => h) (Or.inl ⟨by rfl, ?_⟩) (by assumption) ?_
          rotate_left
          · intro w hSw; (try dsimp only at hSw); go_simp; try with_reducible rfl
          go_simp
          refine wpAnyH_take (i := 23) (v := ?_) rfl (by kernel_rfl) (by kernel_rfl) (by kernel_rfl) (fun _ _ _ h => h) (Or.inl ⟨by rfl, ?_⟩) (by assumption) ?_
          rotate_left
          · intro w hSw; (try dsimp only at hSw); go_simp; try with_reducible rfl
          go_simp
          refine wpAnyH_take (i := 24) (v := ?_) rfl (by kernel_rfl) (by kernel_rfl) (by kernel_rfl) (fun _ _ _ h => h) (Or.inl ⟨by rfl, ?_⟩) (by assumption) ?_
          rotate_left
          · intro w hSw; (try dsimp only at hSw); go_simp; try with_reducible rfl
          go_simp
          refine wpAnyH_take (i := 25) (v := ?_) rfl (by kernel_rfl) (by kernel_rfl) (by kernel_rfl) (fun _ _ _ h => h) (Or.inl ⟨by rfl, ?_⟩) (by assumption) ?_
          rotate_left
          · intro w hSw; (try dsimp only at hSw); go_simp; try with_reducible rfl
          go_simp
          refine wpAnyH_take (i := 26) (v := ?_) rfl (by kernel_rfl) (by kernel_rfl) (by kernel_rfl) (fun _ _ _ h => h) (Or.inl ⟨by rfl, ?_⟩) (by assumption) ?_
          rotate_left
          · intro w hSw; (try dsimp only at hSw); go_simp; try with_reducible rfl
          go_simp
          refine wpAnyH_take (i := 27) (v := ?_) rfl (by kernel_rfl) (by kernel_rfl) (by kernel_rfl) (fun _ _ _ h => h) (Or.inl ⟨by rfl, ?_⟩) (by assumption) ?_
          rotate_left
          · intro w hSw; (try dsimp only at hSw); go_simp; try with_reducible rfl
          go_simp
          refine wpAnyH_take (i := 28) (v := ?_) rfl (by kernel_rfl) (by kernel_rfl) (by kernel_rfl) (fun _ _ _ h => h) (Or.inl ⟨by rfl, ?_⟩) (by assumption) ?_
          rotate_left
          · intro w hSw; (try dsimp only at hSw); go_simp; try with_reducible rfl
          go_simp
          refine wpAnyH_take (i := 29) (v := ?_) rfl (by kernel_rfl) (by kernel_rfl) (by kernel_rfl) (fun _ _ _ h => h) (Or.inl ⟨by rfl, ?_⟩) (by assumption) ?_
          rotate_left
          · intro w hSw; (try dsimp only at hSw); go_simp; try with_reducible rfl
          go_simp
          refine wpAnyH_take (i := 30) (v := ?_) rfl (by kernel_rfl) (by kernel_rfl) (by kernel_rfl) (fun _ _ _ h => h) (Or.inl ⟨by rfl, ?_⟩) (by assumption) ?_
          rotate_left
          · intro w hSw; (try dsimp only at hSw); go_simp; try with_reducible rfl
          go_simp
          refine wpAnyH_take (i := 31) (v := ?_) rfl (by kernel_rfl) (by kernel_rfl) (by kernel_rfl) (fun _ _ _ h => h) (Or.inl ⟨by rfl, ?_⟩) (by assumption) ?_
          rotate_left
          · intro w hSw; (try dsimp only at hSw); go_simp; try with_reducible rfl
          go_simp
          refine wpAnyH_take (i := 32) (v := ?_) rfl (by kernel_rfl) (by kernel_rfl) (by kernel_rfl) (fun _ _ _ h => h) (Or.inl ⟨by rfl, ?_⟩) (by assumption) ?_
          rotate_left
          · intro w hSw; (try dsimp only at hSw); go_simp; try with_reducible rfl
          go_simp
          refine wpAnyH_take (i := 33) (v := ?_) rfl (by kernel_rfl) (by kernel_rfl) (by kernel_rfl) (fun _ _ _ h => h) (Or.inl ⟨by rfl, ?_⟩) (by assumption) ?_
          rotate_left
          · intro w hSw; (try dsimp only at hSw); go_simp; try with_reducible rfl
          go_simp
          refine wpAnyH_take (i := 34) (v := ?_) rfl (by kernel_rfl) (by kernel_rfl) (by kernel_rfl) (fun _ _ _ h => h) (Or.inl ⟨by rfl, ?_⟩) (by assumption) ?_
          rotate_left
          · intro w hSw; (try dsimp only at hSw); go_simp; try with_reducible rfl
          go_simp
          refine wpAnyH_take (i := 35) (v := ?_) rfl (by kernel_rfl) (by kernel_rfl) (by kernel_rfl) (fun _ _ _ h => h) (Or.inl ⟨by rfl, ?_⟩) (by assumption) ?_
          rotate_left
          · intro w hSw; (try dsimp only at hSw); go_simp; try with_reducible rfl
          go_simp
          refine wpAnyH_take (i := 36) (v := ?_) rfl (by kernel_rfl) (by kernel_rfl) (by kernel_rfl) (fun _ _ _ h => h) (Or.inl ⟨by rfl, ?_⟩) (by assumption) ?_
          rotate_left
          · intro w hSw; (try dsimp only at hSw); go_simp; try with_reducible rfl
          go_simp
          refine wpAnyH_take (i := 37) (v := ?_) rfl (by kernel_rfl) (by kernel_rfl) (by kernel_rfl) (fun _ _ _ h => h) (Or.inl ⟨by rfl, ?_⟩) (by assumption) ?_
          rotate_left
          · intro w hSw; (try dsimp only at hSw); go_simp; try with_reducible rfl
          go_simp
          refine wpAnyH_done (by kernel_rfl) ?_ _
          go_wp2_with fail
          refine ⟨⟨j + 1, by omega, by go_num, HM⟩, ?_⟩
          simp [intOf]; omega
    · have hltI : ¬ (j : Int) < (n : Int) := by omega
      obtain rfl : j = n := by omega
      obtain ⟨ds, hq⟩ := HK.out
      have HQ := Lib.hid hq
      have HKW := Lib.hid (known_any wr)
      clear HK hq HKN
      go_wp2_with fail
      go_at_call 12
      refine HKW.out.mono ?_
      rintro e w5 ⟨rfl, hb5⟩
      have HB5 := Lib.hid hb5
      clear hb5
      go_wp2_with fail
      go_ret
      exact ⟨rfl, HQ.out.1.bel.trans (HB5.out.mono HQ.out.1.bel.size)⟩
end Go.Proofs.Ytlaopkkfgkcejaa.Qu
