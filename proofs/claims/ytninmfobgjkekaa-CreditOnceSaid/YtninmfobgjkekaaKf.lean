/- CreditOnce: the walk. Conditions: the calls' row is an argument's. -/
import Derived.Test.YtninmfobgjkekaaKe
set_option linter.unusedSimpArgs false
set_option linter.unusedVariables false
namespace Go.Proofs.Ytninmfobgjkekaa.Cr
open Go Go.RowKit Go.Proofs.Ytninmfobgjkekaa Go.Proofs.Ytninmfobgjkekaa.Cg

set_option maxRecDepth 100000 in
set_option maxHeartbeats 16000000 in
theorem once_walk (a0 : Int) (A : Option Addr) (n cap : Nat) (zs : List Int) (w : World) (ha : -9223372036854775808 ≤ a0) (ha' : a0 ≤ 9223372036854775807) (hr : IsRows w A cap n 2 zs) :
    Calls Try.prog 6 #[.int .i64 a0, .slice A n cap] w fun e w' => e = .returned (.bool true) ∧ Below w.heap.size w w' := by
  have HR := Lib.hid hr
  have hncap := hr.cap
  have hnI : (n : Int) ≤ 17592186044416 := by have := hr.reach; omega
  have hncI : (n : Int) ≤ (cap : Int) := by omega
  clear hr
  obtain ⟨S, hS, hS1⟩ : ∃ x : Nat, a0 % 300 = (x : Int) ∧ x < 300 := ⟨(a0 % 300).toNat, by omega, by omega⟩
  have hSI : (S : Int) < 300 := by omega
  have HP0 := Lib.hid (fun W => pick_any a0 300 W (by decide) (by decide))
  rw [hS] at HP0
  obtain ⟨rm, hrm⟩ : ∃ x : Int, 1 + (S : Int) = x := ⟨_, rfl⟩
  have hrm1 : 1 ≤ rm := by omega
  have hrm2 : rm ≤ 300 := by omega
  have HNG := Lib.hid (fun W => newgrant_any W rm)
  rw [show roomF rm = rm by unfold roomF; omega] at HNG
  clear hS
  go_enter Try.func6, Try.ntmps6
  go_wp2_with fail
  refine (HP0.out _).mono ?_; rintro e w' ⟨rfl, rfl⟩
  go_upto_region 2 with (fail)
  obtain ⟨w2, hw2⟩ : ∃ x, w.alloc (.cells #[.int .i64 (S : Int), .int .i64 0] 23) = x := ⟨_, rfl⟩
  have h2 := SC.new w 23 (S : Int) 0
  have hb2 := (Below.refl w.heap.size w).alloc (Nat.le_refl _) (.cells #[.int .i64 (S : Int), .int .i64 0] 23)
  obtain ⟨p, hp⟩ : ∃ x, w.heap.size = x := ⟨_, rfl⟩
  rw [hw2] at h2 hb2
  have HB2 := Lib.hid hb2
  have H2 := Lib.hid h2
  have HP := Lib.hid hp
  rw [hp] at H2
  rw [hw2, hp]
  clear hw2 h2 hb2 hp
  go_wp2_with fail
  refine (HP0.out _).mono ?_; rintro e w' ⟨rfl, rfl⟩
  go_wp2_with fail
  refine (HNG.out _).mono ?_; rintro e w4 ⟨rfl, hb4⟩
  go_upto_region 3 with (fail)
  obtain ⟨w5, hw5⟩ : ∃ x, w4.alloc (.cells #[.int .i64 rm, .int .i64 0, .int .i64 rm] 26) = x := ⟨_, rfl⟩
  obtain ⟨g, hg⟩ : ∃ x, w4.heap.size = x := ⟨_, rfl⟩
  have HK0 : Hid (Both w w5 p g (S : Int) 0 rm 0 (0 + rm)) := by
    have h4 := H2.out.below hb4 H2.out.lt
    have hpg : p < g := hg ▸ h4.lt
    have hb5 : Below g w4 w5 := by rw [← hw5, ← hg]; exact (Below.refl _ _).alloc (Nat.le_refl _) _
    have hpw := HP.out
    refine ⟨h4.below hb5 hpg, ⟨Int.le_refl _, by omega, by omega⟩, ?_, by omega, by omega, by omega, ?_⟩
    · rw [Int.zero_add, ← hg, ← hw5]
      exact SG.new w4 _ rm 0 rm
    · exact (HB2.out.trans (hb4.mono (by have := HB2.out.size; omega))).trans (hb5.mono (by omega))
  rw [hw5, hg]
  clear hw5 hg hb4 H2 HB2 HP HP0 HNG w4
  go_wp2_with fail
  go_loopw [21] (fun i wr => ∃ (j : Nat), j ≤ n ∧ i = .int .i64 (j : Int) ∧ Hid (∃ l u rd, Both w wr p g l u rm rd (rd + rm) ∧ 0 ≤ rd ∧ rd ≤ 400 * (j : Int))) (fun i _ => n - (intOf i).toNat)
  case atStart => exact ⟨0, Nat.zero_le _, rfl, _, _, _, HK0.out, Int.le_refl _, Int.le_refl _⟩
  case round =>
    clear HK0
    obtain ⟨j, hj, rfl, HK⟩ := hrel
    obtain ⟨l, u, rd, hk, hrd0, hrd1⟩ := HK.out
    clear HK
    by_cases hjn : j < n
    · have hjnI : (j : Int) < (n : Int) := by omega
      obtain ⟨b, off, hA, hbn, hcs⟩ := HR.out.rd.2 (by omega)
      subst hA
      have hzl := HR.out.len
      have hrd : ∀ q v, q < n * 2 → zs.getD q 0 = v → wr.cell? ⟨b, off + q, none⟩ = some (.int .i64 v) := fun q v hq hv => by
        rw [hk.be.cell (p := ⟨b, off + q, none⟩) hbn, hcs q _ (ints_get zs q (by omega)), hv]
      obtain ⟨x0, hx0⟩ : ∃ v, Hid (zs.getD (j * 2) 0 = v) := ⟨_, rfl⟩
      obtain ⟨x1, hx1⟩ : ∃ v, Hid (zs.getD (j * 2 + 1) 0 = v) := ⟨_, rfl⟩
      have cx0 := hrd (j * 2) x0 (by omega) hx0.out
      have cx1 : wr.cell? ⟨b, off + j * 2 + 1, none⟩ = some (.int .i64 x1) := hrd (j * 2 + 1) x1 (by omega) hx1.out
      have H1 := Lib.hid hk
      have HRD := Lib.hid (And.intro hrd0 hrd1)
      clear hcs hrd hx0 hx1 hk hzl hrd0 hrd1
      go_upto_region 6 with (fail)
      obtain ⟨q1, hq1⟩ : ∃ x, wr.heap.size = x := ⟨_, rfl⟩
      obtain ⟨w1, hw1⟩ : ∃ x, wr.alloc (.cells #[.int .i64 x0, .int .i64 x1] 40) = x := ⟨_, rfl⟩
      have hb1 : Below q1 wr w1 := by rw [← hw1, ← hq1]; exact (Below.refl _ _).alloc (Nat.le_refl _) _
      have hr1 := RawIn.new wr x0 x1
      have h1 := H1.out.below hb1 (Nat.le_of_eq hq1)
      have hpq : p < q1 := hq1 ▸ H1.out.a.lt
      have hgq : g < q1 := hq1 ▸ H1.out.b.lt
      rw [hw1, hq1] at hr1
      rw [hw1, hq1]
      clear hw1 hq1 hb1 cx0 cx1 H1 wr
      obtain ⟨r0, r1⟩ := hr1.cell
      obtain ⟨N, hN, hN4⟩ : ∃ x : Nat, x1 % 400 = (x : Int) ∧ x < 400 := ⟨(x1 % 400).toNat, by omega, by omega⟩
      obtain ⟨M, hM, hM3⟩ : ∃ x : Nat, x0 % 3 = (x : Int) ∧ x < 3 := ⟨(x0 % 3).toNat, by omega, by omega⟩
      have HP1 := Lib.hid (fun W => pick_any x1 400 W (by decide) (by decide))
      have HP0 := Lib.hid (fun W => pick_any x0 3 W (by decide) (by decide))
      rw [hN] at HP1
      rw [hM] at HP0
      have hNI : (N : Int) < 400 := by omega
      have hMI : (M : Int) < 3 := by omega
      obtain ⟨hc0, hc1, -⟩ := h1.a.cell
      obtain ⟨-, -, hg2, -⟩ := h1.b.cell
      have H1 := Lib.hid h1
      have HR1 := Lib.hid hr1
      clear h1 hr1 hN hM
      go_wp2_with fail
      refine (HP1.out _).mono ?_; rintro e w' ⟨rfl, rfl⟩
      go_upto_region 8 with (fail)
      obtain ⟨q2, hq2⟩ : ∃ x, w1.heap.size = x := ⟨_, rfl⟩
      obtain ⟨w2, hw2⟩ : ∃ x, w1.alloc (.cells #[.int .i64 l, .int .i64 u] 23) = x := ⟨_, rfl⟩
      have hb2 : Below q2 w1 w2 := by rw [← hw2, ← hq2]; exact (Below.refl _ _).alloc (Nat.le_refl _) _
      have hs2 := SC.new w1 23 l u
      have h2 := H1.out.below hb2 (Nat.le_of_eq hq2)
      have hqq : q1 < q2 := hq2 ▸ HR1.out.lt
      have hr2 := HR1.out.below hb2 hqq
      rw [hw2, hq2] at hs2
      rw [hw2, hq2]
      clear hw2 hq2 hb2 H1 HR1 r0 r1 hc0 hc1 hg2 HP1 w1
      obtain ⟨r0, r1⟩ := hr2.cell
      obtain ⟨-, -, hg2, -⟩ := h2.b.cell
      have H2 := Lib.hid h2
      have HS2 := Lib.hid hs2
      clear h2 hs2 hr2
      go_upto_block 2 with (go_at_call 15; refine (HP0.out _).mono ?_; rintro e w' ⟨rfl, rfl⟩)
      go_cut [11] (fun v wx => v = .int .i64 (rd + rm) ∧ Hid (∃ l' u' rd', Both w wx p g l' u' rm rd' (rd' + rm) ∧ SC wx q2 23 l u ∧ rd ≤ rd' ∧ rd' ≤ rd + 400 ∧ l ≤ l'))
      case first =>
        rcases (show M = 0 ∨ M = 1 ∨ M = 2 by omega) with hM | hM | hM
        · subst hM
          have HB : Hid (Calls Try.prog 7 #[.pointer (some ⟨p, 0, none⟩), .int .i64 (N : Int)] w2.drew fun e w' => e = .returned (.bool (decide ((N : Int) ≤ l - u))) ∧ ∃ u', SC w' p 23 l u' ∧ OkC l u' ∧ w2.drew.grownBy w' (some p)) := by
            refine (use_sc (H2.out.drewN 1).a H2.out.ok (N : Int)).mono ?_
            rintro e w' ⟨rfl, h1, h2⟩
            refine ⟨?_, _, h1, H2.out.ok.use _, h2⟩
            have : useB l u (N : Int) = decide ((N : Int) ≤ l - u) := by unfold useB; rw [H2.out.ok.left]; congr 1; exact propext ⟨fun h => h.2, fun h => ⟨by omega, h⟩⟩
            rw [this]
          have hlu : l - u ≤ 4611686018427387903 ∧ 0 ≤ l - u := by have := H2.out.ok; obtain ⟨_, _, _⟩ := this; omega
          obtain ⟨d, hd⟩ : ∃ d, l - u = d := ⟨_, rfl⟩
          have hw : IntKind.i64.wrap (l - u) = d := by rw [hd]; exact IntWalk.i64_in _ (by omega)
          rw [hd] at HB
          clear hd
          go_wp2_with fail
          refine wp_region_held_drew (S := fun W => W.cell? ⟨q2, 0, none⟩ = some (.int .i64 l) ∧ W.cell? ⟨q2, 1, none⟩ = some (.int .i64 u)) (by kernel_rfl) ?_ (fun hHeld => ?_)
          · exact ⟨HS2.out.cell.1, HS2.out.cell.2.1⟩
          refine wpAnyH_take (i := 0) (v := ?_) rfl (by kernel_rfl) (by kernel_rfl) (by kernel_rfl) (fun _ _ _ h => h) (Or.inl ⟨by rfl, ?_⟩) (by assumption) ?_
          rotate_left
          · intro w hSw; (try dsimp only at hSw); go_simp; try with_reducible rfl
          go_simp
          refine wpAnyH_take (i := 2) (v := ?_) rfl (by kernel_rfl) (by kernel_rfl) (by kernel_rfl) (fun _ _ _ h => h) (Or.inl ⟨by rfl, ?_⟩) (by assumption) ?_
          rotate_left
          · intro w hSw; (try dsimp only at hSw); go_simp; try with_reducible rfl
          go_simp
          refine wpAnyH_take (i := 3) (v := ?_) rfl (by kernel_rfl) (by kernel_rfl) (by kernel_rfl) (fun _ _ _ h => h) (Or.inl ⟨by rfl, ?_⟩) (by assumption) ?_
          rotate_left
          · intro w hSw; (try dsimp only at hSw); go_simp; try with_reducible rfl
          go_simp
          refine wpAnyH_take (i := 4) (v := ?_) rfl (by kernel_rfl) (by kernel_rfl) (by kernel_rfl) (fun _ _ _ h => h) (Or.inl ⟨by rfl, ?_⟩) (by assumption) ?_
          rotate_left
          · intro w hSw; (try dsimp only at hSw); go_simp; try with_reducible rfl
          go_simp
          refine wpAnyH_take (i := 5) (v := ?_) rfl (by kernel_rfl) (by kernel_rfl) (by kernel_rfl) (fun _ _ _ h => h) (Or.inl ⟨by rfl, ?_⟩) (by assumption) ?_
          rotate_left
          · intro w hSw; (try dsimp only at hSw); go_simp; try with_reducible rfl
          go_simp
          refine wpAnyH_take (i := 6) (v := ?_) rfl (by kernel_rfl) (by kernel_rfl) (by kernel_rfl) (fun _ _ _ h => h) (Or.inl ⟨by rfl, ?_⟩) (by assumption) ?_
          rotate_left
          · intro w hSw; (try dsimp only at hSw); go_simp; try with_reducible rfl
          go_simp
          refine wpAnyH_take (i := 7) (v := ?_) rfl (by kernel_rfl) (by kernel_rfl) (by kernel_rfl) (fun _ _ _ h => h) (Or.inl ⟨by rfl, ?_⟩) (by assumption) ?_
          rotate_left
          · intro w hSw; (try dsimp only at hSw); go_simp; try with_reducible rfl
          go_simp
          refine wpAnyH_take (i := 8) (v := ?_) rfl (by kernel_rfl) (by kernel_rfl) (by kernel_rfl) (fun _ _ _ h => h) (Or.inl ⟨by rfl, ?_⟩) (by assumption) ?_
          rotate_left
          · intro w hSw; (try dsimp only at hSw); go_simp; try with_reducible rfl
          go_simp
          refine wpAnyH_ready (rs := [1]) (by kernel_rfl) (by simp) ?_
          refine AllReadyH.cons rfl (fun K hK => ?_) AllReadyH.nil
          go_simp
          refine HB.out.mono ?_
          rintro e w3 ⟨rfl, x', h3, hok3, g3⟩
          have HS3 := Lib.hid ((HS2.out.drewN 1).kept g3 (by omega))
          have H3 := Lib.hid ((H2.out.drewN 1).cred h3 g3 hok3)
          clear h3 g3 hok3
          refine hK.out _ _ ?_ (fun hHeld => ?_)
          · exact ⟨HS3.out.cell.1, HS3.out.cell.2.1⟩
          clear hK K
          go_simp
          refine wpAnyH_take (i := 9) (v := ?_) rfl (by kernel_rfl) (by kernel_rfl) (by kernel_rfl) (fun _ _ _ h => h) (Or.inl ⟨by rfl, ?_⟩) (by assumption) ?_
          rotate_left
          · intro w hSw; (try dsimp only at hSw); go_simp; try with_reducible rfl
          go_simp
          refine wpAnyH_done (by kernel_rfl) ?_ _
          go_wp2_with fail
          go_meet
          case rel => exact ⟨rfl, l, x', rd, H3.out, HS3.out, Int.le_refl _, by omega, Int.le_refl _⟩
        · subst hM
          have HB : Hid (Calls Try.prog 8 #[.pointer (some ⟨p, 0, none⟩), .int .i64 (N : Int)] w2.drew fun e w' => e = .returned (.bool (decide (l < (N : Int)))) ∧ ∃ l', (SC w' p 23 l' u ∧ l ≤ l') ∧ OkC l' u ∧ w2.drew.grownBy w' (some p)) := by
            refine (raise_sc (H2.out.drewN 1).a (N : Int)).mono ?_
            rintro e w' ⟨rfl, h1, h2⟩
            refine ⟨?_, _, ⟨h1, ?_⟩, H2.out.ok.raise _, h2⟩
            · have : raiseB l (N : Int) = decide (l < (N : Int)) := by unfold raiseB; congr 1; exact propext ⟨fun h => h.1, fun h => ⟨h, by omega⟩⟩
              rw [this]
            · split
              · rename_i hu
                obtain ⟨hu1, _⟩ : l < (N : Int) ∧ (N : Int) ≤ 4611686018427387903 := of_decide_eq_true hu
                omega
              · exact Int.le_refl _
          go_wp2_with fail
          refine wp_region_held_drew (S := fun W => W.cell? ⟨q2, 0, none⟩ = some (.int .i64 l) ∧ W.cell? ⟨q2, 1, none⟩ = some (.int .i64 u)) (by kernel_rfl) ?_ (fun hHeld => ?_)
          · exact ⟨HS2.out.cell.1, HS2.out.cell.2.1⟩
          refine wpAnyH_take (i := 0) (v := ?_) rfl (by kernel_rfl) (by kernel_rfl) (by kernel_rfl) (fun _ _ _ h => h) (Or.inl ⟨by rfl, ?_⟩) (by assumption) ?_
          rotate_left
          · intro w hSw; (try dsimp only at hSw); go_simp; try with_reducible rfl
          go_simp
          refine wpAnyH_take (i := 2) (v := ?_) rfl (by kernel_rfl) (by kernel_rfl) (by kernel_rfl) (fun _ _ _ h => h) (Or.inl ⟨by rfl, ?_⟩) (by assumption) ?_
          rotate_left
          · intro w hSw; (try dsimp only at hSw); go_simp; try with_reducible rfl
          go_simp
          refine wpAnyH_take (i := 3) (v := ?_) rfl (by kernel_rfl) (by kernel_rfl) (by kernel_rfl) (fun _ _ _ h => h) (Or.inl ⟨by rfl, ?_⟩) (by assumption) ?_
          rotate_left
          · intro w hSw; (try dsimp only at hSw); go_simp; try with_reducible rfl
          go_simp
          refine wpAnyH_take (i := 4) (v := ?_) rfl (by kernel_rfl) (by kernel_rfl) (by kernel_rfl) (fun _ _ _ h => h) (Or.inl ⟨by rfl, ?_⟩) (by assumption) ?_
          rotate_left
          · intro w hSw; (try dsimp only at hSw); go_simp; try with_reducible rfl
          go_simp
          refine wpAnyH_take (i := 5) (v := ?_) rfl (by kernel_rfl) (by kernel_rfl) (by kernel_rfl) (fun _ _ _ h => h) (Or.inl ⟨by rfl, ?_⟩) (by assumption) ?_
          rotate_left
          · intro w hSw; (try dsimp only at hSw); go_simp; try with_reducible rfl
          go_simp
          refine wpAnyH_ready (rs := [1]) (by kernel_rfl) (by simp) ?_
          refine AllReadyH.cons rfl (fun K hK => ?_) AllReadyH.nil
          go_simp
          refine HB.out.mono ?_
          rintro e w3 ⟨rfl, x', ⟨h3, hle⟩, hok3, g3⟩
          have HS3 := Lib.hid ((HS2.out.drewN 1).kept g3 (by omega))
          have H3 := Lib.hid ((H2.out.drewN 1).cred h3 g3 hok3)
          have HLE := Lib.hid hle
          clear hle h3 g3 hok3
          refine hK.out _ _ ?_ (fun hHeld => ?_)
          · exact ⟨HS3.out.cell.1, HS3.out.cell.2.1⟩
          clear hK K
          go_simp
          refine wpAnyH_take (i := 6) (v := ?_) rfl (by kernel_rfl) (by kernel_rfl) (by kernel_rfl) (fun _ _ _ h => h) (Or.inl ⟨by rfl, ?_⟩) (by assumption) ?_
          rotate_left
          · intro w hSw; (try dsimp only at hSw); go_simp; try with_reducible rfl
          go_simp
          refine wpAnyH_done (by kernel_rfl) ?_ _
          go_wp2_with fail
          go_meet
          case rel => exact ⟨rfl, x', u, rd, H3.out, HS3.out, Int.le_refl _, by omega, HLE.out⟩
        · subst hM
          have HE := Lib.hid (eat_sg H2.out.b ⟨by have := HRD.out; omega, by have := HRD.out; omega⟩ (N : Int))
          rw [show eatF (N : Int) = (N : Int) by unfold eatF; omega] at HE
          go_wp2_with fail
          refine HE.out.mono ?_
          rintro e w3 ⟨rfl, h3, g3⟩
          have HS3 := Lib.hid (HS2.out.kept g3 (by omega))
          have H3 := Lib.hid (H2.out.grant h3 g3)
          clear h3 g3 HE
          have HT := Lib.hid (tell_sg H3.out.b (by have := HRD.out; omega) (by omega) (by have := HRD.out; omega))
          rw [show max (rd + rm) (rd + (N : Int) + rm) = rd + (N : Int) + rm by omega] at HT
          go_wp2_with fail
          refine HT.out.mono ?_
          rintro e w4 ⟨rfl, h4, g4⟩
          have HS4 := Lib.hid (HS3.out.kept g4 (by omega))
          have H4 := Lib.hid (H3.out.grant h4 g4)
          clear h4 g4 HT
          obtain ⟨d0, d1, d2, -⟩ := H4.out.b.cell
          have hb0 := HRD.out
          have hnl : ¬ rd + (N : Int) + rm < rd + rm := by omega
          have hbd : rd + (N : Int) + rm ≤ 9223372036854775807 := by omega
          have hbd0 : 0 ≤ rd + (N : Int) + rm := by omega
          go_wp2_with fail
          go_meet
          case rel => exact ⟨rfl, l, u, rd + (N : Int), H4.out, HS4.out, by omega, by omega, Int.le_refl _⟩
      case rest =>
        obtain ⟨rfl, HK⟩ := hcut
        obtain ⟨l', u', rd', hk, hs, hr0, hr1, hll⟩ := HK.out
        clear H2 HS2 HP0 r0 r1 hg2
        have HL := Lib.hid (fun m => left_sc (hk.a.drewN m) hk.ok)
        obtain ⟨c0, c1, -⟩ := hk.a.cell
        obtain ⟨-, -, g2, -⟩ := hk.b.cell
        obtain ⟨s0, s1, -⟩ := hs.cell
        obtain ⟨ok0, ok1, ok2⟩ := hk.ok
        obtain ⟨d, hd⟩ : ∃ d, l' - u' = d := ⟨_, rfl⟩
        have hw : IntKind.i64.wrap (l' - u') = d := by rw [hd]; exact IntWalk.i64_in _ (by omega)
        rw [hd] at HL
        obtain ⟨tn, htn⟩ : ∃ d, rd' + rm = d := ⟨_, rfl⟩
        obtain ⟨tu, htu⟩ : ∃ d, rd + rm = d := ⟨_, rfl⟩
        rw [htn] at g2
        rw [htu]
        have hRD := HRD.out
        have e1 : decide (l' < l) = false := decide_eq_false (by omega)
        have e2 : decide (l' < u') = false := decide_eq_false (by omega)
        have e3 : decide (tn < tu) = false := decide_eq_false (by omega)
        have e4 : decide (4611686018427387903 < tn) = false := decide_eq_false (by omega)
        have HKJ : Hid (∀ q, ∃ l u rd, Both w (wc.drewN q) p g l u rm rd (rd + rm) ∧ 0 ≤ rd ∧ rd ≤ 400 * ((j + 1 : Nat) : Int)) := fun q => ⟨l', u', rd', hk.drewN q, by omega, by omega⟩
        clear hd htn htu hr0 hr1 hll hRD HRD HK hk hs ok0 ok1 ok2
        go_upto_region 19 with (fail)
        go_quiet ((go_at_call 13; exact Calls.quiet_of (HL.out _)))
        go_wp2_with fail
        go_roundw
        case rel => exact ⟨j + 1, by omega, by go_num, HKJ.out _⟩
        case measure => simp [intOf]; omega
    · obtain rfl : j = n := by omega
      have HBE := Lib.hid (And.intro hk.be (Nat.le_of_lt (Nat.lt_of_le_of_lt hk.lo hk.a.lt)))
      clear hk
      go_wp2_with fail
      refine (CrKn.known_any wr).mono ?_; rintro e w6 ⟨rfl, hb6⟩
      have HBF := Lib.hid (HBE.out.1.trans (hb6.mono HBE.out.2))
      clear hb6 HBE
      go_wp2_with fail
      go_ret
      exact ⟨rfl, HBF.out⟩
end Go.Proofs.Ytninmfobgjkekaa.Cr
