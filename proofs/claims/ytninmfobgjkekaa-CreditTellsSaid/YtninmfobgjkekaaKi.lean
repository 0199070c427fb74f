/- CreditTells: the walk. Conditions: the calls' row is an argument's. -/
import Derived.Test.YtninmfobgjkekaaKh
set_option linter.unusedSimpArgs false
set_option linter.unusedVariables false
namespace Go.Proofs.Ytninmfobgjkekaa.Cr
open Go Go.RowKit Go.Proofs.Ytninmfobgjkekaa Go.Proofs.Ytninmfobgjkekaa.Cg

set_option maxRecDepth 100000 in
set_option maxHeartbeats 16000000 in
theorem tells_walk (a0 a1 : Int) (A : Option Addr) (n cap : Nat) (zs : List Int) (w : World) (ha : -9223372036854775808 ≤ a0) (ha' : a0 ≤ 9223372036854775807) (hb : -9223372036854775808 ≤ a1) (hb' : a1 ≤ 9223372036854775807) (hr : IsRows w A cap n 2 zs) :
    Calls Try.prog 4 #[.int .i64 a0, .int .i64 a1, .slice A n cap] w fun e w' => e = .returned (.bool true) ∧ Below w.heap.size w w' := by
  have HR := Lib.hid hr
  have hncap := hr.cap
  have hnI : (n : Int) ≤ 8796093021952 := by have := hr.reach; omega
  have hncI : (n : Int) ≤ (cap : Int) := by omega
  clear hr
  obtain ⟨S, hS, hS1⟩ : ∃ x : Nat, a0 % 500 = (x : Int) ∧ x < 500 := ⟨(a0 % 500).toNat, by omega, by omega⟩
  have HP0 := Lib.hid (fun W => pick_any a0 500 W (by decide) (by decide))
  rw [hS] at HP0
  have hSI : (S : Int) < 500 := by omega
  obtain ⟨z, HZ⟩ := num12_any a1 hb hb'
  have HZ := Lib.hid HZ
  obtain ⟨rm, hrm⟩ : ∃ x : Int, roomF z = x := ⟨_, rfl⟩
  have hrm12 := roomF_in z
  have HNG := Lib.hid (fun W => newgrant_any W z)
  have HNR := Lib.hid (fun W => rnewgrant_any W z)
  rw [hrm] at HNG HNR hrm12
  obtain ⟨hrm1, hrm2⟩ := hrm12
  clear hS hrm
  go_enter Try.func4, Try.ntmps4
  go_wp2_with fail
  refine (HP0.out _).mono ?_; rintro e w' ⟨rfl, rfl⟩
  go_upto_region 2 with (fail)
  obtain ⟨w1, hw1⟩ : ∃ x, w.alloc (.cells #[.int .i64 (S : Int), .int .i64 0] 23) = x := ⟨_, rfl⟩
  obtain ⟨p1, hp1⟩ : ∃ x, w.heap.size = x := ⟨_, rfl⟩
  have H1 : Hid (SC w1 p1 23 (S : Int) 0 ∧ w.heap.size = p1 ∧ Below w.heap.size w w1) := by
    refine ⟨?_, hp1, ?_⟩
    · rw [← hw1, ← hp1]; exact SC.new w _ _ 0
    · rw [← hw1]; exact (Below.refl _ _).alloc (Nat.le_refl _) _
  rw [hw1, hp1]
  clear hw1 hp1
  obtain ⟨c0, -, -⟩ := H1.out.1.cell
  go_upto_region 3 with (fail)
  obtain ⟨w2, hw2⟩ : ∃ x, w1.alloc (.cells #[.int .i64 (S : Int), .int .i64 0] 35) = x := ⟨_, rfl⟩
  obtain ⟨p2, hp2⟩ : ∃ x, w1.heap.size = x := ⟨_, rfl⟩
  have H2 : Hid (SC w2 p1 23 (S : Int) 0 ∧ SC w2 p2 35 (S : Int) 0 ∧ w.heap.size = p1 ∧ p1 < p2 ∧ Below w.heap.size w w2) := by
    obtain ⟨h1, hq, hb1⟩ := H1.out
    have hb2 : Below p2 w1 w2 := by rw [← hw2, ← hp2]; exact (Below.refl _ _).alloc (Nat.le_refl _) _
    have h12 : p1 < p2 := hp2 ▸ h1.lt
    refine ⟨h1.below hb2 h12, ?_, hq, h12, hb1.trans (hb2.mono (by omega))⟩
    rw [← hw2, ← hp2]
    exact SC.new w1 _ _ 0
  rw [hw2, hp2]
  clear hw2 hp2 c0 H1 HP0 w1
  go_wp2_with fail
  refine (HZ.out _).mono ?_; rintro e w' ⟨rfl, rfl⟩
  go_wp2_with fail
  refine (HNG.out _).mono ?_; rintro e w3 ⟨rfl, hb3⟩
  have H3 : Hid (SC w3 p1 23 (S : Int) 0 ∧ SC w3 p2 35 (S : Int) 0 ∧ w.heap.size = p1 ∧ p1 < p2 ∧ Below w.heap.size w w3) := by
    obtain ⟨h1, h2, hq, h12, hb2⟩ := H2.out
    exact ⟨h1.below hb3 h1.lt, h2.below hb3 h2.lt, hq, h12, hb2.trans (hb3.mono (by have := h1.lt; omega))⟩
  clear H2 hb3 HNG
  go_upto_region 4 with (fail)
  obtain ⟨w4, hw4⟩ : ∃ x, w3.alloc (.cells #[.int .i64 rm, .int .i64 0, .int .i64 rm] 26) = x := ⟨_, rfl⟩
  obtain ⟨p3, hp3⟩ : ∃ x, w3.heap.size = x := ⟨_, rfl⟩
  have H4 : Hid (SC w4 p1 23 (S : Int) 0 ∧ SC w4 p2 35 (S : Int) 0 ∧ SG w4 p3 26 rm 0 rm ∧ w.heap.size = p1 ∧ p1 < p2 ∧ p2 < p3 ∧ Below w.heap.size w w4) := by
    obtain ⟨h1, h2, hq, h12, hb3⟩ := H3.out
    have hb4 : Below p3 w3 w4 := by rw [← hw4, ← hp3]; exact (Below.refl _ _).alloc (Nat.le_refl _) _
    have h23 : p2 < p3 := hp3 ▸ h2.lt
    refine ⟨h1.below hb4 (by omega), h2.below hb4 h23, ?_, hq, h12, h23, hb3.trans (hb4.mono (by omega))⟩
    rw [← hw4, ← hp3]
    exact SG.new w3 _ rm 0 rm
  rw [hw4, hp3]
  clear hw4 hp3 H3 w3
  go_wp2_with fail
  refine (HZ.out _).mono ?_; rintro e w' ⟨rfl, rfl⟩
  go_wp2_with fail
  refine (HNR.out _).mono ?_; rintro e w5 ⟨rfl, hb5⟩
  go_upto_region 5 with (fail)
  obtain ⟨w6, hw6⟩ : ∃ x, w5.alloc (.cells #[.int .i64 rm, .int .i64 0, .int .i64 rm] 37) = x := ⟨_, rfl⟩
  obtain ⟨p4, hp4⟩ : ∃ x, w5.heap.size = x := ⟨_, rfl⟩
  have HK0 : Hid (Four w w6 p1 p2 p3 p4 (S : Int) 0 rm 0 rm) := by
    obtain ⟨h1, h2, h3, hq, h12, h23, hb4⟩ := H4.out
    have hb6 : Below p4 w5 w6 := by rw [← hw6, ← hp4]; exact (Below.refl _ _).alloc (Nat.le_refl _) _
    have k1 := h1.below hb5 h1.lt
    have k2 := h2.below hb5 h2.lt
    have k3 := h3.below hb5 h3.lt
    have h34 : p3 < p4 := hp4 ▸ k3.lt
    refine ⟨k1.below hb6 (by omega), k2.below hb6 (by omega), k3.below hb6 h34, ?_, ⟨Int.le_refl _, by omega, by omega⟩, by omega, h12, h23, h34, (hb4.trans (hb5.mono (by have := h1.lt; omega))).trans (hb6.mono (by omega)), ⟨hrm1, hrm2⟩, Int.le_refl _, by omega, by omega⟩
    rw [← hw6, ← hp4]
    exact SG.new w5 _ rm 0 rm
  rw [hw6, hp4]
  clear hw6 hp4 hb5 H4 HNR HZ w4 w5
  go_wp2_with fail
  go_loopw [32] (fun i wr => ∃ (j : Nat), j ≤ n ∧ i = .int .i64 (j : Int) ∧ Hid (∃ l u rd tl, Four w wr p1 p2 p3 p4 l u rm rd tl ∧ rd ≤ 1048576 * (j : Int))) (fun i _ => n - (intOf i).toNat)
  case atStart => exact ⟨0, Nat.zero_le _, rfl, _, _, _, _, HK0.out, Int.le_refl _⟩
  case round =>
    clear HK0
    obtain ⟨j, hj, rfl, HK⟩ := hrel
    obtain ⟨l, u, rd, tl, hk, hrdB⟩ := HK.out
    clear HK
    by_cases hjn : j < n
    · have hjnI : (j : Int) < (n : Int) := by omega
      obtain ⟨B, hB⟩ : ∃ B, 1048576 * (j : Int) = B := ⟨_, rfl⟩
      have HBJ : Hid (1048576 * ((j + 1 : Nat) : Int) = B + 1048576) := by show _ = _; omega
      have hBm : B ≤ 9223372036585291776 := by omega
      rw [hB] at hrdB
      clear hB
      obtain ⟨b, off, hA, hbn, hcs⟩ := HR.out.rd.2 (by omega)
      subst hA
      have hzl := HR.out.len
      have hrd : ∀ q v, q < n * 2 → zs.getD q 0 = v → wr.cell? ⟨b, off + q, none⟩ = some (.int .i64 v) := fun q v hq hv => by
        rw [hk.be.cell (p := ⟨b, off + q, none⟩) hbn, hcs q _ (ints_get zs q (by omega)), hv]
      obtain ⟨x0, hx0⟩ : ∃ v, Hid (zs.getD (j * 2) 0 = v) := ⟨_, rfl⟩
      obtain ⟨x1, hx1⟩ : ∃ v, Hid (zs.getD (j * 2 + 1) 0 = v) := ⟨_, rfl⟩
      have cx0 := hrd (j * 2) x0 (by omega) hx0.out
      have cx1 : wr.cell? ⟨b, off + j * 2 + 1, none⟩ = some (.int .i64 x1) := hrd (j * 2 + 1) x1 (by omega) hx1.out
      have hxb : -9223372036854775808 ≤ x1 ∧ x1 ≤ 9223372036854775807 := by
        rw [← hx1.out]
        exact HR.out.lt _ (by rw [List.getD_eq_getElem?_getD, List.getElem?_eq_getElem (show j * 2 + 1 < zs.length by omega)]; exact List.getElem_mem _)
      obtain ⟨N, HN⟩ := num12_any x1 hxb.1 hxb.2
      have HN := Lib.hid HN
      have H0 := Lib.hid hk
      clear hcs hrd hx0 hx1 hzl hxb hk
      go_upto_region 8 with (fail)
      obtain ⟨q1, hq1⟩ : ∃ x, wr.heap.size = x := ⟨_, rfl⟩
      obtain ⟨w1, hw1⟩ : ∃ x, wr.alloc (.cells #[.int .i64 x0, .int .i64 x1] 40) = x := ⟨_, rfl⟩
      have hb1 : Below q1 wr w1 := by rw [← hw1, ← hq1]; exact (Below.refl _ _).alloc (Nat.le_refl _) _
      have hr1 := RawIn.new wr x0 x1
      have H1 := Lib.hid (H0.out.below hb1 (Nat.le_of_eq hq1))
      rw [hw1, hq1] at hr1
      rw [hw1, hq1]
      clear hw1 hq1 hb1 cx0 cx1 H0 wr
      obtain ⟨r0, r1⟩ := hr1.cell
      obtain ⟨M, hM, hM3⟩ : ∃ x : Nat, x0 % 4 = (x : Int) ∧ x < 4 := ⟨(x0 % 4).toNat, by omega, by omega⟩
      have HP0 := Lib.hid (fun W => pick_any x0 4 W (by decide) (by decide))
      rw [hM] at HP0
      clear hr1 hM
      go_wp2_with fail
      refine (HN.out _).mono ?_; rintro e w' ⟨rfl, rfl⟩
      go_upto_block 2 with (go_at_call 15; refine (HP0.out _).mono ?_; rintro e w' ⟨rfl, rfl⟩)
      go_cut [13] (fun v wx => v = .int .i64 N ∧ Hid (∃ l u rd tl, Four w wx p1 p2 p3 p4 l u rm rd tl ∧ rd ≤ B + 1048576))
      case first =>
        have d0 := H1.out.d0
        have t0 := H1.out.t0
        have tr := H1.out.tr
        rcases (show M = 0 ∨ M = 1 ∨ M = 2 ∨ M = 3 by omega) with hM | hM | hM | hM
        · subst hM
          have HA := Lib.hid (use_sc H1.out.a H1.out.ok N)
          obtain ⟨ub, hub⟩ : ∃ x, useB l u N = x := ⟨_, rfl⟩
          have HOK := Lib.hid (H1.out.ok.use N)
          rw [hub] at HA HOK
          clear r0 r1
          go_wp2_with fail
          refine HA.out.mono ?_; rintro e w2 ⟨rfl, h2, g2⟩
          have HA2 := Lib.hid (ruse_sc (H1.out.a'.kept g2 (by have := H1.out.h12; omega)) H1.out.ok N)
          rw [hub] at HA2
          have H2 := Lib.hid (And.intro h2 g2)
          clear h2 g2 hub HA
          go_wp2_with fail
          refine HA2.out.mono ?_; rintro e w3 ⟨rfl, h3, g3⟩
          have HF := Lib.hid (H1.out.cred H2.out.1 H2.out.2 h3 g3 HOK.out)
          clear h3 g3 HA2 H2 HOK
          go_wp2_with fail
          go_meet
          case rel => exact ⟨rfl, _, _, _, _, HF.out, by omega⟩
        · subst hM
          have HA := Lib.hid (raise_sc H1.out.a N)
          obtain ⟨ub, hub⟩ : ∃ x, raiseB l N = x := ⟨_, rfl⟩
          have HOK := Lib.hid (H1.out.ok.raise N)
          rw [hub] at HA HOK
          clear r0 r1
          go_wp2_with fail
          refine HA.out.mono ?_; rintro e w2 ⟨rfl, h2, g2⟩
          have HA2 := Lib.hid (rraise_sc (H1.out.a'.kept g2 (by have := H1.out.h12; omega)) N)
          rw [hub] at HA2
          have H2 := Lib.hid (And.intro h2 g2)
          clear h2 g2 hub HA
          go_wp2_with fail
          refine HA2.out.mono ?_; rintro e w3 ⟨rfl, h3, g3⟩
          have HF := Lib.hid (H1.out.cred H2.out.1 H2.out.2 h3 g3 HOK.out)
          clear h3 g3 HA2 H2 HOK
          go_wp2_with fail
          go_meet
          case rel => exact ⟨rfl, _, _, _, _, HF.out, by omega⟩
        · subst hM
          have HA := Lib.hid (eat_sg H1.out.b ⟨d0, by omega⟩ N)
          have he := eatF_in N
          obtain ⟨ub, hub⟩ : ∃ x, eatF N = x := ⟨_, rfl⟩
          rw [hub] at HA he
          obtain ⟨he0, he1⟩ := he
          clear r0 r1
          go_wp2_with fail
          refine HA.out.mono ?_; rintro e w2 ⟨rfl, h2, g2⟩
          have HA2 := Lib.hid (reat_sg (H1.out.b'.kept g2 (by have := H1.out.h34; omega)) ⟨d0, by omega⟩ N)
          rw [hub] at HA2
          have H2 := Lib.hid (And.intro h2 g2)
          clear h2 g2 hub HA
          go_wp2_with fail
          refine HA2.out.mono ?_; rintro e w3 ⟨rfl, h3, g3⟩
          have HF := Lib.hid (H1.out.grant H2.out.1 H2.out.2 h3 g3 (by omega) t0 (by omega))
          clear h3 g3 HA2 H2
          go_wp2_with fail
          go_meet
          case rel => exact ⟨rfl, _, _, _, _, HF.out, by omega⟩
        · subst hM
          have HA := Lib.hid (tell_sg H1.out.b d0 (by omega) (by omega))
          have hm : tl ≤ max tl (rd + rm) ∧ max tl (rd + rm) ≤ rd + rm := by omega
          obtain ⟨mx, hmx⟩ : ∃ x, max tl (rd + rm) = x := ⟨_, rfl⟩
          rw [hmx] at HA hm
          obtain ⟨hm0, hm1⟩ := hm
          clear r0 r1
          go_wp2_with fail
          refine HA.out.mono ?_; rintro e w2 ⟨rfl, h2, g2⟩
          have HA2 := Lib.hid (rtell_sg (H1.out.b'.kept g2 (by have := H1.out.h34; omega)) d0 (by omega) (by omega))
          rw [hmx] at HA2
          have H2 := Lib.hid (And.intro h2 g2)
          clear h2 g2 hmx HA
          go_wp2_with fail
          refine HA2.out.mono ?_; rintro e w3 ⟨rfl, h3, g3⟩
          have HF := Lib.hid (H1.out.grant H2.out.1 H2.out.2 h3 g3 d0 (by omega) (by omega))
          clear h3 g3 HA2 H2
          go_wp2_with fail
          go_meet
          case rel => exact ⟨rfl, _, _, _, _, HF.out, by omega⟩
      case rest =>
        obtain ⟨rfl, HK⟩ := hcut
        clear H1 HP0 HN r0 r1 hrdB
        obtain ⟨l', u', rd', tl', hk, hrdB⟩ := HK.out
        clear HK
        have HD := Lib.hid (due_sg hk.b hk.d0 hk.r1.1 (by omega) hk.t0)
        have HD2 := Lib.hid (fun q => rdue_sg (hk.drewN q).b' hk.d0 hk.r1.1 (by omega) ⟨hk.t0, by have := hk.tr; omega⟩)
        obtain ⟨db, hdb⟩ : ∃ x, dueB rm rd' tl' = x := ⟨_, rfl⟩
        obtain ⟨gr, hgr⟩ : ∃ x, rd' + rm = x := ⟨_, rfl⟩
        rw [hdb, hgr] at HD HD2
        obtain ⟨c0, c1, -⟩ := hk.a.cell
        obtain ⟨d0, d1, -⟩ := hk.a'.cell
        obtain ⟨e0, e1, e2, -⟩ := hk.b.cell
        obtain ⟨f0, f1, f2, -⟩ := hk.b'.cell
        have HL := Lib.hid (fun q => left_sc (hk.drewN q).a hk.ok)
        have HL2 := Lib.hid (fun q => rleft_sc (hk.drewN q).a' hk.ok)
        obtain ⟨d, hd⟩ : ∃ x, l' - u' = x := ⟨_, rfl⟩
        rw [hd] at HL HL2
        have HKQ : Hid (∀ q, ∃ l u rd tl, Four w (wc.drewN q) p1 p2 p3 p4 l u rm rd tl ∧ rd ≤ 1048576 * ((j + 1 : Nat) : Int)) := fun q => ⟨l', u', rd', tl', hk.drewN q, by rw [HBJ.out]; exact hrdB⟩
        clear hdb hgr hd hk hrdB HBJ
        go_wp2_with fail
        refine HD.out.mono ?_; rintro e w2 ⟨rfl, q, rfl⟩
        go_wp2_with fail
        refine (HD2.out q).mono ?_; rintro e w2 ⟨rfl, q2, rfl⟩
        go_wp2_with fail
        refine (HL.out _).mono ?_; rintro e w2 ⟨rfl, q3, rfl⟩
        go_wp2_with fail
        refine (HL2.out _).mono ?_; rintro e w2 ⟨rfl, q4, rfl⟩
        go_wp2_with fail
        go_roundw
        case rel => exact ⟨j + 1, by omega, by go_num, HKQ.out _⟩
        case measure => simp [intOf]; omega
    · obtain rfl : j = n := by omega
      have HBE := Lib.hid (And.intro hk.be (Nat.le_of_lt (Nat.lt_of_le_of_lt hk.lo hk.a.lt)))
      clear hk
      go_wp2_with fail
      refine (CrKn.known_any wr).mono ?_; rintro e w6 ⟨rfl, hb6⟩
      have HBF := Lib.hid (HBE.out.1.trans (hb6.mono HBE.out.2))
      clear hb6 HBE
      go_wp2_with fail
      go_ret
      exact ⟨rfl, HBF.out⟩
end Go.Proofs.Ytninmfobgjkekaa.Cr
