/- CreditKeeps: the walk. Conditions: the calls' row is an argument's. -/
import Derived.Test.YtninmfobgjkekaaKe
set_option linter.unusedSimpArgs false
set_option linter.unusedVariables false
namespace Go.Proofs.Ytninmfobgjkekaa.Cr
open Go Go.RowKit Go.Proofs.Ytninmfobgjkekaa Go.Proofs.Ytninmfobgjkekaa.Cg

/-- What holds of the credit and the grant in CreditKeeps: e was eaten. -/
structure Keep (w0 w : World) (p g : Nat) (l u rm e : Int) (B : Int) : Prop where
  both : Both w0 w p g l u rm e l
  e0 : 0 ≤ e
  eu : e ≤ u
  lr : l ≤ e + rm
  ub : u ≤ B
theorem Keep.due {w0 w : World} {p g : Nat} {l u rm e B : Int} (h : Keep w0 w p g l u rm e B) (hr : 1 ≤ rm ∧ rm ≤ 400) (hB : B ≤ 9007199254740992) (hd : dueB rm e l = true) {w1 w2 : World} (h1 : SG w1 g 26 rm e (max l (e + rm))) (g1 : w.grownBy w1 (some g))
    (h2 : SC w2 p 23 (if raiseB l (max l (e + rm)) = true then max l (e + rm) else l) u) (g2 : w1.grownBy w2 (some p)) : Keep w0 w2 p g (e + rm) u rm e B := by
  obtain ⟨hb, he, heu, hlr, hub⟩ := h
  have hd' : max 1 (rm / 2) ≤ e + rm - l := of_decide_eq_true hd
  have hm : max l (e + rm) = e + rm := by omega
  have hok := hb.ok
  obtain ⟨o1, o2, o3⟩ := hok
  rw [hm] at h1 h2
  have hr' : raiseB l (e + rm) = true := decide_eq_true ⟨by omega, by omega⟩
  rw [if_pos hr'] at h2
  exact ⟨(hb.grant h1 g1).cred h2 g2 ⟨by omega, by omega, by omega⟩, he, heu, Int.le_refl _, hub⟩

set_option maxRecDepth 100000 in
set_option maxHeartbeats 16000000 in
theorem keeps_walk (a0 : Int) (A : Option Addr) (n cap : Nat) (zs : List Int) (w : World) (ha : -9223372036854775808 ≤ a0) (ha' : a0 ≤ 9223372036854775807) (hr : IsRows w A cap n 2 zs) :
    Calls Try.prog 5 #[.int .i64 a0, .slice A n cap] w fun e w' => e = .returned (.bool true) ∧ Below w.heap.size w w' := by
  have HR := Lib.hid hr
  have hncap := hr.cap
  have hnI : (n : Int) ≤ 17592186044416 := by have := hr.reach; omega
  have hncI : (n : Int) ≤ (cap : Int) := by omega
  clear hr
  obtain ⟨S, hS, hS1⟩ : ∃ x : Nat, a0 % 400 = (x : Int) ∧ x < 400 := ⟨(a0 % 400).toNat, by omega, by omega⟩
  have HP0 := Lib.hid (fun W => pick_any a0 400 W (by decide) (by decide))
  rw [hS] at HP0
  have hSI : (S : Int) < 400 := by omega
  obtain ⟨rm, hrm⟩ : ∃ x : Int, 1 + (S : Int) = x := ⟨_, rfl⟩
  have hrm1 : 1 ≤ rm := by omega
  have hrm2 : rm ≤ 400 := by omega
  have HNG := Lib.hid (fun W => newgrant_any W rm)
  rw [show roomF rm = rm by unfold roomF; omega] at HNG
  clear hS
  go_enter Try.func5, Try.ntmps5
  go_wp2_with fail
  refine (HP0.out _).mono ?_; rintro e w' ⟨rfl, rfl⟩
  go_wp2_with fail
  refine (HNG.out _).mono ?_; rintro e w1 ⟨rfl, hb1⟩
  go_upto_region 3 with (fail)
  obtain ⟨w2, hw2⟩ : ∃ x, w1.alloc (.cells #[.int .i64 rm, .int .i64 0, .int .i64 rm] 26) = x := ⟨_, rfl⟩
  obtain ⟨g, hg⟩ : ∃ x, w1.heap.size = x := ⟨_, rfl⟩
  have H2 : Hid (SG w2 g 26 rm 0 rm ∧ w.heap.size ≤ g ∧ Below w.heap.size w w2) := by
    have hb2 : Below g w1 w2 := by rw [← hw2, ← hg]; exact (Below.refl _ _).alloc (Nat.le_refl _) _
    have hgg : w.heap.size ≤ g := hg ▸ hb1.size
    refine ⟨?_, hgg, hb1.trans (hb2.mono hgg)⟩
    rw [← hw2, ← hg]
    exact SG.new w1 _ rm 0 rm
  rw [hw2, hg]
  clear hw2 hg hb1 w1
  go_upto_region 4 with (fail)
  obtain ⟨w3, hw3⟩ : ∃ x, w2.alloc (.cells #[.int .i64 rm, .int .i64 0] 23) = x := ⟨_, rfl⟩
  obtain ⟨p, hp⟩ : ∃ x, w2.heap.size = x := ⟨_, rfl⟩
  have HK0 : Hid (Keep w w3 p g rm 0 rm 0 0) := by
    obtain ⟨h2, hgg, hb2⟩ := H2.out
    have hb3 : Below p w2 w3 := by rw [← hw3, ← hp]; exact (Below.refl _ _).alloc (Nat.le_refl _) _
    have hgp : g < p := hp ▸ h2.lt
    refine ⟨⟨?_, ⟨Int.le_refl _, by omega, by omega⟩, h2.below hb3 hgp, by omega, hgg, by omega, hb2.trans (hb3.mono (by omega))⟩, Int.le_refl _, Int.le_refl _, by omega, Int.le_refl _⟩
    rw [← hw3, ← hp]
    exact SC.new w2 _ rm 0
  rw [hw3, hp]
  clear hw3 hp H2 HP0 HNG w2 hrm
  go_wp2_with fail
  go_loopw [7, 24] (fun v i wr => ∃ (j : Nat) (e l u : Int), j ≤ n ∧ i = .int .i64 (j : Int) ∧ v = .int .i64 e ∧ Hid (Keep w wr p g l u rm e (404 * (j : Int)))) (fun _ i _ => n - (intOf i).toNat)
  case atStart => exact ⟨0, 0, rm, 0, Nat.zero_le _, rfl, rfl, HK0.out⟩
  case round =>
    clear HK0
    obtain ⟨j, e, l, u, hj, rfl, rfl, HK⟩ := hrel
    have hjB : 404 * (j : Int) ≤ 9007199254740000 := by omega
    obtain ⟨B, hB⟩ : ∃ B, 404 * (j : Int) = B := ⟨_, rfl⟩
    rw [hB] at HK hjB
    have HBJ : Hid (404 * ((j + 1 : Nat) : Int) = B + 404) := by show _ = _; omega
    have hB0 : 0 ≤ B := by omega
    clear hB
    by_cases hjn : j < n
    · have hjnI : (j : Int) < (n : Int) := by omega
      obtain ⟨b, off, hA, hbn, hcs⟩ := HR.out.rd.2 (by omega)
      subst hA
      have hzl := HR.out.len
      have hrd : ∀ q v, q < n * 2 → zs.getD q 0 = v → wr.cell? ⟨b, off + q, none⟩ = some (.int .i64 v) := fun q v hq hv => by
        rw [HK.out.both.be.cell (p := ⟨b, off + q, none⟩) hbn, hcs q _ (ints_get zs q (by omega)), hv]
      obtain ⟨x0, hx0⟩ : ∃ v, Hid (zs.getD (j * 2) 0 = v) := ⟨_, rfl⟩
      obtain ⟨x1, hx1⟩ : ∃ v, Hid (zs.getD (j * 2 + 1) 0 = v) := ⟨_, rfl⟩
      have cx0 := hrd (j * 2) x0 (by omega) hx0.out
      have cx1 : wr.cell? ⟨b, off + j * 2 + 1, none⟩ = some (.int .i64 x1) := hrd (j * 2 + 1) x1 (by omega) hx1.out
      clear hcs hrd hx0 hx1 hzl
      go_upto_region 8 with (fail)
      obtain ⟨q1, hq1⟩ : ∃ x, wr.heap.size = x := ⟨_, rfl⟩
      obtain ⟨w1, hw1⟩ : ∃ x, wr.alloc (.cells #[.int .i64 x0, .int .i64 x1] 40) = x := ⟨_, rfl⟩
      have hb1 : Below q1 wr w1 := by rw [← hw1, ← hq1]; exact (Below.refl _ _).alloc (Nat.le_refl _) _
      have hr1 := RawIn.new wr x0 x1
      have HK1 : Hid (Keep w w1 p g l u rm e B) := ⟨HK.out.both.below hb1 (Nat.le_of_eq hq1), HK.out.e0, HK.out.eu, HK.out.lr, HK.out.ub⟩
      rw [hw1, hq1] at hr1
      rw [hw1, hq1]
      clear hw1 hq1 hb1 cx0 cx1 HK wr
      obtain ⟨r0, r1⟩ := hr1.cell
      obtain ⟨M, hM, hM3⟩ : ∃ x : Nat, x0 % 3 = (x : Int) ∧ x < 3 := ⟨(x0 % 3).toNat, by omega, by omega⟩
      have HP0 := Lib.hid (fun W => pick_any x0 3 W (by decide) (by decide))
      rw [hM] at HP0
      clear hr1 hM
      have hMI : (M : Int) < 3 := by omega
      obtain ⟨o0, o1, o2⟩ := HK1.out.both.ok
      have e0 := HK1.out.e0
      have eu := HK1.out.eu
      have lr := HK1.out.lr
      have ub := HK1.out.ub
      go_upto_block 2 with (go_at_call 15; refine (HP0.out _).mono ?_; rintro e w' ⟨rfl, rfl⟩)
      go_cut [7] (fun v wx => ∃ e' l' u' : Int, v = .int .i64 e' ∧ Hid (Keep w wx p g l' u' rm e' (B + 404)))
      case first =>
        rcases (show M = 0 ∨ M = 1 ∨ M = 2 by omega) with hM | hM | hM
        · subst hM
          obtain ⟨N, hN, hN1, hN2⟩ : ∃ x : Int, x1 % (rm + 5) = x ∧ 0 ≤ x ∧ x < rm + 5 := ⟨_, rfl, Int.emod_nonneg _ (by omega), Int.emod_lt_of_pos _ (by omega)⟩
          have HP1 := Lib.hid (fun W => pick_any x1 (rm + 5) W (by omega) (by omega))
          rw [hN] at HP1
          clear hN
          go_wp2_with fail
          refine (HP1.out _).mono ?_; rintro e w' ⟨rfl, rfl⟩
          have HU := Lib.hid (use_sc HK1.out.both.a HK1.out.both.ok N)
          clear r0 r1
          go_wp2_with fail
          refine HU.out.mono ?_; rintro e' w2 ⟨rfl, h2, g2⟩
          have HF : Hid (Keep w w2 p g l (if useB l u N = true then u + N else u) rm e (B + 404)) :=
            ⟨HK1.out.both.cred h2 g2 (HK1.out.both.ok.use N), e0, by split <;> omega, lr, by split <;> omega⟩
          clear h2 g2 HU
          obtain ⟨u', hu'⟩ : ∃ x, (if useB l u N = true then u + N else u) = x := ⟨_, rfl⟩
          rw [hu'] at HF
          obtain ⟨ub', hub'⟩ : ∃ x, useB l u N = x := ⟨_, rfl⟩
          rw [hub']
          clear hu' hub'
          go_wp2_with fail
          go_meet
          case rel => exact ⟨e, l, u', rfl, HF.out⟩
        · subst hM
          obtain ⟨D, hD⟩ : ∃ D, u - e + 1 = D := ⟨_, rfl⟩
          obtain ⟨D0, hD0⟩ : ∃ D, u - e = D := ⟨_, rfl⟩
          obtain ⟨N, hN, hN1, hN2⟩ : ∃ x : Int, x1 % D = x ∧ 0 ≤ x ∧ x < D := ⟨_, rfl, Int.emod_nonneg _ (by omega), Int.emod_lt_of_pos _ (by omega)⟩
          have HP1 := Lib.hid (fun W => pick_any x1 D W (by omega) (by omega))
          rw [hN] at HP1
          have hw1 : IntKind.i64.wrap (u - e) = D0 := by rw [hD0]; exact IntWalk.i64_in _ (by omega)
          have hw2 : IntKind.i64.wrap (D0 + 1) = D := by rw [← hD0, hD]; exact IntWalk.i64_in _ (by omega)
          obtain ⟨E, hE⟩ : ∃ E, e + N = E := ⟨_, rfl⟩
          have hw3 : IntKind.i64.wrap (e + N) = E := by rw [hE]; exact IntWalk.i64_in _ (by omega)
          have HEA := Lib.hid (eat_sg HK1.out.both.b ⟨e0, by omega⟩ N)
          rw [show eatF N = N by unfold eatF; omega, hE] at HEA
          have HEB : Hid (e ≤ E ∧ E ≤ u ∧ l ≤ E + rm) := ⟨by omega, by omega, by omega⟩
          obtain ⟨-, c1, -⟩ := HK1.out.both.a.cell
          clear hD hD0 hN hE
          go_wp2_with fail
          refine (HP1.out _).mono ?_; rintro e' w' ⟨rfl, rfl⟩
          clear c1 r0 r1
          go_wp2_with fail
          refine HEA.out.mono ?_; rintro e' w2 ⟨rfl, h2, g2⟩
          have HF : Hid (Keep w w2 p g l u rm E (B + 404)) := ⟨HK1.out.both.grant h2 g2, by have := HEB.out; omega, HEB.out.2.1, HEB.out.2.2, by omega⟩
          clear h2 g2 HEA HEB
          go_wp2_with fail
          go_meet
          case rel => exact ⟨E, l, u, rfl, HF.out⟩
        · subst hM
          have HD := Lib.hid (due_sg HK1.out.both.b e0 hrm1 (by omega) (by omega))
          cases hdb : dueB rm e l
          · rw [hdb] at HD
            have HF : Hid (∀ q, Keep w (w1.drewN q) p g l u rm e (B + 404)) := fun q => ⟨HK1.out.both.drewN q, e0, eu, lr, by omega⟩
            clear hdb
            go_wp2_with fail
            refine HD.out.mono ?_; rintro e' w2 ⟨rfl, q, rfl⟩
            go_wp2_with fail
            go_meet
            case rel => exact ⟨e, l, u, rfl, HF.out _⟩
          · rw [hdb] at HD
            have HDB := Lib.hid hdb
            have HT := Lib.hid (fun q => tell_sg (HK1.out.both.drewN q).b e0 (by omega) (by omega))
            have HKQ : Hid (∀ q, Keep w (w1.drewN q) p g l u rm e (B + 404)) := fun q => ⟨HK1.out.both.drewN q, e0, eu, lr, by omega⟩
            clear hdb r0 r1
            go_wp2_with fail
            refine HD.out.mono ?_; rintro e' w2 ⟨rfl, q, rfl⟩
            go_wp2_with fail
            refine (HT.out q).mono ?_; rintro e' w3 ⟨rfl, h3, g3⟩
            have HR3 := Lib.hid (raise_sc ((HKQ.out q).both.a.kept g3 (HKQ.out q).both.ne) (max l (e + rm)))
            have H3 := Lib.hid (And.intro h3 g3)
            clear h3 g3 HT HD
            obtain ⟨mx, hmx⟩ : ∃ x, max l (e + rm) = x := ⟨_, rfl⟩
            have HMX := Lib.hid hmx
            rw [hmx] at HR3
            rw [hmx]
            clear hmx
            go_wp2_with fail
            refine HR3.out.mono ?_; rintro e' w4 ⟨rfl, h4, g4⟩
            have HF : Hid (Keep w w4 p g (e + rm) u rm e (B + 404)) := by
              rw [← HMX.out] at h4
              exact (HKQ.out q).due ⟨hrm1, hrm2⟩ (by omega) HDB.out H3.out.1 H3.out.2 h4 g4
            clear h4 g4 HR3 H3 HKQ
            obtain ⟨rb, hrb⟩ : ∃ x, raiseB l mx = x := ⟨_, rfl⟩
            rw [hrb]
            clear hrb
            go_wp2_with fail
            go_meet
            case rel => exact ⟨e, e + rm, u, rfl, HF.out⟩
      case rest =>
        obtain ⟨e', l', u', rfl, HK2⟩ := hcut
        clear HK1 HP0 r0 r1 e0 eu lr ub o0 o1 o2
        obtain ⟨o0, o1, o2⟩ := HK2.out.both.ok
        have e0 := HK2.out.e0
        have eu := HK2.out.eu
        have lr := HK2.out.lr
        have ub := HK2.out.ub
        obtain ⟨c0, c1, -⟩ := HK2.out.both.a.cell
        obtain ⟨-, -, g2, -⟩ := HK2.out.both.b.cell
        have HL := Lib.hid (left_sc HK2.out.both.a HK2.out.both.ok)
        obtain ⟨d, hd⟩ : ∃ d, l' - u' = d := ⟨_, rfl⟩
        rw [hd] at HL
        have hd0 : 0 ≤ d := by omega
        obtain ⟨f, hf⟩ : ∃ d, l' - e' = d := ⟨_, rfl⟩
        have hw : IntKind.i64.wrap (l' - e') = f := by rw [hf]; exact IntWalk.i64_in _ (by omega)
        have hf0 : f ≤ rm := by omega
        have HF : Hid (∀ q, Keep w (wc.drewN q) p g l' u' rm e' (404 * ((j + 1 : Nat) : Int))) := fun q => by rw [HBJ.out]; exact ⟨HK2.out.both.drewN q, e0, eu, lr, ub⟩
        clear hd hf HK2 HBJ
        go_wp2_with fail
        refine HL.out.mono ?_; rintro e w2 ⟨rfl, q, rfl⟩
        go_wp2_with fail
        go_roundw
        case rel => exact ⟨j + 1, e', l', u', by omega, by go_num, rfl, HF.out _⟩
        case measure => simp [intOf]; omega
    · obtain rfl : j = n := by omega
      obtain ⟨o0, o1, o2⟩ := HK.out.both.ok
      have e0 := HK.out.e0
      have eu := HK.out.eu
      have lr := HK.out.lr
      have ub := HK.out.ub
      obtain ⟨-, c1, -⟩ := HK.out.both.a.cell
      obtain ⟨D, hD⟩ : ∃ D, u - e = D := ⟨_, rfl⟩
      have hw1 : IntKind.i64.wrap (u - e) = D := by rw [hD]; exact IntWalk.i64_in _ (by omega)
      have HEA := Lib.hid (eat_sg HK.out.both.b ⟨e0, by omega⟩ D)
      rw [show e + eatF D = u by unfold eatF; omega] at HEA
      clear hD HBJ
      go_wp2_with fail
      refine HEA.out.mono ?_; rintro e' w2 ⟨rfl, h2, g2⟩
      have HF : Hid (Keep w w2 p g l u rm u B) := ⟨HK.out.both.grant h2 g2, by omega, Int.le_refl _, by omega, ub⟩
      clear h2 g2 HEA HK c1 hw1
      have HD := Lib.hid (due_sg HF.out.both.b (by omega) hrm1 (by omega) (by omega))
      cases hdb : dueB rm u l
      · rw [hdb] at HD
        have hdn : ¬ max 1 (rm / 2) ≤ u + rm - l := of_decide_eq_false hdb
        have hk1 : rm ≤ 2 * (l - u) := by omega
        have hk2 : 1 ≤ l - u := by omega
        obtain ⟨d, hd⟩ : ∃ d, l - u = d := ⟨_, rfl⟩
        have HLF := Lib.hid (fun w h => left_sc (w := w) (p := p) (T := 23) (l := l) (u := u) h ⟨o0, o1, o2⟩)
        rw [hd] at HLF hk1 hk2
        have hd2 : d ≤ 4611686018427387903 := by omega
        clear hdb hdn hd
        go_wp2_with fail
        refine HD.out.mono ?_; rintro e' w3 ⟨rfl, q, rfl⟩
        go_wp2_with fail
        refine (CrKn.known_any _).mono ?_; rintro e w4 ⟨rfl, hb4⟩
        have HB4 := Lib.hid ((HF.out.both.drewN q).below hb4 (Nat.le_refl _))
        have HLF2 := Lib.hid (fun q => HLF.out _ (HB4.out.drewN q).a)
        clear hb4 HLF HD
        go_wp2_with fail
        refine (HLF2.out 0).mono ?_; rintro e' w5 ⟨rfl, q2, rfl⟩
        go_wp2_with fail
        refine (HLF2.out _).mono ?_; rintro e' w6 ⟨rfl, q3, rfl⟩
        go_wp2_with fail
        go_ret
        exact ⟨rfl, (HB4.out.drewN _).be⟩
      · rw [hdb] at HD
        have HDB := Lib.hid hdb
        have HT := Lib.hid (fun q => tell_sg (HF.out.both.drewN q).b (by omega) (by omega) (by omega))
        clear hdb
        go_wp2_with fail
        refine HD.out.mono ?_; rintro e' w3 ⟨rfl, q, rfl⟩
        have HKQ : Hid (Keep w (w2.drewN q) p g l u rm u B) := ⟨HF.out.both.drewN q, by omega, Int.le_refl _, by omega, ub⟩
        go_wp2_with fail
        refine (HT.out q).mono ?_; rintro e' w3 ⟨rfl, h3, g3⟩
        have HR3 := Lib.hid (raise_sc (HKQ.out.both.a.kept g3 HKQ.out.both.ne) (max l (u + rm)))
        have H3 := Lib.hid (And.intro h3 g3)
        clear h3 g3 HT HD HF
        obtain ⟨mx, hmx⟩ : ∃ x, max l (u + rm) = x := ⟨_, rfl⟩
        have HMX := Lib.hid hmx
        rw [hmx] at HR3
        rw [hmx]
        clear hmx
        go_wp2_with fail
        refine HR3.out.mono ?_; rintro e' w4 ⟨rfl, h4, g4⟩
        have HF : Hid (Keep w w4 p g (u + rm) u rm u B) := by
          rw [← HMX.out] at h4
          exact HKQ.out.due ⟨hrm1, hrm2⟩ (by omega) HDB.out H3.out.1 H3.out.2 h4 g4
        clear h4 g4 HR3 H3 HKQ
        obtain ⟨rb, hrb⟩ : ∃ x, raiseB l mx = x := ⟨_, rfl⟩
        rw [hrb]
        clear hrb
        go_wp2_with fail
        refine (CrKn.known_any _).mono ?_; rintro e w5 ⟨rfl, hb5⟩
        have HB5 := Lib.hid (HF.out.both.below hb5 (Nat.le_refl _))
        have HLF := Lib.hid (fun q => left_sc (HB5.out.drewN q).a HB5.out.ok)
        rw [show u + rm - u = rm by omega] at HLF
        clear hb5
        go_wp2_with fail
        refine (HLF.out 0).mono ?_; rintro e' w6 ⟨rfl, q2, rfl⟩
        go_wp2_with fail
        refine (HLF.out _).mono ?_; rintro e' w7 ⟨rfl, q3, rfl⟩
        go_wp2_with fail
        go_ret
        exact ⟨rfl, (HB5.out.drewN _).be⟩
end Go.Proofs.Ytninmfobgjkekaa.Cr
