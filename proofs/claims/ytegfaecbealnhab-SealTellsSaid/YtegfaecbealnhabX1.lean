/- SealTells: the walk. Conditions: the arguments' rows. -/
import Derived.Test.YtegfaecbealnhabX0
import Derived.Test.YtegfaecbealnhabA1
import Derived.Test.YtegfaecbealnhabHd
namespace Go.Proofs.Ytegfaecbealnhab.TellsLaw
open Go Go.RowKit
open PartsLaw (of_bytes)
open BackLaw (cv_of few_part own_at u8x)

set_option maxRecDepth 100000 in
set_option maxHeartbeats 2000000 in
theorem walk (key hs cs : Nat) (num : Int) (A : Option Addr) (cap : Nat) (head : List Nat) (A2 : Option Addr) (cap2 : Nat) (body : List Nat) (A3 : Option Addr) (cap3 : Nat) (ps : List (List Nat)) (at_ : Int) (by_ : Nat) (w : World) (hkey : key < 2 ^ 64) (hhs : hs < 2 ^ 64) (hcs : cs < 2 ^ 64) (ha : IsBytes w A cap head) (hb : IsBytes w A2 cap2 body) (hp : IsParts w A3 cap3 ps) (ht1 : -9223372036854775808 ≤ at_) (ht2 : at_ ≤ 9223372036854775807) (hy2 : by_ ≤ 255) :
    Calls Try.prog 10 #[.int .u64 (key : Int), .int .u64 (hs : Int), .int .u64 (cs : Int), .int .i64 num, .slice A head.length cap, .slice A2 body.length cap2, .slice A3 ps.length cap3, .int .i64 at_, .int .u8 (by_ : Int)] w fun e w' => e = .returned (.bool true) ∧ Below w.heap.size w w' := by
  have Ph := Lib.hid (of_bytes ha)
  have Pb := Lib.hid (of_bytes hb)
  have HP0 := Lib.hid hp
  have HLT := Lib.hid hb.lt
  have hreach := hb.reach
  have C := Lib.hid (close_any key num head body _ _ _ w hkey Ph.out Pb.out (Nat.le_refl _) (by omega))
  have RC0 := fun (W : World) (h : Below w.heap.size w W) => rclose_any key num head body _ _ _ W hkey (Ph.out.below h (Nat.le_refl _)) (Pb.out.below h (Nat.le_refl _)) h.size (by omega)
  have MP0 := fun (W : World) (h : Below w.heap.size w W) => mask_part key num body _ _ W hkey (Pb.out.below h (Nat.le_refl _)) h.size
  have MR0 := fun (W : World) (h : Below w.heap.size w W) => rmask_part key num body _ _ W hkey (Pb.out.below h (Nat.le_refl _)) h.size
  have S1 := Lib.hid (fun W => step_any hs cs W hhs hcs)
  have S2 := Lib.hid (fun W => rstep_any hs cs W hhs hcs)
  have T10 := fun (W : World) (h : Below w.heap.size w W) => tag_any key ps _ A3 cap3 W hkey (hp.parts.below h (Nat.le_refl _)) hp.cap (by have := hp.reach; omega)
  have T20 := fun (W : World) (h : Below w.heap.size w W) => rtag_any key ps _ A3 cap3 W hkey (hp.parts.below h (Nat.le_refl _)) hp.cap (by have := hp.reach; omega)
  obtain ⟨s, hss⟩ : ∃ s, Hid (stpN hs cs = s) := ⟨_, rfl⟩
  obtain ⟨t, htt⟩ : ∃ t, Hid (tagN key ps = t) := ⟨_, rfl⟩
  rw [hss.out] at S1 S2
  rw [htt.out] at T10 T20
  have HCL := Lib.hid (closeF_lt key num head body HLT.out)
  have HCN := Lib.hid (closeF_len key num head body)
  obtain ⟨x, hxx⟩ : ∃ x, Hid (closeF key num head body = x) := ⟨_, rfl⟩
  rw [hxx.out] at C RC0 HCL HCN
  have HMK := Lib.hid (And.intro (maskN_len (stpN key (unN num)) body) (maskN_lt (stpN key (unN num)) body HLT.out))
  obtain ⟨mk, hmk⟩ : ∃ z, Hid (maskN (stpN key (unN num)) body = z) := ⟨_, rfl⟩
  rw [hmk.out] at MP0 MR0 HMK
  have O1 := Lib.hid (fun (W : World) (l : List Nat) (v : Value) (h : Below w.heap.size w W) (hv : IsPart W W.heap.size v l) => open_ans key num head l _ v _ W hkey ((Ph.out.below h (Nat.le_refl _)).more h.size) hv (Nat.le_refl _))
  have O2 := Lib.hid (fun (W : World) (l : List Nat) (v : Value) (h : Below w.heap.size w W) (hv : IsPart W W.heap.size v l) => ropen_ans key num head l _ v _ W hkey ((Ph.out.below h (Nat.le_refl _)).more h.size) hv (Nat.le_refl _))
  have hk0 := Int.emod_nonneg at_ (show (body.length : Int) + 8 ≠ 0 by omega)
  have hk1 := Int.emod_lt_of_pos at_ (show 0 < (body.length : Int) + 8 by omega)
  have PK1 : ∀ W (M : Int), M = (body.length : Int) + 8 → Calls Try.prog 29 #[.int .i64 at_, .int .i64 M] W fun e w' => e = .returned (.int .i64 (at_ % ((body.length : Int) + 8))) ∧ W = w' := fun W M hM => by subst hM; exact pick_any at_ _ W (by omega) (by omega)
  have hj0 := Int.emod_nonneg at_ (show (body.length : Int) + 9 ≠ 0 by omega)
  have hj1 := Int.emod_lt_of_pos at_ (show 0 < (body.length : Int) + 9 by omega)
  have PK2 : ∀ W (M : Int), M = (body.length : Int) + 9 → Calls Try.prog 29 #[.int .i64 at_, .int .i64 M] W fun e w' => e = .returned (.int .i64 (at_ % ((body.length : Int) + 9))) ∧ W = w' := fun W M hM => by subst hM; exact pick_any at_ _ W (by omega) (by omega)
  obtain ⟨k, hk⟩ : ∃ k : Nat, Hid (at_ % ((body.length : Int) + 8) = (k : Int)) := ⟨(at_ % ((body.length : Int) + 8)).toNat, by show _ = _; omega⟩
  obtain ⟨j, hj⟩ : ∃ j : Nat, Hid (at_ % ((body.length : Int) + 9) = (j : Int)) := ⟨(at_ % ((body.length : Int) + 9)).toNat, by show _ = _; omega⟩
  rw [hk.out] at hk0 hk1 PK1
  rw [hj.out] at hj0 hj1 PK2
  have PK1 := Lib.hid PK1
  have PK2 := Lib.hid PK2
  have hkl : k < body.length + 8 := by omega
  have hjl : j ≤ body.length + 8 := by omega
  clear hkey hhs hcs ha hb hp ht1 ht2 hk0 hk1 hj0 hj1
  go_enter Try.func10, Try.ntmps10
  go_wp2_with fail
  refine C.out.mono ?_; rintro e w1 ⟨v1, rfl, ho1, hb1⟩
  have HB1 := Lib.hid hb1
  have HX1 := Lib.hid (IsPart.of_own ho1 (by rw [HCN.out]; omega) HCL.out)
  obtain ⟨g, c1, e1, hg1⟩ := own_at ho1 (by omega) (by decide)
  subst e1
  obtain ⟨A1, hA1⟩ : ∃ A1, Hid (some (⟨g, 0, none⟩ : Addr) = A1) := ⟨_, rfl⟩
  have HO1 := Lib.hid ho1
  have HG1 := Lib.hid hg1
  have RC := Lib.hid (fun (W : World) (h : Below w1.heap.size w1 W) => RC0 W (HB1.out.trans (h.mono HB1.out.size)))
  have MP := Lib.hid (fun (W : World) (h : Below w1.heap.size w1 W) => MP0 W (HB1.out.trans (h.mono HB1.out.size)))
  have MR := Lib.hid (fun (W : World) (h : Below w1.heap.size w1 W) => MR0 W (HB1.out.trans (h.mono HB1.out.size)))
  have HPB : Hid (Below w.heap.size w w1.drew) := HB1.out.drew
  have T1 := Lib.hid (T10 w1.drew HPB.out)
  have T2 := Lib.hid (T20 w1.drew HPB.out)
  have HS : Hid (∀ W', Below w1.heap.size w1 W' → Below w1.heap.size w1 W' ∧ (convert 53 9 (.slice (some ⟨g, 0, none⟩) (body.length + 8) c1)).run Try.prog W' = .ok (.string (strOf x)) W') := fun W' hW => ⟨hW, cv_of (HX1.out.below hW (Nat.le_refl _))⟩
  clear ho1 hb1 hg1 RC0 MP0 MR0 T10 T20
  go_wp2_with fail
  go_upto_region 2 with (fail)
  go_cut [70] (fun v wx => v = .bool false ∧ Hid (Below w1.heap.size w1 wx))
  case first =>
    refine wp_region_held_drew (S := fun W' => Below w1.heap.size w1 W' ∧ (convert 53 9 (.slice (some ⟨g, 0, none⟩) (body.length + 8) c1)).run Try.prog W' = .ok (.string (strOf x)) W') (by kernel_rfl) ?_ (fun hHeld => ?_)
    · exact HS.out _ ((Below.refl w1.heap.size w1).drew)
    refine wpAnyH_take (i := 0) (v := ?_) rfl (by kernel_rfl) (by kernel_rfl) (by kernel_rfl) (fun _ _ _ h => h) (Or.inl ⟨by rfl, ?_⟩) (by assumption) ?_
    rotate_left
    · intro w hSw; (try dsimp only at hSw); go_simp; try with_reducible rfl
    go_simp
    refine wpAnyH_take (i := 1) (v := ?_) rfl (by kernel_rfl) (by kernel_rfl) (by kernel_rfl) (fun _ _ _ h => h) (Or.inl ⟨by rfl, ?_⟩) (by assumption) ?_
    rotate_left
    · intro w hSw; (try dsimp only at hSw); go_simp; try with_reducible rfl
    go_simp
    refine wpAnyH_take (i := 3) (v := ?_) rfl (by kernel_rfl) (by kernel_rfl) (by kernel_rfl) (fun _ _ _ h => h) (Or.inl ⟨by rfl, ?_⟩) (by assumption) ?_
    rotate_left
    · intro w hSw; (try dsimp only at hSw); go_simp; try with_reducible rfl
    go_simp
    refine wpAnyH_take (i := 4) (v := ?_) rfl (by kernel_rfl) (by kernel_rfl) (by kernel_rfl) (fun _ _ _ h => h) (Or.inl ⟨by rfl, ?_⟩) (by assumption) ?_
    rotate_left
    · intro w hSw; (try dsimp only at hSw); go_simp; try with_reducible rfl
    go_simp
    refine wpAnyH_ready (rs := [2]) (by kernel_rfl) (by simp) ?_
    refine AllReadyH.cons rfl (fun K hK => ?_) AllReadyH.nil
    go_simp
    refine (S1.out _).mono ?_; rintro e w' ⟨rfl, rfl⟩
    refine hK.out _ _ ?_ (fun hHeld => ?_)
    · exact HS.out _ ((Below.refl w1.heap.size w1).drew)
    clear hK K
    go_simp
    refine wpAnyH_ready (rs := [5]) (by kernel_rfl) (by simp) ?_
    refine AllReadyH.cons rfl (fun K hK => ?_) AllReadyH.nil
    go_simp
    refine (S2.out _).mono ?_; rintro e w' ⟨rfl, rfl⟩
    refine hK.out _ _ ?_ (fun hHeld => ?_)
    · exact HS.out _ ((Below.refl w1.heap.size w1).drew)
    clear hK K
    go_simp
    refine wpAnyH_take (i := 6) (v := ?_) rfl (by kernel_rfl) (by kernel_rfl) (by kernel_rfl) (fun _ _ _ h => h) (Or.inl ⟨by rfl, ?_⟩) (by assumption) ?_
    rotate_left
    · intro w hSw; (try dsimp only at hSw); go_simp; try with_reducible rfl
    go_simp
    refine wpAnyH_take (i := 7) (v := ?_) rfl (by kernel_rfl) (by kernel_rfl) (by kernel_rfl) (fun _ _ _ h => h) (Or.inl ⟨by rfl, ?_⟩) (by assumption) ?_
    rotate_left
    · intro w hSw; (try dsimp only at hSw); go_simp; try with_reducible rfl
    go_simp
    refine wpAnyH_take (i := 8) (v := ?_) rfl (by kernel_rfl) (by kernel_rfl) (by kernel_rfl) (fun _ _ _ h => h) (Or.inl ⟨by rfl, ?_⟩) (by assumption) ?_
    rotate_left
    · intro w hSw; (try dsimp only at hSw); go_simp; try with_reducible rfl
    go_simp
    refine wpAnyH_take (i := 9) (v := ?_) rfl (by kernel_rfl) (by kernel_rfl) (by kernel_rfl) (fun _ _ _ h => h) (Or.inl ⟨by rfl, ?_⟩) (by assumption) ?_
    rotate_left
    · intro w hSw; (try dsimp only at hSw); go_simp; try with_reducible rfl
    go_simp
    refine wpAnyH_take (i := 11) (v := ?_) rfl (by kernel_rfl) (by kernel_rfl) (by kernel_rfl) (fun _ _ _ h => h) (Or.inl ⟨by rfl, ?_⟩) (by assumption) ?_
    rotate_left
    · intro w hSw; (try dsimp only at hSw); go_simp; try with_reducible rfl
    go_simp
    refine wpAnyH_take (i := 12) (v := ?_) rfl (by kernel_rfl) (by kernel_rfl) (by kernel_rfl) (fun _ _ _ h => h) (Or.inl ⟨by rfl, ?_⟩) (by assumption) ?_
    rotate_left
    · intro w hSw; (try dsimp only at hSw); go_simp; try with_reducible rfl
    go_simp
    refine wpAnyH_ready (rs := [10]) (by kernel_rfl) (by simp) ?_
    refine AllReadyH.cons rfl (fun K hK => ?_) AllReadyH.nil
    go_simp
    refine (T1.out).mono ?_; rintro e w' ⟨rfl, rfl⟩
    refine hK.out _ _ ?_ (fun hHeld => ?_)
    · exact HS.out _ ((Below.refl w1.heap.size w1).drew)
    clear hK K
    go_simp
    refine wpAnyH_ready (rs := [13]) (by kernel_rfl) (by simp) ?_
    refine AllReadyH.cons rfl (fun K hK => ?_) AllReadyH.nil
    go_simp
    refine (T2.out).mono ?_; rintro e w' ⟨rfl, rfl⟩
    refine hK.out _ _ ?_ (fun hHeld => ?_)
    · exact HS.out _ ((Below.refl w1.heap.size w1).drew)
    clear hK K
    go_simp
    refine wpAnyH_take (i := 14) (v := ?_) rfl (by kernel_rfl) (by kernel_rfl) (by kernel_rfl) (fun _ _ _ h => h) (Or.inl ⟨by rfl, ?_⟩) (by assumption) ?_
    rotate_left
    · intro w hSw; (try dsimp only at hSw); go_simp; try with_reducible rfl
    go_simp
    refine wpAnyH_take (i := 15) (v := ?_) rfl (by kernel_rfl) (by kernel_rfl) (by kernel_rfl) (fun _ _ _ h => h) (Or.inl ⟨by rfl, ?_⟩) (by assumption) ?_
    rotate_left
    · intro w hSw; (try dsimp only at hSw); go_simp; try with_reducible rfl
    go_simp
    refine wpAnyH_take (i := 16) (v := ?_) rfl (by kernel_rfl) (by kernel_rfl) (by kernel_rfl) (fun _ _ _ h => h) (Or.inl ⟨by rfl, ?_⟩) (by assumption) ?_
    rotate_left
    · intro w hSw; (try dsimp only at hSw); go_simp; try with_reducible rfl
    go_simp
    refine wpAnyH_take (i := 17) (v := ?_) rfl (by kernel_rfl) (by kernel_rfl) (by kernel_rfl) (fun _ _ _ h => h) (Or.inl ⟨by rfl, ?_⟩) (by assumption) ?_
    rotate_left
    · intro w hSw; (try dsimp only at hSw); go_simp; try with_reducible rfl
    go_simp
    refine wpAnyH_take (i := 18) (v := ?_) rfl (by kernel_rfl) (by kernel_rfl) (by kernel_rfl) (fun _ _ _ h => h) (Or.inl ⟨by rfl, ?_⟩) (by assumption) ?_
    rotate_left
    · intro w hSw; (try dsimp only at hSw); go_simp; try with_reducible rfl
    go_simp
    refine wpAnyH_take (i := 19) (v := ?_) rfl (by kernel_rfl) (by kernel_rfl) (by kernel_rfl) (fun _ _ _ h => h) (Or.inl ⟨by rfl, ?_⟩) (by assumption) ?_
    rotate_left
    · intro w hSw; (try dsimp only at hSw); go_simp; try with_reducible rfl
    go_simp
    refine wpAnyH_take (i := 22) (v := ?_) rfl (by kernel_rfl) (by kernel_rfl) (by kernel_rfl) (fun _ _ _ h => h) (Or.inl ⟨by rfl, ?_⟩) (by assumption) ?_
    rotate_left
    · intro w hSw; (try dsimp only at hSw); go_simp; try with_reducible rfl
    go_simp
    refine wpAnyH_take (i := 23) (v := ?_) rfl (by kernel_rfl) (by kernel_rfl) (by kernel_rfl) (fun _ _ _ h => h) (Or.inl ⟨by rfl, ?_⟩) (by assumption) ?_
    rotate_left
    · intro w hSw; (try dsimp only at hSw); go_simp; try with_reducible rfl
    go_simp
    refine wpAnyH_take (i := 24) (v := ?_) rfl (by kernel_rfl) (by kernel_rfl) (by kernel_rfl) (fun _ _ _ h => h) (Or.inl ⟨by rfl, ?_⟩) (by assumption) ?_
    rotate_left
    · intro w hSw; (try dsimp only at hSw); go_simp; try with_reducible rfl
    go_simp
    refine wpAnyH_ready (rs := [20]) (by kernel_rfl) (by simp) ?_
    refine AllReadyH.cons rfl (fun K hK => ?_) AllReadyH.nil
    go_simp
    refine (MP.out _ ((Below.refl w1.heap.size w1).drew)).mono ?_
    rintro e wa ⟨vp, rfl, ho, hb⟩
    have Hwa : Hid (Below w1.heap.size w1 wa) := ((Below.refl w1.heap.size w1).drew).trans (hb.mono ((Below.refl w1.heap.size w1).drew).size)
    have HPp := Lib.hid (IsPart.of_own ho (by rw [HMK.out.1]; omega) HMK.out.2)
    obtain ⟨Ap, cp, ep, _⟩ := own_form ho
    subst ep
    have kp := BackLaw.cv_of HPp.out
    unfold BackLaw.Cv at kp
    clear ho hb
    refine hK.out _ _ ?_ (fun hHeld => ?_)
    · exact HS.out _ Hwa.out
    clear hK K
    go_simp
    refine wpAnyH_ready (rs := [21, 25]) (by kernel_rfl) (by simp) ?_
    refine AllReadyH.cons rfl (fun K hK => ?_) ?_
    · skip
      go_simp
      refine hK.out _ _ ?_ (fun hHeld => ?_)
      · exact HS.out _ Hwa.out
      clear hK K
      go_simp
      refine wpAnyH_ready (rs := [25]) (by kernel_rfl) (by simp) ?_
      refine AllReadyH.cons rfl (fun K hK => ?_) AllReadyH.nil
      go_simp
      refine (MR.out _ Hwa.out).mono ?_
      rintro e wb ⟨vr, rfl, ho, hb⟩
      have Hwb : Hid (Below w1.heap.size w1 wb) := Hwa.out.trans (hb.mono Hwa.out.size)
      have HPr := Lib.hid (IsPart.of_own ho (by rw [HMK.out.1]; omega) HMK.out.2)
      obtain ⟨Ar, cr, er, _⟩ := own_form ho
      subst er
      have kr := BackLaw.cv_of HPr.out
      unfold BackLaw.Cv at kr
      have kp' := BackLaw.cv_of (HPp.out.below hb (Nat.le_refl _))
      unfold BackLaw.Cv at kp'
      clear ho hb
      refine hK.out _ _ ?_ (fun hHeld => ?_)
      · exact HS.out _ Hwb.out
      clear hK K
      go_simp
      refine wpAnyH_ready (rs := [26]) (by kernel_rfl) (by simp) ?_
      refine AllReadyH.cons rfl (fun K hK => ?_) AllReadyH.nil
      go_simp
      refine hK.out _ _ ?_ (fun hHeld => ?_)
      · exact HS.out _ Hwb.out
      clear hK K
      go_simp
      refine wpAnyH_take (i := 27) (v := ?_) rfl (by kernel_rfl) (by kernel_rfl) (by kernel_rfl) (fun _ _ _ h => h) (Or.inl ⟨by rfl, ?_⟩) (by assumption) ?_
      rotate_left
      · intro w hSw; (try dsimp only at hSw); go_simp; try with_reducible rfl
      go_simp
      refine wpAnyH_take (i := 28) (v := ?_) rfl (by kernel_rfl) (by kernel_rfl) (by kernel_rfl) (fun _ _ _ h => h) (Or.inl ⟨by rfl, ?_⟩) (by assumption) ?_
      rotate_left
      · intro w hSw; (try dsimp only at hSw); go_simp; try with_reducible rfl
      go_simp
      refine wpAnyH_take (i := 29) (v := ?_) rfl (by kernel_rfl) (by kernel_rfl) (by kernel_rfl) (fun _ _ _ h => h) (Or.inl ⟨by rfl, ?_⟩) (by assumption) ?_
      rotate_left
      · intro w hSw; (try dsimp only at hSw); go_simp; try with_reducible rfl
      go_simp
      refine wpAnyH_take (i := 30) (v := ?_) rfl (by kernel_rfl) (by kernel_rfl) (by kernel_rfl) (fun _ _ _ h => h) (Or.inl ⟨by rfl, ?_⟩) (by assumption) ?_
      rotate_left
      · intro w hSw; (try dsimp only at hSw); go_simp; try with_reducible rfl
      go_simp
      refine wpAnyH_take (i := 31) (v := ?_) rfl (by kernel_rfl) (by kernel_rfl) (by kernel_rfl) (fun _ _ _ h => h) (Or.inl ⟨by rfl, ?_⟩) (by assumption) ?_
      rotate_left
      · intro w hSw; (try dsimp only at hSw); go_simp; try with_reducible rfl
      go_simp
      refine wpAnyH_take (i := 32) (v := ?_) rfl (by kernel_rfl) (by kernel_rfl) (by kernel_rfl) (fun _ _ _ h => h) (Or.inl ⟨by rfl, ?_⟩) (by assumption) ?_
      rotate_left
      · intro w hSw; (try dsimp only at hSw); go_simp; try with_reducible rfl
      go_simp
      refine wpAnyH_take (i := 33) (v := ?_) rfl (by kernel_rfl) (by kernel_rfl) (by kernel_rfl) (fun _ _ _ h => h) (Or.inl ⟨by rfl, ?_⟩) (by assumption) ?_
      rotate_left
      · intro w hSw; (try dsimp only at hSw); go_simp; try with_reducible rfl
      go_simp
      refine wpAnyH_take (i := 34) (v := ?_) rfl (by kernel_rfl) (by kernel_rfl) (by kernel_rfl) (fun _ _ _ h => h) (Or.inl ⟨by rfl, ?_⟩) (by assumption) ?_
      rotate_left
      · intro w hSw; (try dsimp only at hSw); go_simp; try with_reducible rfl
      go_simp
      refine wpAnyH_take (i := 35) (v := ?_) rfl (by kernel_rfl) (by kernel_rfl) (by kernel_rfl) (fun _ _ _ h => h) (Or.inl ⟨by rfl, ?_⟩) (by assumption) ?_
      rotate_left
      · intro w hSw; (try dsimp only at hSw); go_simp; try with_reducible rfl
      go_simp
      refine wpAnyH_ready (rs := [36]) (by kernel_rfl) (by simp) ?_
      refine AllReadyH.cons rfl (fun K hK => ?_) AllReadyH.nil
      go_simp
      refine (RC.out _ Hwb.out).mono ?_
      rintro e wd ⟨vx, rfl, ho, hb⟩
      have Hwd : Hid (Below w1.heap.size w1 wd) := Hwb.out.trans (hb.mono Hwb.out.size)
      have HPx := Lib.hid (IsPart.of_own ho (by rw [HCN.out]; omega) HCL.out)
      obtain ⟨Ax, cx, ex, _⟩ := own_form ho
      subst ex
      have kx := BackLaw.cv_of HPx.out
      unfold BackLaw.Cv at kx
      clear ho hb
      refine hK.out _ _ ?_ (fun hHeld => ?_)
      · exact HS.out _ Hwd.out
      clear hK K
      go_simp
      refine wpAnyH_ready (rs := [37]) (by kernel_rfl) (by simp) ?_
      refine AllReadyH.cons rfl (fun K hK => ?_) AllReadyH.nil
      go_simp
      refine hK.out _ _ ?_ (fun hHeld => ?_)
      · exact HS.out _ Hwd.out
      clear hK K
      go_simp
      refine wpAnyH_take (i := 38) (v := ?_) rfl (by kernel_rfl) (by kernel_rfl) (by kernel_rfl) (fun _ _ _ h => h) (Or.inl ⟨by rfl, ?_⟩) (by assumption) ?_
      rotate_left
      · intro w hSw; (try dsimp only at hSw); go_simp; try with_reducible rfl
      go_simp
      refine wpAnyH_take (i := 39) (v := ?_) rfl (by kernel_rfl) (by kernel_rfl) (by kernel_rfl) (fun _ _ _ h => h) (Or.inl ⟨by rfl, ?_⟩) (by assumption) ?_
      rotate_left
      · intro w hSw; (try dsimp only at hSw); go_simp; try with_reducible rfl
      go_simp
      refine wpAnyH_done (by kernel_rfl) ?_ _
      go_wp2_with fail
      go_meet
      case rel => exact ⟨rfl, Hwd⟩
    refine AllReadyH.cons rfl (fun K hK => ?_) ?_
    · skip
      go_simp
      refine (MR.out _ Hwa.out).mono ?_
      rintro e wb ⟨vr, rfl, ho, hb⟩
      have Hwb : Hid (Below w1.heap.size w1 wb) := Hwa.out.trans (hb.mono Hwa.out.size)
      have HPr := Lib.hid (IsPart.of_own ho (by rw [HMK.out.1]; omega) HMK.out.2)
      obtain ⟨Ar, cr, er, _⟩ := own_form ho
      subst er
      have kr := BackLaw.cv_of HPr.out
      unfold BackLaw.Cv at kr
      have kp' := BackLaw.cv_of (HPp.out.below hb (Nat.le_refl _))
      unfold BackLaw.Cv at kp'
      clear ho hb
      refine hK.out _ _ ?_ (fun hHeld => ?_)
      · exact HS.out _ Hwb.out
      clear hK K
      go_simp
      refine wpAnyH_ready (rs := [21, 26]) (by kernel_rfl) (by simp) ?_
      refine AllReadyH.cons rfl (fun K hK => ?_) ?_
      · skip
        go_simp
        refine hK.out _ _ ?_ (fun hHeld => ?_)
        · exact HS.out _ Hwb.out
        clear hK K
        go_simp
        refine wpAnyH_ready (rs := [26]) (by kernel_rfl) (by simp) ?_
        refine AllReadyH.cons rfl (fun K hK => ?_) AllReadyH.nil
        go_simp
        refine hK.out _ _ ?_ (fun hHeld => ?_)
        · exact HS.out _ Hwb.out
        clear hK K
        go_simp
        refine wpAnyH_take (i := 27) (v := ?_) rfl (by kernel_rfl) (by kernel_rfl) (by kernel_rfl) (fun _ _ _ h => h) (Or.inl ⟨by rfl, ?_⟩) (by assumption) ?_
        rotate_left
        · intro w hSw; (try dsimp only at hSw); go_simp; try with_reducible rfl
        go_simp
        refine wpAnyH_take (i := 28) (v := ?_) rfl (by kernel_rfl) (by kernel_rfl) (by kernel_rfl) (fun _ _ _ h => h) (Or.inl ⟨by rfl, ?_⟩) (by assumption) ?_
        rotate_left
        · intro w hSw; (try dsimp only at hSw); go_simp; try with_reducible rfl
        go_simp
        refine wpAnyH_take (i := 29) (v := ?_) rfl (by kernel_rfl) (by kernel_rfl) (by kernel_rfl) (fun _ _ _ h => h) (Or.inl ⟨by rfl, ?_⟩) (by assumption) ?_
        rotate_left
        · intro w hSw; (try dsimp only at hSw); go_simp; try with_reducible rfl
        go_simp
        refine wpAnyH_take (i := 30) (v := ?_) rfl (by kernel_rfl) (by kernel_rfl) (by kernel_rfl) (fun _ _ _ h => h) (Or.inl ⟨by rfl, ?_⟩) (by assumption) ?_
        rotate_left
        · intro w hSw; (try dsimp only at hSw); go_simp; try with_reducible rfl
        go_simp
        refine wpAnyH_take (i := 31) (v := ?_) rfl (by kernel_rfl) (by kernel_rfl) (by kernel_rfl) (fun _ _ _ h => h) (Or.inl ⟨by rfl, ?_⟩) (by assumption) ?_
        rotate_left
        · intro w hSw; (try dsimp only at hSw); go_simp; try with_reducible rfl
        go_simp
        refine wpAnyH_take (i := 32) (v := ?_) rfl (by kernel_rfl) (by kernel_rfl) (by kernel_rfl) (fun _ _ _ h => h) (Or.inl ⟨by rfl, ?_⟩) (by assumption) ?_
        rotate_left
        · intro w hSw; (try dsimp only at hSw); go_simp; try with_reducible rfl
        go_simp
        refine wpAnyH_take (i := 33) (v := ?_) rfl (by kernel_rfl) (by kernel_rfl) (by kernel_rfl) (fun _ _ _ h => h) (Or.inl ⟨by rfl, ?_⟩) (by assumption) ?_
        rotate_left
        · intro w hSw; (try dsimp only at hSw); go_simp; try with_reducible rfl
        go_simp
        refine wpAnyH_take (i := 34) (v := ?_) rfl (by kernel_rfl) (by kernel_rfl) (by kernel_rfl) (fun _ _ _ h => h) (Or.inl ⟨by rfl, ?_⟩) (by assumption) ?_
        rotate_left
        · intro w hSw; (try dsimp only at hSw); go_simp; try with_reducible rfl
        go_simp
        refine wpAnyH_take (i := 35) (v := ?_) rfl (by kernel_rfl) (by kernel_rfl) (by kernel_rfl) (fun _ _ _ h => h) (Or.inl ⟨by rfl, ?_⟩) (by assumption) ?_
        rotate_left
        · intro w hSw; (try dsimp only at hSw); go_simp; try with_reducible rfl
        go_simp
        refine wpAnyH_ready (rs := [36]) (by kernel_rfl) (by simp) ?_
        refine AllReadyH.cons rfl (fun K hK => ?_) AllReadyH.nil
        go_simp
        refine (RC.out _ Hwb.out).mono ?_
        rintro e wd ⟨vx, rfl, ho, hb⟩
        have Hwd : Hid (Below w1.heap.size w1 wd) := Hwb.out.trans (hb.mono Hwb.out.size)
        have HPx := Lib.hid (IsPart.of_own ho (by rw [HCN.out]; omega) HCL.out)
        obtain ⟨Ax, cx, ex, _⟩ := own_form ho
        subst ex
        have kx := BackLaw.cv_of HPx.out
        unfold BackLaw.Cv at kx
        clear ho hb
        refine hK.out _ _ ?_ (fun hHeld => ?_)
        · exact HS.out _ Hwd.out
        clear hK K
        go_simp
        refine wpAnyH_ready (rs := [37]) (by kernel_rfl) (by simp) ?_
        refine AllReadyH.cons rfl (fun K hK => ?_) AllReadyH.nil
        go_simp
        refine hK.out _ _ ?_ (fun hHeld => ?_)
        · exact HS.out _ Hwd.out
        clear hK K
        go_simp
        refine wpAnyH_take (i := 38) (v := ?_) rfl (by kernel_rfl) (by kernel_rfl) (by kernel_rfl) (fun _ _ _ h => h) (Or.inl ⟨by rfl, ?_⟩) (by assumption) ?_
        rotate_left
        · intro w hSw; (try dsimp only at hSw); go_simp; try with_reducible rfl
        go_simp
        refine wpAnyH_take (i := 39) (v := ?_) rfl (by kernel_rfl) (by kernel_rfl) (by kernel_rfl) (fun _ _ _ h => h) (Or.inl ⟨by rfl, ?_⟩) (by assumption) ?_
        rotate_left
        · intro w hSw; (try dsimp only at hSw); go_simp; try with_reducible rfl
        go_simp
        refine wpAnyH_done (by kernel_rfl) ?_ _
        go_wp2_with fail
        go_meet
        case rel => exact ⟨rfl, Hwd⟩
      refine AllReadyH.cons rfl (fun K hK => ?_) ?_
      · skip
        go_simp
        refine hK.out _ _ ?_ (fun hHeld => ?_)
        · exact HS.out _ Hwb.out
        clear hK K
        go_simp
        refine wpAnyH_ready (rs := [21]) (by kernel_rfl) (by simp) ?_
        refine AllReadyH.cons rfl (fun K hK => ?_) AllReadyH.nil
        go_simp
        refine hK.out _ _ ?_ (fun hHeld => ?_)
        · exact HS.out _ Hwb.out
        clear hK K
        go_simp
        refine wpAnyH_take (i := 27) (v := ?_) rfl (by kernel_rfl) (by kernel_rfl) (by kernel_rfl) (fun _ _ _ h => h) (Or.inl ⟨by rfl, ?_⟩) (by assumption) ?_
        rotate_left
        · intro w hSw; (try dsimp only at hSw); go_simp; try with_reducible rfl
        go_simp
        refine wpAnyH_take (i := 28) (v := ?_) rfl (by kernel_rfl) (by kernel_rfl) (by kernel_rfl) (fun _ _ _ h => h) (Or.inl ⟨by rfl, ?_⟩) (by assumption) ?_
        rotate_left
        · intro w hSw; (try dsimp only at hSw); go_simp; try with_reducible rfl
        go_simp
        refine wpAnyH_take (i := 29) (v := ?_) rfl (by kernel_rfl) (by kernel_rfl) (by kernel_rfl) (fun _ _ _ h => h) (Or.inl ⟨by rfl, ?_⟩) (by assumption) ?_
        rotate_left
        · intro w hSw; (try dsimp only at hSw); go_simp; try with_reducible rfl
        go_simp
        refine wpAnyH_take (i := 30) (v := ?_) rfl (by kernel_rfl) (by kernel_rfl) (by kernel_rfl) (fun _ _ _ h => h) (Or.inl ⟨by rfl, ?_⟩) (by assumption) ?_
        rotate_left
        · intro w hSw; (try dsimp only at hSw); go_simp; try with_reducible rfl
        go_simp
        refine wpAnyH_take (i := 31) (v := ?_) rfl (by kernel_rfl) (by kernel_rfl) (by kernel_rfl) (fun _ _ _ h => h) (Or.inl ⟨by rfl, ?_⟩) (by assumption) ?_
        rotate_left
        · intro w hSw; (try dsimp only at hSw); go_simp; try with_reducible rfl
        go_simp
        refine wpAnyH_take (i := 32) (v := ?_) rfl (by kernel_rfl) (by kernel_rfl) (by kernel_rfl) (fun _ _ _ h => h) (Or.inl ⟨by rfl, ?_⟩) (by assumption) ?_
        rotate_left
        · intro w hSw; (try dsimp only at hSw); go_simp; try with_reducible rfl
        go_simp
        refine wpAnyH_take (i := 33) (v := ?_) rfl (by kernel_rfl) (by kernel_rfl) (by kernel_rfl) (fun _ _ _ h => h) (Or.inl ⟨by rfl, ?_⟩) (by assumption) ?_
        rotate_left
        · intro w hSw; (try dsimp only at hSw); go_simp; try with_reducible rfl
        go_simp
        refine wpAnyH_take (i := 34) (v := ?_) rfl (by kernel_rfl) (by kernel_rfl) (by kernel_rfl) (fun _ _ _ h => h) (Or.inl ⟨by rfl, ?_⟩) (by assumption) ?_
        rotate_left
        · intro w hSw; (try dsimp only at hSw); go_simp; try with_reducible rfl
        go_simp
        refine wpAnyH_take (i := 35) (v := ?_) rfl (by kernel_rfl) (by kernel_rfl) (by kernel_rfl) (fun _ _ _ h => h) (Or.inl ⟨by rfl, ?_⟩) (by assumption) ?_
        rotate_left
        · intro w hSw; (try dsimp only at hSw); go_simp; try with_reducible rfl
        go_simp
        refine wpAnyH_ready (rs := [36]) (by kernel_rfl) (by simp) ?_
        refine AllReadyH.cons rfl (fun K hK => ?_) AllReadyH.nil
        go_simp
        refine (RC.out _ Hwb.out).mono ?_
        rintro e wd ⟨vx, rfl, ho, hb⟩
        have Hwd : Hid (Below w1.heap.size w1 wd) := Hwb.out.trans (hb.mono Hwb.out.size)
        have HPx := Lib.hid (IsPart.of_own ho (by rw [HCN.out]; omega) HCL.out)
        obtain ⟨Ax, cx, ex, _⟩ := own_form ho
        subst ex
        have kx := BackLaw.cv_of HPx.out
        unfold BackLaw.Cv at kx
        clear ho hb
        refine hK.out _ _ ?_ (fun hHeld => ?_)
        · exact HS.out _ Hwd.out
        clear hK K
        go_simp
        refine wpAnyH_ready (rs := [37]) (by kernel_rfl) (by simp) ?_
        refine AllReadyH.cons rfl (fun K hK => ?_) AllReadyH.nil
        go_simp
        refine hK.out _ _ ?_ (fun hHeld => ?_)
        · exact HS.out _ Hwd.out
        clear hK K
        go_simp
        refine wpAnyH_take (i := 38) (v := ?_) rfl (by kernel_rfl) (by kernel_rfl) (by kernel_rfl) (fun _ _ _ h => h) (Or.inl ⟨by rfl, ?_⟩) (by assumption) ?_
        rotate_left
        · intro w hSw; (try dsimp only at hSw); go_simp; try with_reducible rfl
        go_simp
        refine wpAnyH_take (i := 39) (v := ?_) rfl (by kernel_rfl) (by kernel_rfl) (by kernel_rfl) (fun _ _ _ h => h) (Or.inl ⟨by rfl, ?_⟩) (by assumption) ?_
        rotate_left
        · intro w hSw; (try dsimp only at hSw); go_simp; try with_reducible rfl
        go_simp
        refine wpAnyH_done (by kernel_rfl) ?_ _
        go_wp2_with fail
        go_meet
        case rel => exact ⟨rfl, Hwd⟩
      exact AllReadyH.nil
    exact AllReadyH.nil
  case rest =>
  obtain ⟨rfl, HBc⟩ := hcut
  obtain ⟨w2, hw2⟩ : ∃ w2 : World, wc = w2 := ⟨_, rfl⟩
  subst hw2
  have HO2 := Lib.hid (own_below HO1.out HBc.out)
  have HB2 : Hid (Below w.heap.size w wc) := HB1.out.trans (HBc.out.mono HB1.out.size)
  have hcap : body.length + 8 ≤ c1 := by
    obtain ⟨_, _, e, h, _⟩ := own_form HO1.out
    simp only [Value.slice.injEq] at e
    omega
  go_upto_if 78 with (fail)
  go_cut [19] (fun v wx => v = .slice (some ⟨g, 0, none⟩) (body.length + 8) c1 ∧ ∃ l : List Nat, Hid (l.length = body.length + 8 ∧ (∀ c ∈ l, c < 256) ∧ wx.ownsRow w.heap.size 5 1 (.slice (some ⟨g, 0, none⟩) (body.length + 8) c1) (body.length + 8) (bv l) ∧ Below w.heap.size w wx))
  case first =>
    by_cases he : at_.tmod 2 = 0
    · have hx := getD_lt HCL.out k
      have hcell : wc.cell? ⟨g, k, none⟩ = some (.int .u8 ((x.getD k 0 : Nat) : Int)) := by
        rw [HO2.out.cellAt _ (by omega)]
        exact bv_get _ _ (by rw [HCN.out]; exact hkl)
      have hfz := HO2.out.frozenAt k
      have hby : by_ < 256 := by omega
      have HXR := Lib.hid (u8x (x.getD k 0) by_ hx hby)
      have HN : Hid ((x.set k (x.getD k 0 ^^^ by_)).length = body.length + 8 ∧ (∀ c ∈ x.set k (x.getD k 0 ^^^ by_), c < 256) ∧ (wc.setCell ⟨g, k, none⟩ (.int .u8 ((x.getD k 0 ^^^ by_ : Nat) : Int))).ownsRow w.heap.size 5 1 (.slice (some ⟨g, 0, none⟩) (body.length + 8) c1) (body.length + 8) (bv (x.set k (x.getD k 0 ^^^ by_))) ∧ Below w.heap.size w (wc.setCell ⟨g, k, none⟩ (.int .u8 ((x.getD k 0 ^^^ by_ : Nat) : Int)))) := by
        refine ⟨by rw [List.length_set, HCN.out], fun c hc => ?_, ?_, HB2.out.setCell HG1.out _⟩
        · rcases List.mem_or_eq_of_mem_set hc with h | h
          · exact HCL.out c h
          · rw [h]; exact Nat.xor_lt_two_pow (n := 8) hx hby
        · have := (HO2.out.stored k (.int .u8 ((x.getD k 0 ^^^ by_ : Nat) : Int))).1
          rw [bv_set] at this
          exact this
      obtain ⟨y, hyy⟩ : ∃ y, Hid (x.getD k 0 = y) := ⟨_, rfl⟩
      rw [hyy.out] at hcell HXR HN
      have hki : (k : Int) < (body.length : Int) + 8 := by omega
      clear hx hkl
      go_wp2_with fail
      refine (PK1.out _ _ (by first | rfl | omega | simp)).mono ?_; rintro e w' ⟨rfl, rfl⟩
      go_wp2_with fail
      rw [HXR.out]
      go_meet
      case rel => exact ⟨rfl, _, HN⟩
    · have he2 : (at_.tmod 2 == 0) = false := by simpa using he
      go_wp2_with fail
      go_meet
      case rel => exact ⟨rfl, x, HCN.out, HCL.out, HO2.out, HB2.out⟩
  case rest =>
  obtain ⟨rfl, l, HL⟩ := hcut
  obtain ⟨w3, hw3⟩ : ∃ w3 : World, wc = w3 := ⟨_, rfl⟩
  subst hw3
  have HPl : Hid (IsPart wc wc.heap.size (.slice (some ⟨g, 0, none⟩) (body.length + 8) c1) l) := by
    have := IsPart.of_own HL.out.2.2.1 (by rw [HL.out.1]; omega) HL.out.2.1
    exact this
  go_upto_if 91 with (fail)
  go_cut [19] (fun v wx => ∃ (n : Nat) (l' : List Nat), v = .slice (some ⟨g, 0, none⟩) n c1 ∧ Hid (IsPart wx wx.heap.size (.slice (some ⟨g, 0, none⟩) n c1) l' ∧ Below w.heap.size w wx))
  case first =>
    by_cases he : at_.tmod 5 = 4
    · have hji : (j : Int) ≤ (c1 : Int) := by omega
      have HN := Lib.hid (And.intro (ApartLaw.IsPart.head HPl.out (k := j) hjl) HL.out.2.2.2)
      go_wp2_with fail
      refine (PK2.out _ _ (by omega)).mono ?_; rintro e w' ⟨rfl, rfl⟩
      go_wp2_with fail
      go_meet
      case rel => exact ⟨j, _, rfl, HN⟩
    · have he2 : (at_.tmod 5 == 4) = false := by simpa using he
      go_wp2_with fail
      go_meet
      case rel => exact ⟨_, l, rfl, HPl.out, HL.out.2.2.2⟩
  case rest =>
  obtain ⟨n, l', rfl, HN⟩ := hcut
  obtain ⟨w4, hw4⟩ : ∃ w4 : World, wc = w4 := ⟨_, rfl⟩
  subst hw4
  go_wp2_with fail
  have i0 : ∀ W : World, (Instr.index 63 (.agg #[.slice (some ⟨g, 0, none⟩) n c1, .slice A2 body.length cap2]) (.int .i64 0)).run Try.prog W = .ok (.slice (some ⟨g, 0, none⟩) n c1) W := fun _ => by kernel_rfl
  have i1 : ∀ W : World, (Instr.index 63 (.agg #[.slice (some ⟨g, 0, none⟩) n c1, .slice A2 body.length cap2]) (.int .i64 1)).run Try.prog W = .ok (.slice A2 body.length cap2) W := fun _ => by kernel_rfl
  go_loopw [102] (fun i wr => ∃ q : Nat, q ≤ 2 ∧ i = .int .i64 q ∧ Hid (Below wc.heap.size wc wr)) (fun i _ => 2 - (intOf i).toNat)
  case atStart => exact ⟨0, by omega, rfl, Below.refl _ _⟩
  case round =>
    obtain ⟨q, hq, rfl, HK⟩ := hrel
    have HBr : Hid (Below w.heap.size w wr) := HN.out.2.trans (HK.out.mono HN.out.2.size)
    have hqc : q = 0 ∨ q = 1 ∨ q = 2 := by omega
    clear hq
    rcases hqc with rfl | rfl | rfl
    · have HY : Hid (IsPart wr wr.heap.size (.slice (some ⟨g, 0, none⟩) n c1) l') := (HN.out.1.below HK.out (Nat.le_refl _)).more HK.out.size
      go_wp2_with fail
      refine (O1.out _ l' _ HBr.out HY.out).mono ?_; rintro e w5 ⟨v5, rfl, hp5, hb5⟩
      have HB5 := Lib.hid (HBr.out.trans (hb5.mono HBr.out.size))
      have HY5 := Lib.hid ((HY.out.below hb5 (Nat.le_refl _)).more hb5.size)
      have HP5 := Lib.hid hp5
      have HK5 := Lib.hid (HK.out.trans (hb5.mono HK.out.size))
      clear hp5 hb5
      go_wp2_with fail
      refine (O2.out _ l' _ HB5.out HY5.out).mono ?_; rintro e w6 ⟨v6, rfl, hp6, hb6⟩
      have HK6 := Lib.hid (HK5.out.trans (hb6.mono HK5.out.size))
      have k5 := cv_of (HP5.out.below hb6 (Nat.le_refl _))
      have k6 := cv_of hp6
      unfold BackLaw.Cv at k5 k6
      clear hp6 hb6
      go_wp2_with fail
      go_roundw
      case rel => exact ⟨1, by omega, by go_num, HK6⟩
      case measure => simp [intOf]
    · have HY : Hid (IsPart wr wr.heap.size (.slice A2 body.length cap2) body) := (Pb.out.below HBr.out (Nat.le_refl _)).more HBr.out.size
      go_wp2_with fail
      refine (O1.out _ body _ HBr.out HY.out).mono ?_; rintro e w5 ⟨v5, rfl, hp5, hb5⟩
      have HB5 := Lib.hid (HBr.out.trans (hb5.mono HBr.out.size))
      have HY5 := Lib.hid ((HY.out.below hb5 (Nat.le_refl _)).more hb5.size)
      have HP5 := Lib.hid hp5
      have HK5 := Lib.hid (HK.out.trans (hb5.mono HK.out.size))
      clear hp5 hb5
      go_wp2_with fail
      refine (O2.out _ body _ HB5.out HY5.out).mono ?_; rintro e w6 ⟨v6, rfl, hp6, hb6⟩
      have HK6 := Lib.hid (HK5.out.trans (hb6.mono HK5.out.size))
      have k5 := cv_of (HP5.out.below hb6 (Nat.le_refl _))
      have k6 := cv_of hp6
      unfold BackLaw.Cv at k5 k6
      clear hp6 hb6
      go_wp2_with fail
      go_roundw
      case rel => exact ⟨2, by omega, by go_num, HK6⟩
      case measure => simp [intOf]
    · go_wp2_with fail
      refine (Known.known_any _).mono ?_; rintro e w7 ⟨rfl, hb7⟩
      have HE := Lib.hid (HBr.out.trans (hb7.mono HBr.out.size))
      clear hb7
      go_wp2_with fail
      go_ret
      exact ⟨rfl, HE.out⟩

theorem walk' (key hs cs : Nat) (num : Int) (A : Option Addr) (cap : Nat) (head : List Nat) (A2 : Option Addr) (cap2 : Nat) (body : List Nat) (A3 : Option Addr) (cap3 : Nat) (ps : List (List Nat)) (at_ by_ : Int) (w : World) (hkey : key < 2 ^ 64) (hhs : hs < 2 ^ 64) (hcs : cs < 2 ^ 64) (_ : -9223372036854775808 ≤ num) (_ : num ≤ 9223372036854775807) (ha : IsBytes w A cap head) (hb : IsBytes w A2 cap2 body) (hp : IsParts w A3 cap3 ps) (ht1 : -9223372036854775808 ≤ at_) (ht2 : at_ ≤ 9223372036854775807) (hy1 : 0 ≤ by_) (hy2 : by_ ≤ 255) :
    Calls Try.prog 10 #[.int .u64 (key : Int), .int .u64 (hs : Int), .int .u64 (cs : Int), .int .i64 num, .slice A head.length cap, .slice A2 body.length cap2, .slice A3 ps.length cap3, .int .i64 at_, .int .u8 by_] w fun e w' => e = .returned (.bool true) ∧ Below w.heap.size w w' := by
  obtain ⟨y, rfl⟩ := Int.eq_ofNat_of_zero_le hy1
  exact walk key hs cs num A cap head A2 cap2 body A3 cap3 ps at_ y w hkey hhs hcs ha hb hp ht1 ht2 (by omega)
end Go.Proofs.Ytegfaecbealnhab.TellsLaw
