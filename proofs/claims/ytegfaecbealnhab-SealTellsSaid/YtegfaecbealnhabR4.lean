/- The reference's Open: contracts. Conditions: as each theorem lists them. -/
import Derived.Test.YtegfaecbealnhabR3
import Derived.Test.YtegfaecbealnhabB1
import Derived.Deep.DeepCutAuto
namespace Go.Proofs.Ytegfaecbealnhab
open Go Go.RowKit

set_option maxRecDepth 100000 in
set_option maxHeartbeats 400000 in
theorem ropen_short (key : Nat) (num : Int) (vh : Value) (n : Nat) (A : Option Addr) (c : Nat) (w : World) (hn : n < 8) :
    Calls Try.prog 47 #[.int .u64 (key : Int), .int .i64 num, vh, .slice A n c] w fun e w' => e = .returned (.tuple #[.slice none 0 0, .bool false]) ∧ Below w.heap.size w w' := by
  have h1 : (n : Int) < 8 := by omega
  have h2 : decide ((n : Int) < 8) = true := by simp; omega
  have h3 : decide ((n : Int) - 8 < 0) = true := by simp; omega
  have h4 : (n : Int) - 8 < 0 := by omega
  go_enter Try.func47, Try.ntmps47
  go_wp2_with fail
  go_quiet (fail)
  go_wp2
  go_ret2
  exact ⟨rfl, ⟨rfl, rfl, rfl, Nat.le_refl _, fun _ _ => rfl⟩⟩

theorem str_ne {a b : List Nat} (ha : ∀ c ∈ a, c < 256) (hb : ∀ c ∈ b, c < 256) (h : a ≠ b) : ((strOf a).toList == (strOf b).toList) = false := by
  refine beq_false_of_ne fun e => h (strOf_inj ha hb ?_)
  rw [ByteArray.toList_eq, ByteArray.toList_eq] at e
  exact WideShapes.bytes_inj e

set_option maxRecDepth 100000 in
set_option maxHeartbeats 1000000 in
theorem ropen_long (key : Nat) (num : Int) (head sealed : List Nat) (vh vs : Value) (B : Nat) (w : World) (hk : key < 2 ^ 64) (hh : IsPart w B vh head) (hb : IsPart w B vs sealed) (hB : B ≤ w.heap.size) (n : Nat) (hn : sealed.length = n + 8) :
    Calls Try.prog 47 #[.int .u64 (key : Int), .int .i64 num, vh, vs] w fun e w' => ∃ v', e = .returned (.tuple #[v', .bool (openB key num head sealed)]) ∧ (openB key num head sealed = true → w'.ownsRow w.heap.size 5 1 v' n (bv (maskN (stpN key (unN num)) (sealed.take n)))) ∧ (openB key num head sealed = false → v' = .slice none 0 0) ∧ Below w.heap.size w w' := by
  have HH := Lib.hid hh
  have HBw := Lib.hid hB
  have hb' := hb
  obtain ⟨Ah, ch, rfl, _, _, _, _⟩ := hh
  obtain ⟨Ab, cb, rfl, hrb, hcb, hmb, hlb⟩ := hb
  rw [hn] at hrb hcb hmb hb' ⊢
  obtain ⟨b, off, hA, _, _⟩ := hrb.2 (by omega)
  subst hA
  have hr1 := hrb.head n (by omega)
  have hr2 := hrb.tail cb n (by omega) hcb
  rw [bv_take] at hr1
  rw [bv_drop, show n + 8 - n = 8 by omega] at hr2
  have hl1 : (sealed.take n).length = n := by rw [List.length_take]; omega
  have hl2 : (sealed.drop n).length = 8 := by rw [List.length_drop]; omega
  have b1 : ∀ c ∈ sealed.take n, c < 256 := fun c hc => hlb c (List.mem_of_mem_take hc)
  have b2 : ∀ c ∈ sealed.drop n, c < 256 := fun c hc => hlb c (List.mem_of_mem_drop hc)
  have hq := stpN_lt key (unN num)
  have N : ∀ W, Calls Try.prog 43 #[.int .u64 (key : Int), .int .u64 (IntKind.u64.wrap num)] W fun e w' => e = .returned (.int .u64 (stpN key (unN num) : Int)) ∧ W = w' := fun W => by
    have := rstep_any key (unN num) W hk (unN_lt num)
    rwa [← unN_wrap] at this
  obtain ⟨q, hqq⟩ : ∃ q, Hid (stpN key (unN num) = q) := ⟨_, rfl⟩
  have HO : Hid (openB key num head sealed = decide (sealed.drop n = eightN (tagN q [head, sealed.take n]))) := by
    show _ = _
    unfold openB
    rw [hn, show n + 8 - 8 = n by omega, hqq.out]
    rw [hqq.out] at hq
    have ht := tagN_lt [head, sealed.take n] q hq
    by_cases e : sealed.drop n = eightN (tagN q [head, sealed.take n])
    · rw [decide_eq_true e, decide_eq_true ⟨by omega, by rw [e, readN_eight _ ht]⟩]
    · rw [decide_eq_false e, decide_eq_false]
      rintro ⟨_, h⟩
      exact e (read_inj _ _ hl2 rfl b2 (eightN_lt _) (by rw [h, readN_eight _ ht]))
  rw [HO.out, hqq.out]
  rw [hqq.out] at hq N
  obtain ⟨a, haa⟩ : ∃ a, Hid (sealed.take n = a) := ⟨_, rfl⟩
  obtain ⟨z, hzz⟩ : ∃ z, Hid (sealed.drop n = z) := ⟨_, rfl⟩
  rw [haa.out] at hr1 hl1 b1 ⊢
  rw [hzz.out] at hr2 hl2 b2 ⊢
  have ht : tailA (some ⟨b, off, none⟩) cb n = some ⟨b, off + n, none⟩ := by unfold tailA; rw [if_neg (by omega)]; simp [Addr.add_lit]
  rw [ht] at hr2
  have HPa : Hid (IsPart w B (.slice (some ⟨b, off, none⟩) n cb) a) := ⟨_, _, by rw [hl1], by rw [hl1]; exact hr1, by omega, by omega, b1⟩
  have HPz : Hid (IsPart w B (.slice (some ⟨b, off + n, none⟩) 8 (cb - n)) z) := ⟨_, _, by rw [hl2], by rw [hl2]; exact hr2, by omega, by omega, b2⟩
  have M := Lib.hid (fun (W : World) (h : Below w.heap.size w W) => rmask_part key num a B (.slice (some ⟨b, off, none⟩) n cb) W hk (HPa.out.below h HBw.out) (Nat.le_trans HBw.out h.size))
  have T := Lib.hid (fun (W : World) (g : Nat) (h : Below w.heap.size w W) (hg : g = W.heap.size) => rtag_at q [head, a] _ g 2 _ hq (parts_two 53 (HH.out.below h HBw.out) (HPa.out.below h HBw.out) (Nat.le_trans HBw.out h.size)) hg rfl (by simp))
  have ht64 := tagN_lt [head, a] q hq
  obtain ⟨t, htt⟩ : ∃ t, Hid (tagN q [head, a] = t) := ⟨_, rfl⟩
  rw [htt.out] at T ht64 ⊢
  rw [hqq.out, hl1] at M
  have E := Lib.hid (fun W => eight_any t W ht64)
  have N := Lib.hid N
  have BZ := Lib.hid b2
  have hnc : (n : Int) ≤ (cb : Int) := by omega
  have hnc2 : ¬ (cb : Int) = (n : Int) := by omega
  have hnc3 : ¬ cb = n := by omega
  have hn8 : (n : Int) + 8 ≤ (cb : Int) := by omega
  have HS : Hid (∀ W', Below w.heap.size w W' → Below w.heap.size w W' ∧ (convert 53 9 (.slice (some ⟨b, off + n, none⟩) 8 (cb - n))).run Try.prog W' = .ok (.string (strOf z)) W') := fun W' hW => ⟨hW, by
    obtain ⟨A, c, e, h1, _⟩ := HPz.out.below hW HBw.out
    have := conv_run W' 53 9 5 Try.underlying53 Try.underlying5 Try.underlying9 B A _ c z h1
    rw [← e] at this
    exact this⟩
  clear hr1 hr2 hl1 hl2 b1 b2 hk hn hB hq ht ht64 hrb hlb hb'
  have hnn : (n : Int) ≤ (n : Int) + 8 := by omega
  have hn0 : decide ((n : Int) < 0) = false := by simp
  by_cases hE : z = eightN t
  · have HE := Lib.hid hE
    rw [decide_eq_true hE]
    clear hE
    go_enter Try.func47, Try.ntmps47
    go_wp2_with fail
    refine wp_region_noPanic ?_
    refine wp_region_held_drew (S := fun W' => Below w.heap.size w W' ∧ (convert 53 9 (.slice (some ⟨b, off + n, none⟩) 8 (cb - n))).run Try.prog W' = .ok (.string (strOf z)) W') (by kernel_rfl) ?_ (fun hHeld => ?_)
    · exact HS.out _ (Below.refl _ _).drew
    refine wpAnyH_take (i := 0) (v := ?_) rfl (by kernel_rfl) (by kernel_rfl) (by kernel_rfl) (fun _ _ _ h => h) (Or.inl ⟨by rfl, ?_⟩) (by assumption) ?_
    rotate_left
    · intro w hSw; (try dsimp only at hSw); go_simp; try with_reducible rfl
    go_simp
    refine wpAnyH_take (i := 1) (v := ?_) rfl (by kernel_rfl) (by kernel_rfl) (by kernel_rfl) (fun _ _ _ h => h) (Or.inl ⟨by rfl, ?_⟩) (by assumption) ?_
    rotate_left
    · intro w hSw; (try dsimp only at hSw); go_simp; try with_reducible rfl
    go_simp
    refine wpAnyH_take (i := 2) (v := ?_) rfl (by kernel_rfl) (by kernel_rfl) (by kernel_rfl) (fun _ _ _ h => h) (Or.inl ⟨by rfl, ?_⟩) (by assumption) ?_
    rotate_left
    · intro w hSw; (try dsimp only at hSw); go_simp; try with_reducible rfl
    go_simp
    refine wpAnyH_take (i := 3) (v := ?_) rfl (by kernel_rfl) (by kernel_rfl) (by kernel_rfl) (fun _ _ _ h => h) (Or.inl ⟨by rfl, ?_⟩) (by assumption) ?_
    rotate_left
    · intro w hSw; (try dsimp only at hSw); go_simp; try with_reducible rfl
    go_simp
    refine wpAnyH_take (i := 4) (v := ?_) rfl (by kernel_rfl) (by kernel_rfl) (by kernel_rfl) (fun _ _ _ h => h) (Or.inl ⟨by rfl, ?_⟩) (by assumption) ?_
    rotate_left
    · intro w hSw; (try dsimp only at hSw); go_simp; try with_reducible rfl
    go_simp
    refine wpAnyH_take (i := 5) (v := ?_) rfl (by kernel_rfl) (by kernel_rfl) (by kernel_rfl) (fun _ _ _ h => h) (Or.inl ⟨by rfl, ?_⟩) (by assumption) ?_
    rotate_left
    · intro w hSw; (try dsimp only at hSw); go_simp; try with_reducible rfl
    go_simp
    refine wpAnyH_take (i := 7) (v := ?_) rfl (by kernel_rfl) (by kernel_rfl) (by kernel_rfl) (fun _ _ _ h => h) (Or.inl ⟨by rfl, ?_⟩) (by assumption) ?_
    rotate_left
    · intro w hSw; (try dsimp only at hSw); go_simp; try with_reducible rfl
    go_simp
    refine wpAnyH_take (i := 8) (v := ?_) rfl (by kernel_rfl) (by kernel_rfl) (by kernel_rfl) (fun _ _ _ h => h) (Or.inl ⟨by rfl, ?_⟩) (by assumption) ?_
    rotate_left
    · intro w hSw; (try dsimp only at hSw); go_simp; try with_reducible rfl
    go_simp
    refine wpAnyH_take (i := 9) (v := ?_) rfl (by kernel_rfl) (by kernel_rfl) (by kernel_rfl) (fun _ _ _ h => h) (Or.inl ⟨by rfl, ?_⟩) (by assumption) ?_
    rotate_left
    · intro w hSw; (try dsimp only at hSw); go_simp; try with_reducible rfl
    go_simp
    refine wpAnyH_take (i := 10) (v := ?_) rfl (by kernel_rfl) (by kernel_rfl) (by kernel_rfl) (fun _ _ _ h => h) (Or.inl ⟨by rfl, ?_⟩) (by assumption) ?_
    rotate_left
    · intro w hSw; (try dsimp only at hSw); go_simp; try with_reducible rfl
    go_simp
    refine wpAnyH_take (i := 15) (v := ?_) rfl (by kernel_rfl) (by kernel_rfl) (by kernel_rfl) (fun _ _ _ h => h) (Or.inl ⟨by rfl, ?_⟩) (by assumption) ?_
    rotate_left
    · intro w hSw; (try dsimp only at hSw); go_simp; try with_reducible rfl
    go_simp
    refine wpAnyH_take (i := 16) (v := ?_) rfl (by kernel_rfl) (by kernel_rfl) (by kernel_rfl) (fun _ _ _ h => h) (Or.inl ⟨by rfl, ?_⟩) (by assumption) ?_
    rotate_left
    · intro w hSw; (try dsimp only at hSw); go_simp; try with_reducible rfl
    go_simp
    refine wpAnyH_take (i := 17) (v := ?_) rfl (by kernel_rfl) (by kernel_rfl) (by kernel_rfl) (fun _ _ _ h => h) (Or.inl ⟨by rfl, ?_⟩) (by assumption) ?_
    rotate_left
    · intro w hSw; (try dsimp only at hSw); go_simp; try with_reducible rfl
    go_simp
    refine wpAnyH_take (i := 18) (v := ?_) rfl (by kernel_rfl) (by kernel_rfl) (by kernel_rfl) (fun _ _ _ h => h) (Or.inl ⟨by rfl, ?_⟩) (by assumption) ?_
    rotate_left
    · intro w hSw; (try dsimp only at hSw); go_simp; try with_reducible rfl
    go_simp
    refine wpAnyH_ready (rs := [6, 11]) (by kernel_rfl) (by simp) ?_
    refine AllReadyH.cons rfl (fun K hK => ?_) ?_
    · skip
      go_simp
      refine (N.out _).mono ?_
      rintro e w' ⟨rfl, rfl⟩
      refine hK.out _ _ ?_ (fun hHeld => ?_)
      · exact HS.out _ (Below.refl _ _).drew
      clear hK K
      go_simp
      refine wpAnyH_ready (rs := [11]) (by kernel_rfl) (by simp) ?_
      refine AllReadyH.cons rfl (fun K hK => ?_) AllReadyH.nil
      go_simp
      refine hK.out _ _ ?_ (fun hHeld => ?_)
      · exact HS.out _ ((Below.refl _ _).drew.alloc (Nat.le_refl _) _)
      clear hK K
      go_simp
      refine wpAnyH_ready (rs := [12]) (by kernel_rfl) (by simp) ?_
      refine AllReadyH.cons rfl (fun K hK => ?_) AllReadyH.nil
      go_simp
      refine (T.out w.drew _ (Below.refl _ _).drew (by simp)).mono ?_
      rintro e w' ⟨rfl, rfl⟩
      refine hK.out _ _ ?_ (fun hHeld => ?_)
      · exact HS.out _ ((Below.refl _ _).drew.alloc (Nat.le_refl _) _)
      clear hK K
      go_simp
      refine wpAnyH_ready (rs := [13]) (by kernel_rfl) (by simp) ?_
      refine AllReadyH.cons rfl (fun K hK => ?_) AllReadyH.nil
      go_simp
      refine (E.out _).mono ?_
      rintro e w3 ⟨v3, rfl, ho3, hb3⟩
      have HB3 : Hid (Below w.heap.size w w3) := ((Below.refl _ _).drew.alloc (Nat.le_refl _) _).trans (hb3.mono (by simp))
      have HP3 := IsPart.of_own ho3 (by simp [eightN]) (eightN_lt t)
      obtain ⟨A3, c3, e3, _⟩ := own_form ho3
      subst e3
      have k3 := BackLaw.cv_of HP3
      unfold BackLaw.Cv at k3
      clear ho3 hb3 HP3
      rw [← HE.out] at k3
      refine hK.out _ _ ?_ (fun hHeld => ?_)
      · exact HS.out _ HB3.out
      clear hK K
      go_simp
      refine wpAnyH_ready (rs := [14]) (by kernel_rfl) (by simp) ?_
      refine AllReadyH.cons rfl (fun K hK => ?_) AllReadyH.nil
      go_simp
      refine hK.out _ _ ?_ (fun hHeld => ?_)
      · exact HS.out _ HB3.out
      clear hK K
      go_simp
      refine wpAnyH_take (i := 19) (v := ?_) rfl (by kernel_rfl) (by kernel_rfl) (by kernel_rfl) (fun _ _ _ h => h) (Or.inl ⟨by rfl, ?_⟩) (by assumption) ?_
      rotate_left
      · intro w hSw; (try dsimp only at hSw); go_simp; try with_reducible rfl
      go_simp
      refine wpAnyH_take (i := 20) (v := ?_) rfl (by kernel_rfl) (by kernel_rfl) (by kernel_rfl) (fun _ _ _ h => h) (Or.inl ⟨by rfl, ?_⟩) (by assumption) ?_
      rotate_left
      · intro w hSw; (try dsimp only at hSw); go_simp; try with_reducible rfl
      go_simp
      refine wpAnyH_done (by kernel_rfl) ?_ _
      refine NoPanic.normal ?_
      go_wp2_with fail
      refine (M.out _ HB3.out).mono ?_; rintro e w4 ⟨v4, rfl, ho4, hb4⟩
      have H4 := Lib.hid (And.intro (own_base ho4 HB3.out.size) (HB3.out.trans (hb4.mono HB3.out.size)))
      clear ho4 hb4
      go_wp2
      go_ret2
      exact ⟨_, rfl, fun _ => H4.out.1, fun h => (by cases h), H4.out.2⟩
    refine AllReadyH.cons rfl (fun K hK => ?_) ?_
    · skip
      go_simp
      refine hK.out _ _ ?_ (fun hHeld => ?_)
      · exact HS.out _ ((Below.refl _ _).drew.alloc (Nat.le_refl _) _)
      clear hK K
      go_simp
      refine wpAnyH_ready (rs := [6]) (by kernel_rfl) (by simp) ?_
      refine AllReadyH.cons rfl (fun K hK => ?_) AllReadyH.nil
      go_simp
      refine (N.out _).mono ?_
      rintro e w' ⟨rfl, rfl⟩
      refine hK.out _ _ ?_ (fun hHeld => ?_)
      · exact HS.out _ ((Below.refl _ _).drew.alloc (Nat.le_refl _) _)
      clear hK K
      go_simp
      refine wpAnyH_ready (rs := [12]) (by kernel_rfl) (by simp) ?_
      refine AllReadyH.cons rfl (fun K hK => ?_) AllReadyH.nil
      go_simp
      refine (T.out w.drew _ (Below.refl _ _).drew (by simp)).mono ?_
      rintro e w' ⟨rfl, rfl⟩
      refine hK.out _ _ ?_ (fun hHeld => ?_)
      · exact HS.out _ ((Below.refl _ _).drew.alloc (Nat.le_refl _) _)
      clear hK K
      go_simp
      refine wpAnyH_ready (rs := [13]) (by kernel_rfl) (by simp) ?_
      refine AllReadyH.cons rfl (fun K hK => ?_) AllReadyH.nil
      go_simp
      refine (E.out _).mono ?_
      rintro e w3 ⟨v3, rfl, ho3, hb3⟩
      have HB3 : Hid (Below w.heap.size w w3) := ((Below.refl _ _).drew.alloc (Nat.le_refl _) _).trans (hb3.mono (by simp))
      have HP3 := IsPart.of_own ho3 (by simp [eightN]) (eightN_lt t)
      obtain ⟨A3, c3, e3, _⟩ := own_form ho3
      subst e3
      have k3 := BackLaw.cv_of HP3
      unfold BackLaw.Cv at k3
      clear ho3 hb3 HP3
      rw [← HE.out] at k3
      refine hK.out _ _ ?_ (fun hHeld => ?_)
      · exact HS.out _ HB3.out
      clear hK K
      go_simp
      refine wpAnyH_ready (rs := [14]) (by kernel_rfl) (by simp) ?_
      refine AllReadyH.cons rfl (fun K hK => ?_) AllReadyH.nil
      go_simp
      refine hK.out _ _ ?_ (fun hHeld => ?_)
      · exact HS.out _ HB3.out
      clear hK K
      go_simp
      refine wpAnyH_take (i := 19) (v := ?_) rfl (by kernel_rfl) (by kernel_rfl) (by kernel_rfl) (fun _ _ _ h => h) (Or.inl ⟨by rfl, ?_⟩) (by assumption) ?_
      rotate_left
      · intro w hSw; (try dsimp only at hSw); go_simp; try with_reducible rfl
      go_simp
      refine wpAnyH_take (i := 20) (v := ?_) rfl (by kernel_rfl) (by kernel_rfl) (by kernel_rfl) (fun _ _ _ h => h) (Or.inl ⟨by rfl, ?_⟩) (by assumption) ?_
      rotate_left
      · intro w hSw; (try dsimp only at hSw); go_simp; try with_reducible rfl
      go_simp
      refine wpAnyH_done (by kernel_rfl) ?_ _
      refine NoPanic.normal ?_
      go_wp2_with fail
      refine (M.out _ HB3.out).mono ?_; rintro e w4 ⟨v4, rfl, ho4, hb4⟩
      have H4 := Lib.hid (And.intro (own_base ho4 HB3.out.size) (HB3.out.trans (hb4.mono HB3.out.size)))
      clear ho4 hb4
      go_wp2
      go_ret2
      exact ⟨_, rfl, fun _ => H4.out.1, fun h => (by cases h), H4.out.2⟩
    exact AllReadyH.nil
  · have hs := str_ne (eightN_lt t) BZ.out (fun e => hE e.symm)
    rw [decide_eq_false hE]
    go_enter Try.func47, Try.ntmps47
    go_wp2_with fail
    refine wp_region_noPanic ?_
    refine wp_region_held_drew (S := fun W' => Below w.heap.size w W' ∧ (convert 53 9 (.slice (some ⟨b, off + n, none⟩) 8 (cb - n))).run Try.prog W' = .ok (.string (strOf z)) W') (by kernel_rfl) ?_ (fun hHeld => ?_)
    · exact HS.out _ (Below.refl _ _).drew
    refine wpAnyH_take (i := 0) (v := ?_) rfl (by kernel_rfl) (by kernel_rfl) (by kernel_rfl) (fun _ _ _ h => h) (Or.inl ⟨by rfl, ?_⟩) (by assumption) ?_
    rotate_left
    · intro w hSw; (try dsimp only at hSw); go_simp; try with_reducible rfl
    go_simp
    refine wpAnyH_take (i := 1) (v := ?_) rfl (by kernel_rfl) (by kernel_rfl) (by kernel_rfl) (fun _ _ _ h => h) (Or.inl ⟨by rfl, ?_⟩) (by assumption) ?_
    rotate_left
    · intro w hSw; (try dsimp only at hSw); go_simp; try with_reducible rfl
    go_simp
    refine wpAnyH_take (i := 2) (v := ?_) rfl (by kernel_rfl) (by kernel_rfl) (by kernel_rfl) (fun _ _ _ h => h) (Or.inl ⟨by rfl, ?_⟩) (by assumption) ?_
    rotate_left
    · intro w hSw; (try dsimp only at hSw); go_simp; try with_reducible rfl
    go_simp
    refine wpAnyH_take (i := 3) (v := ?_) rfl (by kernel_rfl) (by kernel_rfl) (by kernel_rfl) (fun _ _ _ h => h) (Or.inl ⟨by rfl, ?_⟩) (by assumption) ?_
    rotate_left
    · intro w hSw; (try dsimp only at hSw); go_simp; try with_reducible rfl
    go_simp
    refine wpAnyH_take (i := 4) (v := ?_) rfl (by kernel_rfl) (by kernel_rfl) (by kernel_rfl) (fun _ _ _ h => h) (Or.inl ⟨by rfl, ?_⟩) (by assumption) ?_
    rotate_left
    · intro w hSw; (try dsimp only at hSw); go_simp; try with_reducible rfl
    go_simp
    refine wpAnyH_take (i := 5) (v := ?_) rfl (by kernel_rfl) (by kernel_rfl) (by kernel_rfl) (fun _ _ _ h => h) (Or.inl ⟨by rfl, ?_⟩) (by assumption) ?_
    rotate_left
    · intro w hSw; (try dsimp only at hSw); go_simp; try with_reducible rfl
    go_simp
    refine wpAnyH_take (i := 7) (v := ?_) rfl (by kernel_rfl) (by kernel_rfl) (by kernel_rfl) (fun _ _ _ h => h) (Or.inl ⟨by rfl, ?_⟩) (by assumption) ?_
    rotate_left
    · intro w hSw; (try dsimp only at hSw); go_simp; try with_reducible rfl
    go_simp
    refine wpAnyH_take (i := 8) (v := ?_) rfl (by kernel_rfl) (by kernel_rfl) (by kernel_rfl) (fun _ _ _ h => h) (Or.inl ⟨by rfl, ?_⟩) (by assumption) ?_
    rotate_left
    · intro w hSw; (try dsimp only at hSw); go_simp; try with_reducible rfl
    go_simp
    refine wpAnyH_take (i := 9) (v := ?_) rfl (by kernel_rfl) (by kernel_rfl) (by kernel_rfl) (fun _ _ _ h => h) (Or.inl ⟨by rfl, ?_⟩) (by assumption) ?_
    rotate_left
    · intro w hSw; (try dsimp only at hSw); go_simp; try with_reducible rfl
    go_simp
    refine wpAnyH_take (i := 10) (v := ?_) rfl (by kernel_rfl) (by kernel_rfl) (by kernel_rfl) (fun _ _ _ h => h) (Or.inl ⟨by rfl, ?_⟩) (by assumption) ?_
    rotate_left
    · intro w hSw; (try dsimp only at hSw); go_simp; try with_reducible rfl
    go_simp
    refine wpAnyH_take (i := 15) (v := ?_) rfl (by kernel_rfl) (by kernel_rfl) (by kernel_rfl) (fun _ _ _ h => h) (Or.inl ⟨by rfl, ?_⟩) (by assumption) ?_
    rotate_left
    · intro w hSw; (try dsimp only at hSw); go_simp; try with_reducible rfl
    go_simp
    refine wpAnyH_take (i := 16) (v := ?_) rfl (by kernel_rfl) (by kernel_rfl) (by kernel_rfl) (fun _ _ _ h => h) (Or.inl ⟨by rfl, ?_⟩) (by assumption) ?_
    rotate_left
    · intro w hSw; (try dsimp only at hSw); go_simp; try with_reducible rfl
    go_simp
    refine wpAnyH_take (i := 17) (v := ?_) rfl (by kernel_rfl) (by kernel_rfl) (by kernel_rfl) (fun _ _ _ h => h) (Or.inl ⟨by rfl, ?_⟩) (by assumption) ?_
    rotate_left
    · intro w hSw; (try dsimp only at hSw); go_simp; try with_reducible rfl
    go_simp
    refine wpAnyH_take (i := 18) (v := ?_) rfl (by kernel_rfl) (by kernel_rfl) (by kernel_rfl) (fun _ _ _ h => h) (Or.inl ⟨by rfl, ?_⟩) (by assumption) ?_
    rotate_left
    · intro w hSw; (try dsimp only at hSw); go_simp; try with_reducible rfl
    go_simp
    refine wpAnyH_ready (rs := [6, 11]) (by kernel_rfl) (by simp) ?_
    refine AllReadyH.cons rfl (fun K hK => ?_) ?_
    · skip
      go_simp
      refine (N.out _).mono ?_
      rintro e w' ⟨rfl, rfl⟩
      refine hK.out _ _ ?_ (fun hHeld => ?_)
      · exact HS.out _ (Below.refl _ _).drew
      clear hK K
      go_simp
      refine wpAnyH_ready (rs := [11]) (by kernel_rfl) (by simp) ?_
      refine AllReadyH.cons rfl (fun K hK => ?_) AllReadyH.nil
      go_simp
      refine hK.out _ _ ?_ (fun hHeld => ?_)
      · exact HS.out _ ((Below.refl _ _).drew.alloc (Nat.le_refl _) _)
      clear hK K
      go_simp
      refine wpAnyH_ready (rs := [12]) (by kernel_rfl) (by simp) ?_
      refine AllReadyH.cons rfl (fun K hK => ?_) AllReadyH.nil
      go_simp
      refine (T.out w.drew _ (Below.refl _ _).drew (by simp)).mono ?_
      rintro e w' ⟨rfl, rfl⟩
      refine hK.out _ _ ?_ (fun hHeld => ?_)
      · exact HS.out _ ((Below.refl _ _).drew.alloc (Nat.le_refl _) _)
      clear hK K
      go_simp
      refine wpAnyH_ready (rs := [13]) (by kernel_rfl) (by simp) ?_
      refine AllReadyH.cons rfl (fun K hK => ?_) AllReadyH.nil
      go_simp
      refine (E.out _).mono ?_
      rintro e w3 ⟨v3, rfl, ho3, hb3⟩
      have HB3 : Hid (Below w.heap.size w w3) := ((Below.refl _ _).drew.alloc (Nat.le_refl _) _).trans (hb3.mono (by simp))
      have HP3 := IsPart.of_own ho3 (by simp [eightN]) (eightN_lt t)
      obtain ⟨A3, c3, e3, _⟩ := own_form ho3
      subst e3
      have k3 := BackLaw.cv_of HP3
      unfold BackLaw.Cv at k3
      clear ho3 hb3 HP3
      refine hK.out _ _ ?_ (fun hHeld => ?_)
      · exact HS.out _ HB3.out
      clear hK K
      go_simp
      refine wpAnyH_ready (rs := [14]) (by kernel_rfl) (by simp) ?_
      refine AllReadyH.cons rfl (fun K hK => ?_) AllReadyH.nil
      go_simp
      refine hK.out _ _ ?_ (fun hHeld => ?_)
      · exact HS.out _ HB3.out
      clear hK K
      go_simp
      refine wpAnyH_take (i := 19) (v := ?_) rfl (by kernel_rfl) (by kernel_rfl) (by kernel_rfl) (fun _ _ _ h => h) (Or.inl ⟨by rfl, ?_⟩) (by assumption) ?_
      rotate_left
      · intro w hSw; (try dsimp only at hSw); go_simp; try with_reducible rfl
      go_simp
      refine wpAnyH_take (i := 20) (v := ?_) rfl (by kernel_rfl) (by kernel_rfl) (by kernel_rfl) (fun _ _ _ h => h) (Or.inl ⟨by rfl, ?_⟩) (by assumption) ?_
      rotate_left
      · intro w hSw; (try dsimp only at hSw); go_simp; try with_reducible rfl
      go_simp
      refine wpAnyH_done (by kernel_rfl) ?_ _
      refine NoPanic.normal ?_
      go_wp2_with fail
      go_ret2
      exact ⟨_, rfl, fun h => (by cases h), fun _ => rfl, HB3.out⟩
    refine AllReadyH.cons rfl (fun K hK => ?_) ?_
    · skip
      go_simp
      refine hK.out _ _ ?_ (fun hHeld => ?_)
      · exact HS.out _ ((Below.refl _ _).drew.alloc (Nat.le_refl _) _)
      clear hK K
      go_simp
      refine wpAnyH_ready (rs := [6]) (by kernel_rfl) (by simp) ?_
      refine AllReadyH.cons rfl (fun K hK => ?_) AllReadyH.nil
      go_simp
      refine (N.out _).mono ?_
      rintro e w' ⟨rfl, rfl⟩
      refine hK.out _ _ ?_ (fun hHeld => ?_)
      · exact HS.out _ ((Below.refl _ _).drew.alloc (Nat.le_refl _) _)
      clear hK K
      go_simp
      refine wpAnyH_ready (rs := [12]) (by kernel_rfl) (by simp) ?_
      refine AllReadyH.cons rfl (fun K hK => ?_) AllReadyH.nil
      go_simp
      refine (T.out w.drew _ (Below.refl _ _).drew (by simp)).mono ?_
      rintro e w' ⟨rfl, rfl⟩
      refine hK.out _ _ ?_ (fun hHeld => ?_)
      · exact HS.out _ ((Below.refl _ _).drew.alloc (Nat.le_refl _) _)
      clear hK K
      go_simp
      refine wpAnyH_ready (rs := [13]) (by kernel_rfl) (by simp) ?_
      refine AllReadyH.cons rfl (fun K hK => ?_) AllReadyH.nil
      go_simp
      refine (E.out _).mono ?_
      rintro e w3 ⟨v3, rfl, ho3, hb3⟩
      have HB3 : Hid (Below w.heap.size w w3) := ((Below.refl _ _).drew.alloc (Nat.le_refl _) _).trans (hb3.mono (by simp))
      have HP3 := IsPart.of_own ho3 (by simp [eightN]) (eightN_lt t)
      obtain ⟨A3, c3, e3, _⟩ := own_form ho3
      subst e3
      have k3 := BackLaw.cv_of HP3
      unfold BackLaw.Cv at k3
      clear ho3 hb3 HP3
      refine hK.out _ _ ?_ (fun hHeld => ?_)
      · exact HS.out _ HB3.out
      clear hK K
      go_simp
      refine wpAnyH_ready (rs := [14]) (by kernel_rfl) (by simp) ?_
      refine AllReadyH.cons rfl (fun K hK => ?_) AllReadyH.nil
      go_simp
      refine hK.out _ _ ?_ (fun hHeld => ?_)
      · exact HS.out _ HB3.out
      clear hK K
      go_simp
      refine wpAnyH_take (i := 19) (v := ?_) rfl (by kernel_rfl) (by kernel_rfl) (by kernel_rfl) (fun _ _ _ h => h) (Or.inl ⟨by rfl, ?_⟩) (by assumption) ?_
      rotate_left
      · intro w hSw; (try dsimp only at hSw); go_simp; try with_reducible rfl
      go_simp
      refine wpAnyH_take (i := 20) (v := ?_) rfl (by kernel_rfl) (by kernel_rfl) (by kernel_rfl) (fun _ _ _ h => h) (Or.inl ⟨by rfl, ?_⟩) (by assumption) ?_
      rotate_left
      · intro w hSw; (try dsimp only at hSw); go_simp; try with_reducible rfl
      go_simp
      refine wpAnyH_done (by kernel_rfl) ?_ _
      refine NoPanic.normal ?_
      go_wp2_with fail
      go_ret2
      exact ⟨_, rfl, fun h => (by cases h), fun _ => rfl, HB3.out⟩
    exact AllReadyH.nil
end Go.Proofs.Ytegfaecbealnhab
