/- The law's runs: a contract. Conditions: as each theorem lists them. -/
import Derived.Test.YtgejakbenldebaaLm
import Derived.Deep.RegionHeld3
set_option linter.unusedSimpArgs false
set_option linter.unusedVariables false
namespace Go.Proofs.Ytgejakbenldebaa.Ld
open Go Go.RowKit Go.Proofs.Ytgejakbenldebaa Go.Proofs.Ytgejakbenldebaa.Sp

set_option maxRecDepth 100000 in
set_option maxHeartbeats 8000000 in
theorem runs_any (l : List Int) (A : Option Addr) (c : Nat) (next : Nat) (w : World) (hx : Rd w w.heap.size A l.length (ints l)) (hc : l.length ≤ c) (hll : l.length ≤ 4611686018427387904) (hn : next ≤ 1099511627776) :
    Calls Try.prog 7 #[.slice A l.length c, .int .i64 (next : Int)] w fun e w' => ∃ rs A' c', e = .returned (.slice A' rs.length c') ∧ rs.length ≤ 4 ∧ w'.ownsRow w.heap.size 47 2 (.slice A' rs.length c') rs.length (ints (pl rs)) ∧ Below w.heap.size w w' := by
  obtain ⟨n, hn0⟩ : ∃ x, Hid (l.length = x) := ⟨_, rfl⟩
  rw [hn0.out] at hx hc hll ⊢
  have HX := Lib.hid hx
  have hnI : (next : Int) ≤ 1099511627776 := by omega
  have hncI : (n : Int) ≤ (c : Int) := by omega
  have hlI : (n : Int) ≤ 4611686018427387904 := by omega
  obtain ⟨i0, hi, hz0, hz1, hz2⟩ := info_parts infoP
  have HI := Lib.hid (And.intro hi (And.intro hz0 (And.intro hz1 hz2)))
  clear hi hz0 hz1 hz2 hx
  go_enter Try.func7, Try.ntmps7
  go_wp2_with fail
  go_loopw [5, 6] (fun v i wr => ∃ k N : Nat, k ≤ 4 ∧ N = 2 * k ∧ i = .int .i64 (N : Int) ∧ (∃ A3 c3, v = .slice A3 k c3) ∧ Hid (∃ rs : List (Int × Int), rs.length = k ∧ wr.ownsRow w.heap.size 47 2 v k (ints (pl rs)) ∧ Below w.heap.size w wr)) (fun _ i _ => 8 - (intOf i).toNat)
  case atStart => exact ⟨0, 0, by omega, rfl, rfl, ⟨_, _, rfl⟩, [], rfl, own_nil _ _ _ _, Below.refl _ _⟩
  case round =>
    obtain ⟨k, N, hk, hN, rfl, ⟨A3, c3, rfl⟩, HK⟩ := hrel
    obtain ⟨rs, hrs, hown, hb⟩ := HK.out
    clear HK
    have HNK := Lib.hid hN
    have hN8 : (N : Int) ≤ 8 := by omega
    by_cases hlt : N + 1 < n ∧ N < 8
    · obtain ⟨hl1, hl2⟩ := hlt
      have hl1I : (N : Int) + 1 < (n : Int) := by omega
      have hl2I : (N : Int) < 8 := by omega
      have hl0I : (N : Int) < (n : Int) := by omega
      obtain ⟨b, off, hA, hbl, hcs⟩ := HX.out.2 (by omega)
      subst hA
      obtain ⟨v0, hv0⟩ : ∃ x, l.getD N 0 = x := ⟨_, rfl⟩
      obtain ⟨v1, hv1⟩ : ∃ x, l.getD (N + 1) 0 = x := ⟨_, rfl⟩
      have hcx : wr.cell? ⟨b, off + N, none⟩ = some (.int .i64 v0) := by
        rw [hb.cell (p := ⟨b, off + N, none⟩) hbl, hcs N _ (ints_get _ _ (by have := hn0.out; omega)), hv0]
      have hcy : wr.cell? ⟨b, off + (N + 1), none⟩ = some (.int .i64 v1) := by
        rw [hb.cell (p := ⟨b, off + (N + 1), none⟩) hbl, hcs (N + 1) _ (ints_get _ _ (by have := hn0.out; omega)), hv1]
      have HBL : Hid (b < w.heap.size) := hbl
      have q1a := Int.emod_nonneg v0 (show (next : Int) + 3 ≠ 0 by omega)
      have q1b := Int.emod_lt_of_pos v0 (show (0 : Int) < (next : Int) + 3 by omega)
      have q2a := Int.emod_nonneg v1 (show (5 : Int) ≠ 0 by decide)
      have q2b := Int.emod_lt_of_pos v1 (show (0 : Int) < 5 by decide)
      have q3a := Int.emod_nonneg v1 (show (3 : Int) ≠ 0 by decide)
      have q3b := Int.emod_lt_of_pos v1 (show (0 : Int) < 3 by decide)
      have HQ1 := Lib.hid (fun W => pick_any v0 ((next : Int) + 3) W (by omega) (by omega))
      have HQ2 := Lib.hid (fun W => pick_any v1 5 W (by decide) (by decide))
      have HQ3 := Lib.hid (fun W => (pick_any v1 3 W (by decide) (by decide)).mono fun _ _ h => (⟨h.1, h.2.symm⟩ : _ ∧ _))
      have HQ4 := Lib.hid (fun W => pick_any v0 29 W (by decide) (by decide))
      obtain ⟨q1, hq1⟩ : ∃ x, v0 % ((next : Int) + 3) = x := ⟨_, rfl⟩
      obtain ⟨q2, hq2⟩ : ∃ x, v1 % 5 = x := ⟨_, rfl⟩
      obtain ⟨q3, hq3⟩ : ∃ x, v1 % 3 = x := ⟨_, rfl⟩
      obtain ⟨q4, hq4⟩ : ∃ x, v0 % 29 = x := ⟨_, rfl⟩
      rw [hq1] at q1a q1b HQ1
      rw [hq2] at q2a q2b HQ2
      rw [hq3] at q3a q3b HQ3
      rw [hq4] at HQ4
      clear hq1 hq2 hq3 hq4 hv0 hv1 hcs hbl hN
      have HO := Lib.hid hown
      have HB := Lib.hid hb
      have HLN := Lib.hid hrs
      clear hown hb hrs
      go_wp2_with fail
      refine (HQ1.out _).mono ?_; rintro e w' ⟨rfl, rfl⟩
      go_wp2_with fail
      refine (HQ2.out _).mono ?_; rintro e w' ⟨rfl, rfl⟩
      have HRR : Hid (Rd (wr.alloc (.cells #[.int .i64 (q1 - 1), .int .i64 (min (q1 - 1 + q2 - 1) ((next : Int) - 1))] 47)) (wr.heap.size + 1) (some ⟨wr.heap.size, 0, none⟩) (1 * 2) (ints [q1 - 1, min (q1 - 1 + q2 - 1) ((next : Int) - 1)])) := rd_new _ _ _ _ _ _ _ rfl (by omega) rfl rfl
      have hd2 : Hid (k + 1 ≤ maxLen) := by show _ ≤ _; unfold maxLen; omega
      have hd3 : Hid ((k + 1) * 16 ≤ 140737488355328) := by show _ ≤ _; omega
      have hd4 : Hid (w.heap.size ≤ (wr.alloc (.cells #[.int .i64 (q1 - 1), .int .i64 (min (q1 - 1 + q2 - 1) ((next : Int) - 1))] 47)).heap.size) := by have := HB.out.size; show _ ≤ _; simp only [World.size_alloc]; omega
      go_wp2_with (at_builtin; refine wpList_app _ rfl (.tmp 27) (.tmp 42) 35 rfl w.heap.size 47 i0 (.agg #[.int .i64 0, .int .i64 0]) 2 16 Try.underlying35 HI.out.1 HI.out.2.1 HI.out.2.2.1 HI.out.2.2.2 rfl (by decide) (.slice A3 k c3) k (ints (pl rs)) rfl (HO.out.alloc _) (wr.heap.size + 1) (some ⟨wr.heap.size, 0, none⟩) 1 _ (ints [q1 - 1, min (q1 - 1 + q2 - 1) ((next : Int) - 1)]) rfl HRR.out (ones_ints _) hd2.out hd3.out hd4.out ?_)
      intro v5 w5 ho5 hg5
      obtain ⟨A5, c5, e5, hkc, _⟩ := own_form ho5
      subst e5
      have hb5 : Below w.heap.size w w5 := HB.out.trans (((Below.refl _ _).alloc HB.out.size _).grown hg5 hd4.out (fun g hg => (HO.out.lt g hg).1))
      have hcx5 : w5.cell? ⟨b, off + N, none⟩ = some (.int .i64 v0) := by
        rw [hb5.cell (p := ⟨b, off + N, none⟩) HBL.out, ← HB.out.cell (p := ⟨b, off + N, none⟩) HBL.out]; exact hcx
      have hcy5 : w5.cell? ⟨b, off + (N + 1), none⟩ = some (.int .i64 v1) := by
        rw [hb5.cell (p := ⟨b, off + (N + 1), none⟩) HBL.out, ← HB.out.cell (p := ⟨b, off + (N + 1), none⟩) HBL.out]; exact hcy
      rw [show ints (pl rs) ++ ints [q1 - 1, min (q1 - 1 + q2 - 1) ((next : Int) - 1)] = ints (pl (rs ++ [(q1 - 1, min (q1 - 1 + q2 - 1) ((next : Int) - 1))])) by rw [pl_app, ints_app]; rfl] at ho5
      have HO5 := Lib.hid ho5
      have HB5 := Lib.hid hb5
      obtain ⟨g, hg⟩ : ∃ g, A5 = some ⟨g, 0, none⟩ := by
        rcases ho5.2 with ⟨_, e⟩ | ⟨g, _, _, e, _⟩
        · omega
        · simp only [Value.slice.injEq] at e; exact ⟨g, e.1⟩
      subst hg
      have hcell5 : ∃ u, w5.cell? ⟨g, k * 2 + 1, none⟩ = some u := by
        have := ho5.cellAt (k * 2 + 1) (by omega)
        rw [ints_get _ _ (by rw [pl_len, List.length_append, HLN.out]; show _ < 2 * (k + 1); omega)] at this
        exact ⟨_, this⟩
      obtain ⟨u5, hu5⟩ := hcell5
      have hf5 : w5.frozen? ⟨g, k * 2 + 1, none⟩ = false := ho5.frozenAt _
      have hkcI : (k : Int) + 1 ≤ (c5 : Int) := by omega
      clear ho5 hg5 hb5 hcx hcy HRR hd2 hd3 hd4
      go_wp2_with fail
      refine (HQ4.out _).mono ?_; rintro e w' ⟨rfl, rfl⟩
      by_cases h28 : q4 = 28
      · have h28b : (q4 == 28) = true := by simp [h28]
        have HS : Hid (∀ W, Below w5.heap.size w5 W → W.cell? ⟨b, off + (N + 1), none⟩ = some (.int .i64 v1)) := fun W hW => (hW.cell (p := ⟨b, off + (N + 1), none⟩) (Nat.lt_of_lt_of_le HBL.out HB5.out.size)).trans hcy5
        go_wp2_with fail
        have HS15 : Hid ((w5.drew.setCell ⟨g, k * 2 + 1, none⟩ (.int .i64 ((next : Int) + q3 - 1))).cell? ⟨b, off + (N + 1), none⟩ = some (.int .i64 v1)) := ((((Below.refl w.heap.size w5).drew).setCell (p := ⟨g, k * 2 + 1, none⟩) (HO5.out.lt g rfl).1 (.int .i64 ((next : Int) + q3 - 1))).cell (p := ⟨b, off + (N + 1), none⟩) HBL.out).trans hcy5
        have x1 : IntKind.i64.wrap ((N : Int) + 1) = (N : Int) + 1 := IntWalk.i64_in _ (by omega)
        have x2 : IntKind.i64.wrap (k : Int) = (k : Int) := IntWalk.i64_in _ (by omega)
        have x2' : IntKind.i64.wrap ((k : Int) + 1 - 1) = (k : Int) := by rw [show (k : Int) + 1 - 1 = (k : Int) by omega]; exact x2
        have x3 : IntKind.i64.wrap ((next : Int) + q3) = (next : Int) + q3 := IntWalk.i64_in _ (by omega)
        have x4 : IntKind.i64.wrap ((next : Int) + q3 - 1) = (next : Int) + q3 - 1 := IntWalk.i64_in _ (by omega)
        have y1 : 0 ≤ (N : Int) + 1 := by omega
        have y2 : (k : Int) < (k : Int) + 1 := by omega
        have y3 : 0 ≤ (k : Int) := by omega
        refine wp_region_held_drew (S := fun W => W.cell? ⟨b, off + (N + 1), none⟩ = some (.int .i64 v1)) (by kernel_rfl) ?_ (fun hHeld => ?_)
        · exact HS.out _ (Below.refl _ _).drew
        refine wpAnyH_take (i := 0) (v := ?_) rfl (by kernel_rfl) (by kernel_rfl) (by kernel_rfl) (fun _ _ _ h => h) (Or.inl ⟨by rfl, ?_⟩) (by assumption) ?_
        rotate_left
        · intro w hSw; (try dsimp only at hSw); go_simp; try with_reducible rfl
        go_simp
        refine wpAnyH_take (i := 1) (v := ?_) rfl (by kernel_rfl) (by kernel_rfl) (by kernel_rfl) (fun _ _ _ h => h) (Or.inl ⟨by rfl, ?_⟩) (by assumption) ?_
        rotate_left
        · intro w hSw; (try dsimp only at hSw); go_simp; try with_reducible rfl
        go_simp
        refine wpAnyH_take (i := 2) (v := ?_) rfl (by kernel_rfl) (by kernel_rfl) (by kernel_rfl) (fun _ _ _ h => h) (Or.inl ⟨by rfl, ?_⟩) (by assumption) ?_
        rotate_left
        · intro w hSw; (try dsimp only at hSw); go_simp; try with_reducible rfl
        go_simp
        refine wpAnyH_take (i := 3) (v := ?_) rfl (by kernel_rfl) (by kernel_rfl) (by kernel_rfl) (fun _ _ _ h => h) (Or.inl ⟨by rfl, ?_⟩) (by assumption) ?_
        rotate_left
        · intro w hSw; (try dsimp only at hSw); go_simp; try with_reducible rfl
        go_simp
        refine wpAnyH_take (i := 4) (v := ?_) rfl (by kernel_rfl) (by kernel_rfl) (by kernel_rfl) (fun _ _ _ h => h) (Or.inl ⟨by rfl, ?_⟩) (by assumption) ?_
        rotate_left
        · intro w hSw; (try dsimp only at hSw); go_simp; try with_reducible rfl
        go_simp
        refine wpAnyH_take (i := 5) (v := ?_) rfl (by kernel_rfl) (by kernel_rfl) (by kernel_rfl) (fun _ _ _ h => h) (Or.inl ⟨by rfl, ?_⟩) (by assumption) ?_
        rotate_left
        · intro w hSw; (try dsimp only at hSw); go_simp; try with_reducible rfl
        go_simp
        refine wpAnyH_take (i := 6) (v := ?_) rfl (by kernel_rfl) (by kernel_rfl) (by kernel_rfl) (fun _ _ _ h => h) (Or.inl ⟨by rfl, ?_⟩) (by assumption) ?_
        rotate_left
        · intro w hSw; (try dsimp only at hSw); go_simp; try with_reducible rfl
        go_simp
        refine wpAnyH_take (i := 7) (v := ?_) rfl (by kernel_rfl) (by kernel_rfl) (by kernel_rfl) (fun _ _ _ h => h) (Or.inl ⟨by rfl, ?_⟩) (by assumption) ?_
        rotate_left
        · intro w hSw; (try dsimp only at hSw); go_simp; try with_reducible rfl
        go_simp
        refine wpAnyH_take (i := 8) (v := ?_) rfl (by kernel_rfl) (by kernel_rfl) (by kernel_rfl) (fun _ _ _ h => h) (Or.inl ⟨by rfl, ?_⟩) (by assumption) ?_
        rotate_left
        · intro w hSw; (try dsimp only at hSw); go_simp; try with_reducible rfl
        go_simp
        refine wpAnyH_take (i := 9) (v := ?_) rfl (by kernel_rfl) (by kernel_rfl) (by kernel_rfl) (fun _ _ _ h => h) (Or.inl ⟨by rfl, ?_⟩) (by assumption) ?_
        rotate_left
        · intro w hSw; (try dsimp only at hSw); go_simp; try with_reducible rfl
        go_simp
        refine wpAnyH_take (i := 13) (v := ?_) rfl (by kernel_rfl) (by kernel_rfl) (by kernel_rfl) (fun _ _ _ h => h) (Or.inl ⟨by rfl, ?_⟩) (by assumption) ?_
        rotate_left
        · intro w hSw; (try dsimp only at hSw); go_simp; try with_reducible rfl
        go_simp
        refine wpAnyH_ready (rs := [10]) (by kernel_rfl) (by simp) ?_
        refine AllReadyH.cons rfl (fun K hK => ?_) AllReadyH.nil
        go_simp
        refine (HQ3.out _).mono ?_
        rintro e w' ⟨rfl, hw'⟩
        subst hw'
        refine hK.out _ _ ?_ (fun hHeld => ?_)
        · exact HS.out _ (Below.refl _ _).drew
        clear hK K
        go_simp
        refine wpAnyH_take (i := 11) (v := ?_) rfl (by kernel_rfl) (by kernel_rfl) (by kernel_rfl) (fun _ _ _ h => h) (Or.inl ⟨by rfl, ?_⟩) (by assumption) ?_
        rotate_left
        · intro w hSw; (try dsimp only at hSw); go_simp; try with_reducible rfl
        go_simp
        refine wpAnyH_take (i := 12) (v := ?_) rfl (by kernel_rfl) (by kernel_rfl) (by kernel_rfl) (fun _ _ _ h => h) (Or.inl ⟨by rfl, ?_⟩) (by assumption) ?_
        rotate_left
        · intro w hSw; (try dsimp only at hSw); go_simp; try with_reducible rfl
        go_simp
        refine wpAnyH_take (i := 14) (v := ?_) rfl (by kernel_rfl) (by kernel_rfl) (by kernel_rfl) (fun _ _ _ h => h) (Or.inl ⟨by rfl, ?_⟩) (by assumption) ?_
        rotate_left
        · intro w hSw; (try dsimp only at hSw); go_simp; try with_reducible rfl
        go_simp
        refine wpAnyH_ready (rs := [15]) (by kernel_rfl) (by simp) ?_
        refine AllReadyH.cons rfl (fun K hK => ?_) AllReadyH.nil
        go_simp
        refine hK.out _ _ ?_ (fun hHeld => ?_)
        · exact HS15.out
        clear hK K
        go_simp
        refine wpAnyH_done (by kernel_rfl) ?_ _
        have HN' : Hid (∃ rs : List (Int × Int), rs.length = k + 1 ∧ (w5.drew.setCell ⟨g, k * 2 + 1, none⟩ (.int .i64 ((next : Int) + q3 - 1))).ownsRow w.heap.size 47 2 (.slice (some ⟨g, 0, none⟩) (k + 1) c5) (k + 1) (ints (pl rs)) ∧ Below w.heap.size w (w5.drew.setCell ⟨g, k * 2 + 1, none⟩ (.int .i64 ((next : Int) + q3 - 1)))) := by
          refine ⟨rs ++ [(q1 - 1, (next : Int) + q3 - 1)], by rw [List.length_append, HLN.out]; rfl, ?_, HB5.out.drew.setCell (HO5.out.lt g rfl).1 _⟩
          have := (own_below HO5.out (Below.refl _ _).drew).stored (k * 2 + 1) (.int .i64 ((next : Int) + q3 - 1))
          have h2 := this.1
          rw [show ints (pl (rs ++ [(q1 - 1, min (q1 - 1 + q2 - 1) ((next : Int) - 1))])) = ints (pl rs) ++ [.int .i64 (q1 - 1), .int .i64 (min (q1 - 1 + q2 - 1) ((next : Int) - 1))] by rw [pl_app, ints_app]; rfl] at h2
          rw [List.set_append_right _ _ (by rw [ints_len, pl_len, HLN.out]; omega)] at h2
          rw [show k * 2 + 1 - (ints (pl rs)).length = 1 by rw [ints_len, pl_len, HLN.out]; omega] at h2
          rw [show ints (pl (rs ++ [(q1 - 1, (next : Int) + q3 - 1)])) = ints (pl rs) ++ [.int .i64 (q1 - 1), .int .i64 ((next : Int) + q3 - 1)] by rw [pl_app, ints_app]; rfl]
          exact h2
        have hN2 : (N : Int) + 2 = ((2 * (k + 1) : Nat) : Int) := by have := HNK.out; omega
        clear HO5 HB5 HS
        go_wp2_with fail
        refine ⟨⟨k + 1, 2 * (k + 1), by omega, rfl, by first | go_num | rw [hN2], ⟨_, _, rfl⟩, HN'⟩, ?_⟩
        simp [intOf]; omega
      · have h28b : (q4 == 28) = false := by simp [h28]
        have HN' : Hid (∃ rs : List (Int × Int), rs.length = k + 1 ∧ w5.ownsRow w.heap.size 47 2 (.slice (some ⟨g, 0, none⟩) (k + 1) c5) (k + 1) (ints (pl rs)) ∧ Below w.heap.size w w5) := ⟨_, by rw [List.length_append, HLN.out]; rfl, HO5.out, HB5.out⟩
        have hN2 : (N : Int) + 2 = ((2 * (k + 1) : Nat) : Int) := by have := HNK.out; omega
        clear HO5 HB5
        go_wp2_with fail
        refine ⟨⟨k + 1, 2 * (k + 1), by omega, rfl, by first | go_num | rw [hN2], ⟨_, _, rfl⟩, HN'⟩, ?_⟩
        simp [intOf]; omega
    · have HF : Hid (∃ rs A' c', (Value.slice A3 k c3) = .slice A' rs.length c' ∧ rs.length ≤ 4 ∧ wr.ownsRow w.heap.size 47 2 (.slice A' rs.length c') rs.length (ints (pl rs)) ∧ Below w.heap.size w wr) := ⟨rs, A3, c3, by rw [hrs], by omega, by rw [hrs]; exact hown, hb⟩
      clear hown hb
      by_cases hl1 : N + 1 < n
      · have hl1I : (N : Int) + 1 < (n : Int) := by omega
        have hl2I : ¬ (N : Int) < 8 := by omega
        go_wp2_with fail
        go_ret
        obtain ⟨rs, A', c', e, h⟩ := HF.out
        exact ⟨rs, A', c', congrArg Ending.returned e, h⟩
      · have hl1I : ¬ (N : Int) + 1 < (n : Int) := by omega
        go_wp2_with fail
        go_ret
        obtain ⟨rs, A', c', e, h⟩ := HF.out
        exact ⟨rs, A', c', congrArg Ending.returned e, h⟩
end Go.Proofs.Ytgejakbenldebaa.Ld
