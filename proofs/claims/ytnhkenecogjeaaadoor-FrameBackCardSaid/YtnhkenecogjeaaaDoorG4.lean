/- The hand's Frame, of a raw one that is not bent: a Datagram. Conditions: as the theorem lists them. -/
import Derived.Test.YtnhkenecogjeaaaDoorG3
namespace Go.Proofs.YtnhkenecogjeaaaDoor
open Go Go.RowKit

set_option maxRecDepth 100000 in
set_option maxHeartbeats 2000000 in
theorem frame_9 (k id off a b : Int) (fin : Bool) (A : Option Addr) (bs : List Nat) (c : Nat) (A2 : Option Addr) (l : List Int) (c2 : Nat) (w : World) (hp : k % 12 = 8) (hbs : Rd w w.heap.size A bs.length (bv bs)) (hbc : bs.length ≤ c) (hbm : bs.length ≤ 140737488355328) (hblt : ∀ x ∈ bs, x < 256) :
    Calls Tryd.prog 29 #[.agg #[.int .i64 k, .int .i64 id, .int .i64 off, .int .i64 a, .int .i64 b, .int .i64 0, .bool fin, .slice A bs.length c, .slice A2 l.length c2]] w (FrameP w) := by
  have HP : Hid (∀ W, Calls Tryd.prog 15 #[.int .i64 k, .int .i64 12] W fun e w' => e = .returned (.int .i64 8) ∧ W = w') := fun W => by have := pick_any k 12 W (by decide) (by decide); rw [hp] at this; exact this
  have HB : Hid (∀ W, Calls Tryd.prog 15 #[.int .i64 0, .int .i64 20] W fun e w' => e = .returned (.int .i64 0) ∧ W = w') := fun W => pick_any 0 20 W (by decide) (by decide)
  have HDL : Hid (∃ d, bs.take 119 = d ∧ d.length ≤ 119 ∧ ∀ x ∈ d, x < 256) := ⟨_, rfl, by rw [List.length_take]; omega, fun x hx => hblt x (List.mem_of_mem_take hx)⟩
  obtain ⟨d, hd, hd119, hdlt⟩ := HDL.out
  have HBL := Lib.hid hdlt
  have HF : Hid (∀ W, Below w.heap.size w W → Calls Tryd.prog 43 #[.slice A bs.length c, .int .i64 119] W fun e w' => ∃ v', e = .returned v' ∧ w'.ownsRow W.heap.size 5 1 v' d.length (bv d) ∧ Below W.heap.size W w') := fun W hW => by have := few_any bs w.heap.size A c 119 W (hbs.below hW (Nat.le_refl _)) hW.size hbc hbm; rw [hd] at this; exact this
  clear hblt hbs hd hdlt HDL hp
  obtain ⟨y, hy, hy2⟩ : ∃ y : Nat, IntKind.u8.wrap a = (y : Int) ∧ y < 256 := ⟨(a % 256).toNat, by rw [IntKind.wrap_u8']; omega, by omega⟩
  obtain ⟨i0, hi, hz0, hz1, hz2⟩ := info_parts infoB
  have HI := Lib.hid (And.intro hi (And.intro hz0 (And.intro hz1 hz2)))
  clear hi hz0 hz1 hz2
  go_enter Tryd.func29, Tryd.ntmps29
  go_wp2_with fail
  refine (HP.out _).mono ?_
  rintro e w' ⟨rfl, rfl⟩
  go_wp2_with fail
  obtain ⟨w3, hw3⟩ : ∃ w3, Hid ((((w.alloc (.cells #[.int .i64 k, .int .i64 id, .int .i64 off, .int .i64 a, .int .i64 b, .int .i64 0, .bool fin, .slice A bs.length c, .slice A2 l.length c2] 60)).alloc (.cells #[.int .i64 0, .int .i64 0, .int .i64 0, .int .i64 0, .int .i64 0, .int .i64 0, .bool false, .slice none 0 0, .slice none 0 0] 26)).alloc (.cells #[.int .i64 9, .int .i64 0, .int .i64 0, .int .i64 0, .int .i64 0, .int .i64 0, .bool false, .slice none 0 0, .slice none 0 0] 26)) = w3) := ⟨_, rfl⟩
  have H3 : Hid (w3.heap.size = w.heap.size + 3 ∧ Below w.heap.size w w3 ∧ (∀ g o, g < w.heap.size + 3 → w3.cell? ⟨g, o, none⟩ = ((((w.alloc (.cells #[.int .i64 k, .int .i64 id, .int .i64 off, .int .i64 a, .int .i64 b, .int .i64 0, .bool fin, .slice A bs.length c, .slice A2 l.length c2] 60)).alloc (.cells #[.int .i64 0, .int .i64 0, .int .i64 0, .int .i64 0, .int .i64 0, .int .i64 0, .bool false, .slice none 0 0, .slice none 0 0] 26)).alloc (.cells #[.int .i64 9, .int .i64 0, .int .i64 0, .int .i64 0, .int .i64 0, .int .i64 0, .bool false, .slice none 0 0, .slice none 0 0] 26))).cell? ⟨g, o, none⟩) ∧ (∀ g o, g < w.heap.size + 3 → w3.frozen? ⟨g, o, none⟩ = ((((w.alloc (.cells #[.int .i64 k, .int .i64 id, .int .i64 off, .int .i64 a, .int .i64 b, .int .i64 0, .bool fin, .slice A bs.length c, .slice A2 l.length c2] 60)).alloc (.cells #[.int .i64 0, .int .i64 0, .int .i64 0, .int .i64 0, .int .i64 0, .int .i64 0, .bool false, .slice none 0 0, .slice none 0 0] 26)).alloc (.cells #[.int .i64 9, .int .i64 0, .int .i64 0, .int .i64 0, .int .i64 0, .int .i64 0, .bool false, .slice none 0 0, .slice none 0 0] 26))).frozen? ⟨g, o, none⟩)) := by
    rw [← hw3.out]
    exact ⟨by simp, (((Below.refl _ _).alloc (Nat.le_refl _) _).alloc (by simp) _).alloc (by simp; omega) _, fun _ _ _ => rfl, fun _ _ _ => rfl⟩
  rw [hw3.out]
  have S7 : Hid (w3.cell? ⟨w.heap.size, 7, none⟩ = some (.slice A bs.length c) ∧ w3.cell? ⟨w.heap.size, 3, none⟩ = some (.int .i64 a)) := by
    constructor
    · rw [H3.out.2.2.1 _ _ (by omega)]; simp [go_sem]
    · rw [H3.out.2.2.1 _ _ (by omega)]; simp [go_sem]
  have T3f : Hid (w3.frozen? ⟨w.heap.size + 2, 7, none⟩ = false) := by show _ = _; rw [H3.out.2.2.2 _ _ (by omega)]; simp [go_sem]
  have HS : Hid (∀ W, Below (w.heap.size + 2) w3 W → Below (w.heap.size + 2) w3 W ∧ W.cell? ⟨w.heap.size, 7, none⟩ = some (.slice A bs.length c) ∧ W.cell? ⟨w.heap.size, 3, none⟩ = some (.int .i64 a)) := fun W hW =>
    ⟨hW, (hW.cell (p := ⟨w.heap.size, 7, none⟩) (show w.heap.size < w.heap.size + 2 by omega)).trans S7.out.1, (hW.cell (p := ⟨w.heap.size, 3, none⟩) (show w.heap.size < w.heap.size + 2 by omega)).trans S7.out.2⟩
  have HD3 : Hid (Below w3.heap.size w3 w3.drew) := ⟨rfl, rfl, rfl, Nat.le_refl _, fun _ _ => rfl⟩
  refine wp_region_held_drew (S := fun W' => Below (w.heap.size + 2) w3 W' ∧ W'.cell? ⟨w.heap.size, 7, none⟩ = some (.slice A bs.length c) ∧ W'.cell? ⟨w.heap.size, 3, none⟩ = some (.int .i64 a)) (by kernel_rfl) ?_ (fun hHeld => ?_)
  · exact HS.out _ (HD3.out.mono (by have := H3.out.1; omega))
  refine wpAnyH_take (i := 0) (v := ?_) rfl (by kernel_rfl) (by kernel_rfl) (by kernel_rfl) (fun _ _ _ h => h) (Or.inl ⟨by rfl, ?_⟩) (by assumption) ?_
  rotate_left
  · intro w hSw; (try dsimp only at hSw); go_simp; try with_reducible rfl
  go_simp
  refine wpAnyH_take (i := 1) (v := ?_) rfl (by kernel_rfl) (by kernel_rfl) (by kernel_rfl) (fun _ _ _ h => h) (Or.inl ⟨by rfl, ?_⟩) (by assumption) ?_
  rotate_left
  · intro w hSw; (try dsimp only at hSw); go_simp; try with_reducible rfl
  go_simp
  refine wpAnyH_take (i := 3) (v := ?_) rfl (by kernel_rfl) (by kernel_rfl) (by kernel_rfl) (fun _ _ _ h => h) (Or.inl ⟨by rfl, ?_⟩) (by assumption) ?_
  rotate_left
  · intro w hSw; (try dsimp only at hSw); go_simp; try with_reducible rfl
  go_simp
  refine wpAnyH_take (i := 4) (v := ?_) rfl (by kernel_rfl) (by kernel_rfl) (by kernel_rfl) (fun _ _ _ h => h) (Or.inl ⟨by rfl, ?_⟩) (by assumption) ?_
  rotate_left
  · intro w hSw; (try dsimp only at hSw); go_simp; try with_reducible rfl
  go_simp
  refine wpAnyH_take (i := 5) (v := ?_) rfl (by kernel_rfl) (by kernel_rfl) (by kernel_rfl) (fun _ _ _ h => h) (Or.inl ⟨by rfl, ?_⟩) (by assumption) ?_
  rotate_left
  · intro w hSw; (try dsimp only at hSw); go_simp; try with_reducible rfl
  go_simp
  refine wpAnyH_ready (rs := [2, 6]) (by kernel_rfl) (by simp) ?_
  refine AllReadyH.cons rfl (fun K hK => ?_) ?_
  · skip
    go_simp
    refine (HF.out _ (H3.out.2.1.trans (HD3.out.mono (by have := H3.out.1; omega)))).mono ?_
    rintro e w4 ⟨v4, rfl, ho4, hb4⟩
    obtain ⟨A4, c4, e4, _⟩ := own_form ho4
    subst e4
    have HB4 : Hid (Below w3.heap.size w3 w4) := HD3.out.trans (hb4.mono HD3.out.size)
    have HO4 := Lib.hid (own_base (base' := w3.heap.size) ho4 HD3.out.size)
    clear ho4
    clear hb4
    refine hK.out _ _ ?_ (fun hHeld => ?_)
    · exact HS.out _ (Below.mono (HB4.out) (by have := H3.out.1; omega))
    clear hK K
    go_simp
    refine wpAnyH_ready (rs := [6]) (by kernel_rfl) (by simp) ?_
    refine AllReadyH.cons rfl (fun K hK => ?_) AllReadyH.nil
    go_simp
    have HBz : Hid (Below w3.heap.size w3 (w4.alloc (.cells #[.int .u8 (y : Int)] 5))) := HB4.out.alloc HB4.out.size _
    have HOx : Hid ((w4.alloc (.cells #[.int .u8 (y : Int)] 5)).ownsRow w3.heap.size 5 1 (.slice A4 d.length c4) d.length (bv d)) := HO4.out.alloc _
    refine hK.out _ _ ?_ (fun hHeld => ?_)
    · exact HS.out _ (Below.mono (HBz.out) (by have := H3.out.1; omega))
    clear hK K
    go_simp
    refine wpAnyH_ready (rs := [7]) (by kernel_rfl) (by simp) ?_
    refine AllReadyH.cons rfl (fun K hK => ?_) AllReadyH.nil
    refine step_own rfl (.tmp 87) (.tmp 91) 24 rfl w3.heap.size 5 i0 (.int .u8 0) 1 1 Tryd.underlying24 HI.out.1 HI.out.2.1 HI.out.2.2.1 HI.out.2.2.2 rfl (by decide) (.slice A4 d.length c4) d.length (bv d) (by simp [Act.eval, Act.put]) HOx.out (w4.heap.size + 1) (some ⟨w4.heap.size, 0, none⟩) 1 1 [.int .u8 ((y : Nat) : Int)] (by simp [Act.eval, Act.put]) (rd_new _ _ _ _ _ _ _ rfl (by simp) rfl rfl) (by simp [ones, Value.oneCell']) (by unfold maxLen; omega) (by omega) HBz.out.size ?_
    intro v5 w5 ho5 hg5
    obtain ⟨A5, c5, e5, _⟩ := own_form ho5
    subst e5
    have HB5 : Hid (Below w3.heap.size w3 w5) := HBz.out.grown hg5 HBz.out.size (fun g hg => (HOx.out.lt g hg).1)
    have HO5 : Hid (w5.ownsRow (w.heap.size + 3) 5 1 (.slice A5 (d.length + 1) c5) (d.length + 1) (bv (d ++ [y]))) := by
      rw [bv_app]
      exact own_base ho5 (by have := H3.out.1; omega)
    clear ho5 hg5
    have hcl5 : w5.cell? ⟨w.heap.size + 2, 7, none⟩ = some (.slice none 0 0) := by
      rw [HB5.out.cell (p := ⟨w.heap.size + 2, 7, none⟩) (show w.heap.size + 2 < w3.heap.size by have := H3.out.1; omega), H3.out.2.2.1 _ _ (by omega)]; simp [go_sem]
    have hfz5 : w5.frozen? ⟨w.heap.size + 2, 7, none⟩ = false := by
      rw [HB5.out.frozen (p := ⟨w.heap.size + 2, 7, none⟩) (show w.heap.size + 2 < w3.heap.size by have := H3.out.1; omega)]; exact T3f.out
    refine hK.out _ _ ?_ (fun hHeld => ?_)
    · exact HS.out _ (Below.mono (HB5.out) (by have := H3.out.1; omega))
    clear hK K
    go_simp
    refine wpAnyH_take (i := 8) (v := ?_) rfl (by kernel_rfl) (by kernel_rfl) (by kernel_rfl) (fun _ _ _ h => h) (Or.inl ⟨by rfl, ?_⟩) (by assumption) ?_
    rotate_left
    · intro w hSw; (try dsimp only at hSw); go_simp; try with_reducible rfl
    go_simp
    refine wpAnyH_ready (rs := [9]) (by kernel_rfl) (by simp) ?_
    refine AllReadyH.cons rfl (fun K hK => ?_) AllReadyH.nil
    go_simp
    refine hK.out _ _ ?_ (fun hHeld => ?_)
    · exact HS.out _ ((Below.mono HB5.out (by have := H3.out.1; omega)).setCell (show w.heap.size + 2 ≤ w.heap.size + 2 by omega) _)
    clear hK K
    go_simp
    refine wpAnyH_done (by kernel_rfl) ?_ _
    clear hcl5 hfz5
    have hc1 : ∀ g o, g < w.heap.size + 3 → w5.cell? ⟨g, o, none⟩ = ((((w.alloc (.cells #[.int .i64 k, .int .i64 id, .int .i64 off, .int .i64 a, .int .i64 b, .int .i64 0, .bool fin, .slice A bs.length c, .slice A2 l.length c2] 60)).alloc (.cells #[.int .i64 0, .int .i64 0, .int .i64 0, .int .i64 0, .int .i64 0, .int .i64 0, .bool false, .slice none 0 0, .slice none 0 0] 26)).alloc (.cells #[.int .i64 9, .int .i64 0, .int .i64 0, .int .i64 0, .int .i64 0, .int .i64 0, .bool false, .slice none 0 0, .slice none 0 0] 26))).cell? ⟨g, o, none⟩ := fun g o hb => (HB5.out.cell (p := ⟨g, o, none⟩) (by rw [H3.out.1]; exact hb)).trans (H3.out.2.2.1 g o hb)
    have hf1 : ∀ g o, g < w.heap.size + 3 → w5.frozen? ⟨g, o, none⟩ = ((((w.alloc (.cells #[.int .i64 k, .int .i64 id, .int .i64 off, .int .i64 a, .int .i64 b, .int .i64 0, .bool fin, .slice A bs.length c, .slice A2 l.length c2] 60)).alloc (.cells #[.int .i64 0, .int .i64 0, .int .i64 0, .int .i64 0, .int .i64 0, .int .i64 0, .bool false, .slice none 0 0, .slice none 0 0] 26)).alloc (.cells #[.int .i64 9, .int .i64 0, .int .i64 0, .int .i64 0, .int .i64 0, .int .i64 0, .bool false, .slice none 0 0, .slice none 0 0] 26))).frozen? ⟨g, o, none⟩ := fun g o hb => (HB5.out.frozen (p := ⟨g, o, none⟩) (by rw [H3.out.1]; exact hb)).trans (H3.out.2.2.2 g o hb)
    have HB1 : Hid (Below w.heap.size w w5) := H3.out.2.1.trans (HB5.out.mono (by have := H3.out.1; omega))
    go_wp2_with fail
    refine (HB.out _).mono ?_
    rintro e w' ⟨rfl, rfl⟩
    go_wp2_with fail
    refine bodyPost_ret (v := frA ⟨9, 0, 0, 0, 0, 0, false, d ++ [y], []⟩ A5 (d.length + 1) c5 none 0 0) (by simp [results, Tryd.results29, go_sem, frA, hc1]) rfl ?_
    refine ⟨⟨9, 0, 0, 0, 0, 0, false, d ++ [y], []⟩, _, rfl, okF_mk _ _ _ _ _ _ _ _ (by decide) ⟨wid0, wid0, wid0, wid0⟩ (by omega) ⟨by simp; omega, fun x hx => ?_⟩ (by simp; omega) (by simp) (by simp) (by simp) (by simp) (by simp) (by simp) (by simp) (.inr ⟨by decide, rfl⟩), ?_, ?_⟩
    · rcases List.mem_append.1 hx with h | h
      · exact HBL.out x h
      · simp only [List.mem_cons, List.not_mem_nil, or_false] at h; omega
    · refine ⟨A5, d.length + 1, c5, none, 0, 0, rfl, by simp, rfl, ?_, ?_⟩
      · refine own_base (base := w.heap.size + 3) ?_ (by omega)
        iterate 10 (refine ownsRow_setCell_below ?_ (by simp; try omega) _)
        exact HO5.out
      · exact own_nil _ _ _ _
    · exact ((((((((((HB1.out.setCell (p := ⟨w.heap.size + 1 + 1, 7, none⟩) (Nat.le_add_right _ 2) _).setCell (p := ⟨w.heap.size + 1, 0, none⟩) (Nat.le_add_right _ 1) _).setCell (p := ⟨w.heap.size + 1, 1, none⟩) (Nat.le_add_right _ 1) _).setCell (p := ⟨w.heap.size + 1, 2, none⟩) (Nat.le_add_right _ 1) _).setCell (p := ⟨w.heap.size + 1, 3, none⟩) (Nat.le_add_right _ 1) _).setCell (p := ⟨w.heap.size + 1, 4, none⟩) (Nat.le_add_right _ 1) _).setCell (p := ⟨w.heap.size + 1, 5, none⟩) (Nat.le_add_right _ 1) _).setCell (p := ⟨w.heap.size + 1, 6, none⟩) (Nat.le_add_right _ 1) _).setCell (p := ⟨w.heap.size + 1, 7, none⟩) (Nat.le_add_right _ 1) _).setCell (p := ⟨w.heap.size + 1, 8, none⟩) (Nat.le_add_right _ 1) _)
  refine AllReadyH.cons rfl (fun K hK => ?_) ?_
  · skip
    go_simp
    have HBb : Hid (Below w3.heap.size w3 (w3.drew.alloc (.cells #[.int .u8 (y : Int)] 5))) := HD3.out.alloc (Nat.le_refl _) _
    refine hK.out _ _ ?_ (fun hHeld => ?_)
    · exact HS.out _ (Below.mono (HBb.out) (by have := H3.out.1; omega))
    clear hK K
    go_simp
    refine wpAnyH_ready (rs := [2]) (by kernel_rfl) (by simp) ?_
    refine AllReadyH.cons rfl (fun K hK => ?_) AllReadyH.nil
    go_simp
    refine (HF.out _ (H3.out.2.1.trans (HBb.out.mono (by have := H3.out.1; omega)))).mono ?_
    rintro e w4 ⟨v4, rfl, ho4, hb4⟩
    obtain ⟨A4, c4, e4, _⟩ := own_form ho4
    subst e4
    have HB4 : Hid (Below w3.heap.size w3 w4) := HBb.out.trans (hb4.mono HBb.out.size)
    have HO4 := Lib.hid (own_base (base' := w3.heap.size) ho4 HBb.out.size)
    clear ho4
    have HBz := HB4
    have HOx := HO4
    have HRd : Hid (Rd w4 (w3.heap.size + 1) (some ⟨w3.heap.size, 0, none⟩) 1 [.int .u8 ((y : Nat) : Int)]) := by
      have h1 : Rd (w3.drew.alloc (.cells #[.int .u8 (y : Int)] 5)) (w3.heap.size + 1) (some ⟨w3.heap.size, 0, none⟩) 1 [.int .u8 ((y : Nat) : Int)] := rd_new _ _ _ _ _ _ _ rfl (by simp) rfl rfl
      exact h1.below hb4 (by simp)
    clear hb4
    refine hK.out _ _ ?_ (fun hHeld => ?_)
    · exact HS.out _ (Below.mono (HB4.out) (by have := H3.out.1; omega))
    clear hK K
    go_simp
    refine wpAnyH_ready (rs := [7]) (by kernel_rfl) (by simp) ?_
    refine AllReadyH.cons rfl (fun K hK => ?_) AllReadyH.nil
    refine step_own rfl (.tmp 87) (.tmp 91) 24 rfl w3.heap.size 5 i0 (.int .u8 0) 1 1 Tryd.underlying24 HI.out.1 HI.out.2.1 HI.out.2.2.1 HI.out.2.2.2 rfl (by decide) (.slice A4 d.length c4) d.length (bv d) (by simp [Act.eval, Act.put]) HOx.out (w3.heap.size + 1) (some ⟨w3.heap.size, 0, none⟩) 1 1 [.int .u8 ((y : Nat) : Int)] (by simp [Act.eval, Act.put]) HRd.out (by simp [ones, Value.oneCell']) (by unfold maxLen; omega) (by omega) HBz.out.size ?_
    intro v5 w5 ho5 hg5
    obtain ⟨A5, c5, e5, _⟩ := own_form ho5
    subst e5
    have HB5 : Hid (Below w3.heap.size w3 w5) := HBz.out.grown hg5 HBz.out.size (fun g hg => (HOx.out.lt g hg).1)
    have HO5 : Hid (w5.ownsRow (w.heap.size + 3) 5 1 (.slice A5 (d.length + 1) c5) (d.length + 1) (bv (d ++ [y]))) := by
      rw [bv_app]
      exact own_base ho5 (by have := H3.out.1; omega)
    clear ho5 hg5
    have hcl5 : w5.cell? ⟨w.heap.size + 2, 7, none⟩ = some (.slice none 0 0) := by
      rw [HB5.out.cell (p := ⟨w.heap.size + 2, 7, none⟩) (show w.heap.size + 2 < w3.heap.size by have := H3.out.1; omega), H3.out.2.2.1 _ _ (by omega)]; simp [go_sem]
    have hfz5 : w5.frozen? ⟨w.heap.size + 2, 7, none⟩ = false := by
      rw [HB5.out.frozen (p := ⟨w.heap.size + 2, 7, none⟩) (show w.heap.size + 2 < w3.heap.size by have := H3.out.1; omega)]; exact T3f.out
    refine hK.out _ _ ?_ (fun hHeld => ?_)
    · exact HS.out _ (Below.mono (HB5.out) (by have := H3.out.1; omega))
    clear hK K
    go_simp
    refine wpAnyH_take (i := 8) (v := ?_) rfl (by kernel_rfl) (by kernel_rfl) (by kernel_rfl) (fun _ _ _ h => h) (Or.inl ⟨by rfl, ?_⟩) (by assumption) ?_
    rotate_left
    · intro w hSw; (try dsimp only at hSw); go_simp; try with_reducible rfl
    go_simp
    refine wpAnyH_ready (rs := [9]) (by kernel_rfl) (by simp) ?_
    refine AllReadyH.cons rfl (fun K hK => ?_) AllReadyH.nil
    go_simp
    refine hK.out _ _ ?_ (fun hHeld => ?_)
    · exact HS.out _ ((Below.mono HB5.out (by have := H3.out.1; omega)).setCell (show w.heap.size + 2 ≤ w.heap.size + 2 by omega) _)
    clear hK K
    go_simp
    refine wpAnyH_done (by kernel_rfl) ?_ _
    clear hcl5 hfz5
    have hc1 : ∀ g o, g < w.heap.size + 3 → w5.cell? ⟨g, o, none⟩ = ((((w.alloc (.cells #[.int .i64 k, .int .i64 id, .int .i64 off, .int .i64 a, .int .i64 b, .int .i64 0, .bool fin, .slice A bs.length c, .slice A2 l.length c2] 60)).alloc (.cells #[.int .i64 0, .int .i64 0, .int .i64 0, .int .i64 0, .int .i64 0, .int .i64 0, .bool false, .slice none 0 0, .slice none 0 0] 26)).alloc (.cells #[.int .i64 9, .int .i64 0, .int .i64 0, .int .i64 0, .int .i64 0, .int .i64 0, .bool false, .slice none 0 0, .slice none 0 0] 26))).cell? ⟨g, o, none⟩ := fun g o hb => (HB5.out.cell (p := ⟨g, o, none⟩) (by rw [H3.out.1]; exact hb)).trans (H3.out.2.2.1 g o hb)
    have hf1 : ∀ g o, g < w.heap.size + 3 → w5.frozen? ⟨g, o, none⟩ = ((((w.alloc (.cells #[.int .i64 k, .int .i64 id, .int .i64 off, .int .i64 a, .int .i64 b, .int .i64 0, .bool fin, .slice A bs.length c, .slice A2 l.length c2] 60)).alloc (.cells #[.int .i64 0, .int .i64 0, .int .i64 0, .int .i64 0, .int .i64 0, .int .i64 0, .bool false, .slice none 0 0, .slice none 0 0] 26)).alloc (.cells #[.int .i64 9, .int .i64 0, .int .i64 0, .int .i64 0, .int .i64 0, .int .i64 0, .bool false, .slice none 0 0, .slice none 0 0] 26))).frozen? ⟨g, o, none⟩ := fun g o hb => (HB5.out.frozen (p := ⟨g, o, none⟩) (by rw [H3.out.1]; exact hb)).trans (H3.out.2.2.2 g o hb)
    have HB1 : Hid (Below w.heap.size w w5) := H3.out.2.1.trans (HB5.out.mono (by have := H3.out.1; omega))
    go_wp2_with fail
    refine (HB.out _).mono ?_
    rintro e w' ⟨rfl, rfl⟩
    go_wp2_with fail
    refine bodyPost_ret (v := frA ⟨9, 0, 0, 0, 0, 0, false, d ++ [y], []⟩ A5 (d.length + 1) c5 none 0 0) (by simp [results, Tryd.results29, go_sem, frA, hc1]) rfl ?_
    refine ⟨⟨9, 0, 0, 0, 0, 0, false, d ++ [y], []⟩, _, rfl, okF_mk _ _ _ _ _ _ _ _ (by decide) ⟨wid0, wid0, wid0, wid0⟩ (by omega) ⟨by simp; omega, fun x hx => ?_⟩ (by simp; omega) (by simp) (by simp) (by simp) (by simp) (by simp) (by simp) (by simp) (.inr ⟨by decide, rfl⟩), ?_, ?_⟩
    · rcases List.mem_append.1 hx with h | h
      · exact HBL.out x h
      · simp only [List.mem_cons, List.not_mem_nil, or_false] at h; omega
    · refine ⟨A5, d.length + 1, c5, none, 0, 0, rfl, by simp, rfl, ?_, ?_⟩
      · refine own_base (base := w.heap.size + 3) ?_ (by omega)
        iterate 10 (refine ownsRow_setCell_below ?_ (by simp; try omega) _)
        exact HO5.out
      · exact own_nil _ _ _ _
    · exact ((((((((((HB1.out.setCell (p := ⟨w.heap.size + 1 + 1, 7, none⟩) (Nat.le_add_right _ 2) _).setCell (p := ⟨w.heap.size + 1, 0, none⟩) (Nat.le_add_right _ 1) _).setCell (p := ⟨w.heap.size + 1, 1, none⟩) (Nat.le_add_right _ 1) _).setCell (p := ⟨w.heap.size + 1, 2, none⟩) (Nat.le_add_right _ 1) _).setCell (p := ⟨w.heap.size + 1, 3, none⟩) (Nat.le_add_right _ 1) _).setCell (p := ⟨w.heap.size + 1, 4, none⟩) (Nat.le_add_right _ 1) _).setCell (p := ⟨w.heap.size + 1, 5, none⟩) (Nat.le_add_right _ 1) _).setCell (p := ⟨w.heap.size + 1, 6, none⟩) (Nat.le_add_right _ 1) _).setCell (p := ⟨w.heap.size + 1, 7, none⟩) (Nat.le_add_right _ 1) _).setCell (p := ⟨w.heap.size + 1, 8, none⟩) (Nat.le_add_right _ 1) _)
  exact AllReadyH.nil
end Go.Proofs.YtnhkenecogjeaaaDoor
