/- Joined texts. The reference's Put of one packet, its path's Send: contracts. Conditions: as each theorem lists them. The reference's path's Send: a contract. Conditions: as each theorem lists them. -/
import Derived.Test.YtebfjphmlggacaaGreatJXf
set_option linter.unusedSimpArgs false
set_option linter.unusedVariables false

namespace Go.Proofs.YtebfjphmlggacaaGreat.Xr
open Go Go.RowKit Go.Proofs.YtebfjphmlggacaaGreat Go.Proofs.YtebfjphmlggacaaGreat.Sp Go.Proofs.YtebfjphmlggacaaGreat.Ld Go.Proofs.YtebfjphmlggacaaGreat.Pa

theorem rd_one {w : World} {g next fn fc : Nat} {at' : Int} {el : Bool} {fa : Option Addr} (h : w.heap[g]? = some (.cells #[.int .i64 (next : Int), .int .i64 at', .bool el, .slice fa fn fc] 75 (0, 0))) : Rd w w.heap.size (some ⟨g, 0, none⟩) (1 * 4) (pks [⟨next, at', el, fa, fn, fc⟩]) :=
  rd_block w g #[.int .i64 (next : Int), .int .i64 at', .bool el, .slice fa fn fc] 75 w.heap.size h (Nat.le_refl _)
theorem RLed.setNext {w : World} {lo p o : Nat} {T : TypeId} {cur : Array Value} {ks : List Pk} {next acked : Nat} (h : RLed w lo p o T cur ks next acked) (a : Nat) : RLed (w.setCell ⟨p, o + 1, none⟩ (.int .i64 (a : Int))) lo p o T (cur.setIfInBounds (o + 1) (.int .i64 (a : Int))) ks a acked := by
  obtain ⟨A, c, e, ho, hl⟩ := h.row
  exact ⟨h.hlo, set_slot h.hp _ _, h.hT, ⟨A, c, (slot_other (by omega)).trans e, own_other ho (set_grown w p (o + 1) _) h.hp h.hT, hl⟩, slot_set h.c1, (slot_other (by omega)).trans h.c2⟩
/-- What Put of one packet leaves. -/
def RPutP (w : World) (lo p o : Nat) (T : TypeId) (cur : Array Value) (ks : List Pk) (next acked : Nat) (k : Pk) (w' : World) : Prop :=
  ∃ cur', RLed w' lo p o T cur' (ks ++ [k]) (next + 1) acked ∧ Same3 o cur cur' ∧ w.grownBy w' (some p)

set_option maxRecDepth 100000 in
set_option maxHeartbeats 16000000 in
theorem rput_any {w : World} {lo p o : Nat} {T : TypeId} {cur : Array Value} {ks : List Pk} {next acked : Nat} (h : RLed w lo p o T cur ks next acked) (hn : ks.length ≤ 1099511627776) (hnx : next < 1099511627776) (at' : Int) (el : Bool) (fa : Option Addr) (fn fc : Nat) (A : Option Addr) (c : Nat) (hc : 1 ≤ c) (hbp : ∀ a, A = some a → a.block ≠ p) (hrd : Rd w w.heap.size A (1 * 4) (pks [⟨next, at', el, fa, fn, fc⟩])) :
    Calls Tryz.prog 54 #[.pointer (some ⟨p, o, none⟩), .slice A 1 c] w fun e w' => e = .returned (.tuple #[]) ∧ RPutP w lo p o T cur ks next acked ⟨next, at', el, fa, fn, fc⟩ w' := by
  obtain ⟨i0, hi, hz0, hz1, hz2⟩ := info_parts infoS
  have HI := Lib.hid (And.intro hi (And.intro hz0 (And.intro hz1 hz2)))
  have H := Lib.hid h
  have hnI : (ks.length : Int) ≤ 1099511627776 := by omega
  have hnxI : (next : Int) < 1099511627776 := by omega
  have hcI : (1 : Int) ≤ (c : Int) := by omega
  obtain ⟨b, off, hA, hb, hcs⟩ := hrd.2 (by omega)
  subst hA
  have HBP : Hid (b ≠ p) := hbp _ rfl
  clear hbp
  have HCS : Hid (∀ W, Below w.heap.size w W → W.cell? ⟨b, off, none⟩ = some (.int .i64 (next : Int)) ∧ W.cell? ⟨b, off + 1, none⟩ = some (.int .i64 at') ∧ W.cell? ⟨b, off + 2, none⟩ = some (.bool el) ∧ W.cell? ⟨b, off + 3, none⟩ = some (.slice fa fn fc)) := fun W hW =>
    ⟨(hW.cell (p := ⟨b, off, none⟩) hb).trans (hcs 0 _ rfl), (hW.cell (p := ⟨b, off + 1, none⟩) hb).trans (hcs 1 _ rfl), (hW.cell (p := ⟨b, off + 2, none⟩) hb).trans (hcs 2 _ rfl), (hW.cell (p := ⟨b, off + 3, none⟩) hb).trans (hcs 3 _ rfl)⟩
  clear h hi hz0 hz1 hz2 hrd hcs hb
  go_enter Tryz.func54, Tryz.ntmps54
  go_wp2_with fail
  go_loopw [4] (fun i wr => ∃ j : Nat, i = .int .i64 (j : Int) ∧ j ≤ 1 ∧ (j = 0 → w = wr) ∧ (j = 1 → RPutP w lo p o T cur ks next acked ⟨next, at', el, fa, fn, fc⟩ wr)) (fun i _ => 1 - (intOf i).toNat)
  case atStart => exact ⟨0, rfl, Nat.zero_le _, fun _ => rfl, fun h => by omega⟩
  case round =>
    obtain ⟨j, rfl, hj, hw0, hw1⟩ := hrel
    by_cases hlt : j < 1
    · have hltI : (j : Int) < 1 := by omega
      have HJ : Hid (j = 0) := by show _ = _; omega
      have hwr := hw0 (by omega)
      subst hwr
      clear hw0 hw1
      have HCS : Hid (∀ W, Below w.heap.size w W → W.cell? ⟨b, off + j * 4, none⟩ = some (.int .i64 (next : Int)) ∧ W.cell? ⟨b, off + j * 4 + 1, none⟩ = some (.int .i64 at') ∧ W.cell? ⟨b, off + j * 4 + 2, none⟩ = some (.bool el) ∧ W.cell? ⟨b, off + j * 4 + 3, none⟩ = some (.slice fa fn fc)) := fun W hW => by
        rw [HJ.out]
        exact HCS.out W hW
      obtain ⟨d0, d1, d2, d3⟩ := HCS.out _ (Below.refl _ _)
      have cn := H.out.cell.1
      go_wp2_with fail
      go_quiet (fail)
      obtain ⟨w0, hw0⟩ : ∃ x, w.drewN nq = x := ⟨_, rfl⟩
      have hb0 : Below w.heap.size w w0 := hw0 ▸ Below.drewN' _ _ _
      have H0 := Lib.hid (H.out.keep hb0)
      have hsz0 : w0.heap.size = w.heap.size := by rw [← hw0]; rfl
      have HW0 : Hid (w.heap.size = w0.heap.size ∧ Below w.heap.size w w0) := ⟨hsz0.symm, hb0⟩
      obtain ⟨A0, c0, hA0, hO0, hlc0⟩ := H0.out.row
      have HC0 := Lib.hid (HCS.out _ hb0)
      have HRD : Hid (Rd w0 w0.heap.size A0 (ks.length * 4) (pks ks)) := Rd.of_own hO0
      have HCP := Lib.hid (cell_slot H0.out.hp hA0)
      have HOC : Hid (o < cur.size) := (Array.getElem?_eq_some_iff.1 hA0).1
      have HLO : Hid (lo ≤ w0.heap.size) := by have := H0.out.lt; show _ ≤ _; omega
      have HPL : Hid (p < w0.heap.size) := H0.out.lt.2
      have HFZ : Hid (∀ W, Below w0.heap.size w0 W → W.frozen? ⟨p, o, none⟩ = false) := fun W hW => (H0.out.keep hW).cell.2.2 _
      have HBL : Hid (b < w0.heap.size) := by
        have := HC0.out.1
        unfold World.cell? at this
        rcases Nat.lt_or_ge b w0.heap.size with h | h
        · exact h
        · rw [Array.getElem?_eq_none h] at this
          cases this
      have HS : Hid (∀ W, Below w0.heap.size w0 W → W.cell? ⟨b, off + j * 4, none⟩ = some (.int .i64 (next : Int)) ∧ W.cell? ⟨b, off + j * 4 + 1, none⟩ = some (.int .i64 at') ∧ W.cell? ⟨b, off + j * 4 + 2, none⟩ = some (.bool el) ∧ W.cell? ⟨b, off + j * 4 + 3, none⟩ = some (.slice fa fn fc)) := fun W hW =>
        ⟨(hW.cell (p := ⟨b, off + j * 4, none⟩) HBL.out).trans HC0.out.1, (hW.cell (p := ⟨b, off + j * 4 + 1, none⟩) HBL.out).trans HC0.out.2.1, (hW.cell (p := ⟨b, off + j * 4 + 2, none⟩) HBL.out).trans HC0.out.2.2.1, (hW.cell (p := ⟨b, off + j * 4 + 3, none⟩) HBL.out).trans HC0.out.2.2.2⟩
      have HSET : Hid (∀ W, Below w0.heap.size w0 W → ∀ v, (W.setCell ⟨p, o, none⟩ v).cell? ⟨b, off + j * 4, none⟩ = some (.int .i64 (next : Int)) ∧ (W.setCell ⟨p, o, none⟩ v).cell? ⟨b, off + j * 4 + 1, none⟩ = some (.int .i64 at') ∧ (W.setCell ⟨p, o, none⟩ v).cell? ⟨b, off + j * 4 + 2, none⟩ = some (.bool el) ∧ (W.setCell ⟨p, o, none⟩ v).cell? ⟨b, off + j * 4 + 3, none⟩ = some (.slice fa fn fc)) := fun W hW v => by
        have e : ∀ t, (W.setCell ⟨p, o, none⟩ v).cell? ⟨b, t, none⟩ = W.cell? ⟨b, t, none⟩ := fun t => World.cell?_of_block (Below.heap_setCell _ _ _ _ HBP.out)
        rw [e, e, e, e]
        exact HS.out W hW
      have HPO : Hid (∀ W, Below w0.heap.size w0 W → W.cell? ⟨p, o, none⟩ = some (.slice A0 ks.length c0)) := fun W hW => (hW.cell (p := ⟨p, o, none⟩) HPL.out).trans HCP.out
      have hmost : decide ((next : Int) ≤ 4611686018427387903) = true := decide_eq_true (by omega)
      rw [hw0, hmost]
      clear hmost hw0 hb0 hsz0 hA0 hO0 d0 d1 d2 d3 cn HC0
      go_wp2_with fail
      refine wp_region_held_drew (S := (fun W : World => W.cell? ⟨b, off + j * 4, none⟩ = some (.int .i64 (next : Int)) ∧ W.cell? ⟨b, off + j * 4 + 1, none⟩ = some (.int .i64 at') ∧ W.cell? ⟨b, off + j * 4 + 2, none⟩ = some (.bool el) ∧ W.cell? ⟨b, off + j * 4 + 3, none⟩ = some (.slice fa fn fc))) (by kernel_rfl) ?_ (fun hHeld => ?_)
      · exact HS.out _ (Below.refl _ _).drew
      obtain ⟨x, hx⟩ : ∃ z, w0.drew = z := ⟨_, rfl⟩
      have HB_x : Hid (Below w0.heap.size w0 x) := hx ▸ (Below.refl _ _).drew
      rw [hx] at hHeld ⊢
      clear hx
      refine wpAnyH_take (i := 0) (v := ?_) rfl (by kernel_rfl) (by kernel_rfl) (by kernel_rfl) (fun _ _ _ h => h) (Or.inl ⟨by rfl, ?_⟩) (by assumption) ?_
      rotate_left
      · intro w hSw; (try dsimp only at hSw); go_simp; try with_reducible rfl
      go_simp
      refine wpAnyH_take (i := 2) (v := ?_) rfl (by kernel_rfl) (by kernel_rfl) (by kernel_rfl) (fun _ _ _ h => h) (Or.inl ⟨by rfl, ?_⟩) (by assumption) ?_
      rotate_left
      · intro w hSw; (try dsimp only at hSw); go_simp; try with_reducible rfl
      go_simp
      refine wpAnyH_take (i := 3) (v := ?_) rfl (by kernel_rfl) (by kernel_rfl) (by kernel_rfl) (fun _ _ _ h => h) (Or.inl ⟨by rfl, ?_⟩) (by assumption) ?_
      rotate_left
      · intro w hSw; (try dsimp only at hSw); go_simp; try with_reducible rfl
      go_simp
      refine wpAnyH_take (i := 4) (v := ?_) rfl (by kernel_rfl) (by kernel_rfl) (by kernel_rfl) (fun _ _ _ h => h) (Or.inl ⟨by rfl, ?_⟩) (by assumption) ?_
      rotate_left
      · intro w hSw; (try dsimp only at hSw); go_simp; try with_reducible rfl
      go_simp
      refine wpAnyH_take (i := 7) (v := ?_) rfl (by kernel_rfl) (by kernel_rfl) (by kernel_rfl) (fun _ _ _ h => h) (Or.inl ⟨by rfl, ?_⟩) (by assumption) ?_
      rotate_left
      · intro w hSw; (try dsimp only at hSw); go_simp; try with_reducible rfl
      go_simp
      refine wpAnyH_take (i := 8) (v := ?_) rfl (by kernel_rfl) (by kernel_rfl) (by kernel_rfl) (fun _ _ _ h => h) (Or.inl ⟨by rfl, ?_⟩) (by assumption) ?_
      rotate_left
      · intro w hSw; (try dsimp only at hSw); go_simp; try with_reducible rfl
      go_simp
      refine wpAnyH_take (i := 9) (v := ?_) rfl (by kernel_rfl) (by kernel_rfl) (by kernel_rfl) (fun _ _ _ h => h) (Or.inl ⟨by rfl, ?_⟩) (by assumption) ?_
      rotate_left
      · intro w hSw; (try dsimp only at hSw); go_simp; try with_reducible rfl
      go_simp
      refine wpAnyH_take (i := 10) (v := ?_) rfl (by kernel_rfl) (by kernel_rfl) (by kernel_rfl) (fun _ _ _ h => h) (Or.inl ⟨by rfl, ?_⟩) (by assumption) ?_
      rotate_left
      · intro w hSw; (try dsimp only at hSw); go_simp; try with_reducible rfl
      go_simp
      refine wpAnyH_ready (rs := [1, 5, 11]) (by kernel_rfl) (by simp) ?_
      refine AllReadyH.cons rfl (fun K hK => ?_) ?_
      · skip
        go_simp
        have hb := (HB_x.out).alloc HB_x.out.size (.cells #[] 75)
        have he : (World.alloc x (.cells #[] 75)).ownsRow w0.heap.size 75 4 (.slice (some ⟨(World.heap x).size, 0, none⟩) 0 0) 0 [] := own_new x #[] _ 4 0 (World.heap x).size w0.heap.size rfl rfl (by unfold maxLen; omega) HB_x.out.size
        obtain ⟨g1, hg1⟩ : ∃ z, (World.heap x).size = z := ⟨_, rfl⟩
        obtain ⟨xe, hxe⟩ : ∃ z, World.alloc x (.cells #[] 75) = z := ⟨_, rfl⟩
        rw [hxe] at hb he
        rw [hg1] at he
        have HL1 : Hid (g1 < (World.heap xe).size) := by rw [← hg1, ← hxe]; show _ < _; simp
        have HB_xe := Lib.hid hb
        have HE_xe := Lib.hid he
        clear hb he
        first | rw [hg1, hxe] | rw [hxe, hg1] | rw [hxe] | skip
        clear hxe hg1
        refine hK.out _ _ ?_ (fun hHeld => ?_)
        · exact HS.out _ HB_xe.out
        clear hK K
        go_simp
        refine wpAnyH_ready (rs := [5, 11]) (by kernel_rfl) (by simp) ?_
        refine AllReadyH.cons rfl (fun K hK => ?_) ?_
        · skip
          have hcp : World.cell? xe ⟨p, o, none⟩ = some (.slice A0 ks.length c0) := HPO.out _ HB_xe.out
          go_simp
          clear hcp
          refine hK.out _ _ ?_ (fun hHeld => ?_)
          · exact HS.out _ HB_xe.out
          clear hK K
          go_simp
          refine wpAnyH_ready (rs := [6, 11]) (by kernel_rfl) (by simp) ?_
          refine AllReadyH.cons rfl (fun K hK => ?_) ?_
          · skip
            refine step_own rfl (.tmp 30) (.tmp 34) 35 rfl w0.heap.size 75 i0 (.agg #[.int .i64 0, .int .i64 0, .bool false, .slice none 0 0]) 4 48 Tryz.underlying35 HI.out.1 HI.out.2.1 HI.out.2.2.1 HI.out.2.2.2 rfl (by decide) (.slice (some ⟨g1, 0, none⟩) 0 0) 0 [] (by simp [Act.eval, Act.put]) HE_xe.out w0.heap.size A0 ks.length c0 (pks ks) (by simp [Act.eval, Act.put]) (HRD.out.below HB_xe.out (Nat.le_refl _)) (ones_pks _) (by unfold maxLen; omega) (by omega) HB_xe.out.size ?_
            intro v6 xer ho6 hg6
            rw [Nat.zero_add] at ho6
            obtain ⟨A6, c6, e6, _⟩ := own_form ho6
            subst e6
            have HB_xer : Hid (Below w0.heap.size w0 xer) := HB_xe.out.grown hg6 HB_xe.out.size (fun g hg => (HE_xe.out.lt g hg).1)
            have hr6 : World.ownsRow xer w0.heap.size 75 4 (.slice A6 ks.length c6) ks.length (pks ks) := by simpa using ho6
            have HR_xer := Lib.hid hr6
            clear hr6
            clear ho6 hg6
            refine hK.out _ _ ?_ (fun hHeld => ?_)
            · exact HS.out _ HB_xer.out
            clear hK K
            go_simp
            refine wpAnyH_ready (rs := [11]) (by kernel_rfl) (by simp) ?_
            refine AllReadyH.cons rfl (fun K hK => ?_) AllReadyH.nil
            go_simp
            have hb := (HB_xer.out).alloc HB_xer.out.size (.cells #[.int .i64 (next : Int), .int .i64 at', .bool el, .slice fa fn fc] 75)
            have hp := heap_alloc_new xer (.cells #[.int .i64 (next : Int), .int .i64 at', .bool el, .slice fa fn fc] 75)
            have hr := HR_xer.out.alloc (.cells #[.int .i64 (next : Int), .int .i64 at', .bool el, .slice fa fn fc] 75)
            obtain ⟨g2, hg2⟩ : ∃ z, (World.heap xer).size = z := ⟨_, rfl⟩
            obtain ⟨xerp, hxerp⟩ : ∃ z, World.alloc xer (.cells #[.int .i64 (next : Int), .int .i64 at', .bool el, .slice fa fn fc] 75) = z := ⟨_, rfl⟩
            rw [hxerp] at hb hp
            rw [hg2] at hp
            rw [hxerp] at hr
            have HR_xerp := Lib.hid hr
            clear hr
            have HB_xerp := Lib.hid hb
            have HP_xerp := Lib.hid hp
            clear hb hp
            first | rw [hg2, hxerp] | rw [hxerp, hg2] | rw [hxerp] | skip
            clear hxerp hg2
            refine hK.out _ _ ?_ (fun hHeld => ?_)
            · exact HS.out _ HB_xerp.out
            clear hK K
            go_simp
            refine wpAnyH_ready (rs := [12]) (by kernel_rfl) (by simp) ?_
            refine AllReadyH.cons rfl (fun K hK => ?_) AllReadyH.nil
            refine step_own rfl (.tmp 35) (.tmp 40) 35 rfl w0.heap.size 75 i0 (.agg #[.int .i64 0, .int .i64 0, .bool false, .slice none 0 0]) 4 48 Tryz.underlying35 HI.out.1 HI.out.2.1 HI.out.2.2.1 HI.out.2.2.2 rfl (by decide) (.slice A6 ks.length c6) ks.length (pks ks) (by simp [Act.eval, Act.put]) HR_xerp.out (World.heap xerp).size (some ⟨g2, 0, none⟩) 1 1 (pks [⟨next, at', el, fa, fn, fc⟩]) (by simp [Act.eval, Act.put]) (rd_one HP_xerp.out) (ones_pks _) (by unfold maxLen; omega) (by omega) HB_xerp.out.size ?_
            intro v7 y ho7 hg7
            rw [← pks_app] at ho7
            obtain ⟨A7, c7, e7, hl7, _⟩ := own_form ho7
            subst e7
            have HB_y : Hid (Below w0.heap.size w0 y) := HB_xerp.out.grown hg7 HB_xerp.out.size (fun g hg => (HR_xerp.out.lt g hg).1)
            have HO7 := Lib.hid ho7
            have HL7 := Lib.hid hl7
            have hfy : World.frozen? y ⟨p, o, none⟩ = false := HFZ.out _ HB_y.out
            have hcy : World.cell? y ⟨p, o, none⟩ = some (.slice A0 ks.length c0) := HPO.out _ HB_y.out
            clear ho7 hg7 hl7
            refine hK.out _ _ ?_ (fun hHeld => ?_)
            · exact HS.out _ HB_y.out
            clear hK K
            go_simp
            refine wpAnyH_take (i := 13) (v := ?_) rfl (by kernel_rfl) (by kernel_rfl) (by kernel_rfl) (fun _ _ _ h => h) (Or.inl ⟨by rfl, ?_⟩) (by assumption) ?_
            rotate_left
            · intro w hSw; (try dsimp only at hSw); go_simp; try with_reducible rfl
            go_simp
            refine wpAnyH_take (i := 14) (v := ?_) rfl (by kernel_rfl) (by kernel_rfl) (by kernel_rfl) (fun _ _ _ h => h) (Or.inl ⟨by rfl, ?_⟩) (by assumption) ?_
            rotate_left
            · intro w hSw; (try dsimp only at hSw); go_simp; try with_reducible rfl
            go_simp
            refine wpAnyH_ready (rs := [15]) (by kernel_rfl) (by simp) ?_
            refine AllReadyH.cons rfl (fun K hK => ?_) AllReadyH.nil
            go_simp
            refine hK.out _ _ ?_ (fun hHeld => ?_)
            · exact HSET.out _ HB_y.out _
            clear hK K
            go_simp
            refine wpAnyH_done (by kernel_rfl) ?_ _
            have HLD : Hid (RLed (y.setCell ⟨p, o, none⟩ (.slice A7 (ks.length + 1) c7)) lo p o T (cur.setIfInBounds o (.slice A7 (ks.length + 1) c7)) (ks ++ [⟨next, at', el, fa, fn, fc⟩]) next acked) := by
              have hl : (ks ++ [(⟨next, at', el, fa, fn, fc⟩ : Pk)]).length = ks.length + 1 := by simp
              have := (H0.out.keep HB_y.out).setRow (ks' := ks ++ [⟨next, at', el, fa, fn, fc⟩]) (A := A7) (c := c7) (by rw [hl]; exact own_base HO7.out HLO.out) (by rw [hl]; exact HL7.out) HOC.out
              rwa [hl] at this
            have HGR : Hid (w0.grownBy (y.setCell ⟨p, o, none⟩ (.slice A7 (ks.length + 1) c7)) (some p)) := below_grown HB_y.out (set_grown y p o _)
            obtain ⟨z, hz⟩ : ∃ z, y.setCell ⟨p, o, none⟩ (.slice A7 (ks.length + 1) c7) = z := ⟨_, rfl⟩
            rw [hz] at HLD HGR ⊢
            have hcz := HLD.out.cell.1
            have hfz2 := HLD.out.cell.2.2 (o + 1)
            have HF : Hid (RPutP w lo p o T cur ks next acked ⟨next, at', el, fa, fn, fc⟩ (z.setCell ⟨p, o + 1, none⟩ (.int .i64 ((next : Int) + 1)))) := by
              have := HLD.out.setNext (next + 1)
              refine ⟨_, this, ((Same3.refl o cur).set o (by omega) _).set (o + 1) (by omega) _, below_grown HW0.out.2 (grown_two2 HGR.out (set_grown z p (o + 1) _))⟩
            clear HLD HGR HO7 HL7 hz
            go_wp2_with fail
            refine ⟨⟨j + 1, by go_num, by omega, fun h => by omega, fun _ => HF.out⟩, ?_⟩
            simp [intOf]; omega
          refine AllReadyH.cons rfl (fun K hK => ?_) ?_
          · skip
            go_simp
            have hb := (HB_xe.out).alloc HB_xe.out.size (.cells #[.int .i64 (next : Int), .int .i64 at', .bool el, .slice fa fn fc] 75)
            have hp := heap_alloc_new xe (.cells #[.int .i64 (next : Int), .int .i64 at', .bool el, .slice fa fn fc] 75)
            have he := HE_xe.out.alloc (.cells #[.int .i64 (next : Int), .int .i64 at', .bool el, .slice fa fn fc] 75)
            have HG : Hid ((World.heap xe).size ≠ g1) := by have := HL1.out; show _ ≠ _; omega
            obtain ⟨g2, hg2⟩ : ∃ z, (World.heap xe).size = z := ⟨_, rfl⟩
            obtain ⟨xep, hxep⟩ : ∃ z, World.alloc xe (.cells #[.int .i64 (next : Int), .int .i64 at', .bool el, .slice fa fn fc] 75) = z := ⟨_, rfl⟩
            rw [hxep] at hb hp
            rw [hg2] at hp
            rw [hxep] at he
            rw [hg2] at HG
            have HE_xep := Lib.hid he
            clear he
            have HB_xep := Lib.hid hb
            have HP_xep := Lib.hid hp
            clear hb hp
            first | rw [hg2, hxep] | rw [hxep, hg2] | rw [hxep] | skip
            clear hxep hg2
            refine hK.out _ _ ?_ (fun hHeld => ?_)
            · exact HS.out _ HB_xep.out
            clear hK K
            go_simp
            refine wpAnyH_ready (rs := [6]) (by kernel_rfl) (by simp) ?_
            refine AllReadyH.cons rfl (fun K hK => ?_) AllReadyH.nil
            refine step_own rfl (.tmp 30) (.tmp 34) 35 rfl w0.heap.size 75 i0 (.agg #[.int .i64 0, .int .i64 0, .bool false, .slice none 0 0]) 4 48 Tryz.underlying35 HI.out.1 HI.out.2.1 HI.out.2.2.1 HI.out.2.2.2 rfl (by decide) (.slice (some ⟨g1, 0, none⟩) 0 0) 0 [] (by simp [Act.eval, Act.put]) HE_xep.out w0.heap.size A0 ks.length c0 (pks ks) (by simp [Act.eval, Act.put]) (HRD.out.below HB_xep.out (Nat.le_refl _)) (ones_pks _) (by unfold maxLen; omega) (by omega) HB_xep.out.size ?_
            intro v6 xepr ho6 hg6
            rw [Nat.zero_add] at ho6
            obtain ⟨A6, c6, e6, _⟩ := own_form ho6
            subst e6
            have HB_xepr : Hid (Below w0.heap.size w0 xepr) := HB_xep.out.grown hg6 HB_xep.out.size (fun g hg => (HE_xep.out.lt g hg).1)
            have hr6 : World.ownsRow xepr w0.heap.size 75 4 (.slice A6 ks.length c6) ks.length (pks ks) := by simpa using ho6
            have HR_xepr := Lib.hid hr6
            clear hr6
            have HP_xepr : Hid ((World.heap xepr)[g2]? = some (.cells #[.int .i64 (next : Int), .int .i64 at', .bool el, .slice fa fn fc] 75 (0, 0))) := (hg6.block g2 (lt_of_block HP_xep.out) (by simpa [Value.ownBlock] using HG.out)).trans HP_xep.out
            clear ho6 hg6
            refine hK.out _ _ ?_ (fun hHeld => ?_)
            · exact HS.out _ HB_xepr.out
            clear hK K
            go_simp
            refine wpAnyH_ready (rs := [12]) (by kernel_rfl) (by simp) ?_
            refine AllReadyH.cons rfl (fun K hK => ?_) AllReadyH.nil
            refine step_own rfl (.tmp 35) (.tmp 40) 35 rfl w0.heap.size 75 i0 (.agg #[.int .i64 0, .int .i64 0, .bool false, .slice none 0 0]) 4 48 Tryz.underlying35 HI.out.1 HI.out.2.1 HI.out.2.2.1 HI.out.2.2.2 rfl (by decide) (.slice A6 ks.length c6) ks.length (pks ks) (by simp [Act.eval, Act.put]) HR_xepr.out (World.heap xepr).size (some ⟨g2, 0, none⟩) 1 1 (pks [⟨next, at', el, fa, fn, fc⟩]) (by simp [Act.eval, Act.put]) (rd_one HP_xepr.out) (ones_pks _) (by unfold maxLen; omega) (by omega) HB_xepr.out.size ?_
            intro v7 y ho7 hg7
            rw [← pks_app] at ho7
            obtain ⟨A7, c7, e7, hl7, _⟩ := own_form ho7
            subst e7
            have HB_y : Hid (Below w0.heap.size w0 y) := HB_xepr.out.grown hg7 HB_xepr.out.size (fun g hg => (HR_xepr.out.lt g hg).1)
            have HO7 := Lib.hid ho7
            have HL7 := Lib.hid hl7
            have hfy : World.frozen? y ⟨p, o, none⟩ = false := HFZ.out _ HB_y.out
            have hcy : World.cell? y ⟨p, o, none⟩ = some (.slice A0 ks.length c0) := HPO.out _ HB_y.out
            clear ho7 hg7 hl7
            refine hK.out _ _ ?_ (fun hHeld => ?_)
            · exact HS.out _ HB_y.out
            clear hK K
            go_simp
            refine wpAnyH_take (i := 13) (v := ?_) rfl (by kernel_rfl) (by kernel_rfl) (by kernel_rfl) (fun _ _ _ h => h) (Or.inl ⟨by rfl, ?_⟩) (by assumption) ?_
            rotate_left
            · intro w hSw; (try dsimp only at hSw); go_simp; try with_reducible rfl
            go_simp
            refine wpAnyH_take (i := 14) (v := ?_) rfl (by kernel_rfl) (by kernel_rfl) (by kernel_rfl) (fun _ _ _ h => h) (Or.inl ⟨by rfl, ?_⟩) (by assumption) ?_
            rotate_left
            · intro w hSw; (try dsimp only at hSw); go_simp; try with_reducible rfl
            go_simp
            refine wpAnyH_ready (rs := [15]) (by kernel_rfl) (by simp) ?_
            refine AllReadyH.cons rfl (fun K hK => ?_) AllReadyH.nil
            go_simp
            refine hK.out _ _ ?_ (fun hHeld => ?_)
            · exact HSET.out _ HB_y.out _
            clear hK K
            go_simp
            refine wpAnyH_done (by kernel_rfl) ?_ _
            have HLD : Hid (RLed (y.setCell ⟨p, o, none⟩ (.slice A7 (ks.length + 1) c7)) lo p o T (cur.setIfInBounds o (.slice A7 (ks.length + 1) c7)) (ks ++ [⟨next, at', el, fa, fn, fc⟩]) next acked) := by
              have hl : (ks ++ [(⟨next, at', el, fa, fn, fc⟩ : Pk)]).length = ks.length + 1 := by simp
              have := (H0.out.keep HB_y.out).setRow (ks' := ks ++ [⟨next, at', el, fa, fn, fc⟩]) (A := A7) (c := c7) (by rw [hl]; exact own_base HO7.out HLO.out) (by rw [hl]; exact HL7.out) HOC.out
              rwa [hl] at this
            have HGR : Hid (w0.grownBy (y.setCell ⟨p, o, none⟩ (.slice A7 (ks.length + 1) c7)) (some p)) := below_grown HB_y.out (set_grown y p o _)
            obtain ⟨z, hz⟩ : ∃ z, y.setCell ⟨p, o, none⟩ (.slice A7 (ks.length + 1) c7) = z := ⟨_, rfl⟩
            rw [hz] at HLD HGR ⊢
            have hcz := HLD.out.cell.1
            have hfz2 := HLD.out.cell.2.2 (o + 1)
            have HF : Hid (RPutP w lo p o T cur ks next acked ⟨next, at', el, fa, fn, fc⟩ (z.setCell ⟨p, o + 1, none⟩ (.int .i64 ((next : Int) + 1)))) := by
              have := HLD.out.setNext (next + 1)
              refine ⟨_, this, ((Same3.refl o cur).set o (by omega) _).set (o + 1) (by omega) _, below_grown HW0.out.2 (grown_two2 HGR.out (set_grown z p (o + 1) _))⟩
            clear HLD HGR HO7 HL7 hz
            go_wp2_with fail
            refine ⟨⟨j + 1, by go_num, by omega, fun h => by omega, fun _ => HF.out⟩, ?_⟩
            simp [intOf]; omega
          exact AllReadyH.nil
        refine AllReadyH.cons rfl (fun K hK => ?_) ?_
        · skip
          go_simp
          have hb := (HB_xe.out).alloc HB_xe.out.size (.cells #[.int .i64 (next : Int), .int .i64 at', .bool el, .slice fa fn fc] 75)
          have hp := heap_alloc_new xe (.cells #[.int .i64 (next : Int), .int .i64 at', .bool el, .slice fa fn fc] 75)
          have he := HE_xe.out.alloc (.cells #[.int .i64 (next : Int), .int .i64 at', .bool el, .slice fa fn fc] 75)
          have HG : Hid ((World.heap xe).size ≠ g1) := by have := HL1.out; show _ ≠ _; omega
          obtain ⟨g2, hg2⟩ : ∃ z, (World.heap xe).size = z := ⟨_, rfl⟩
          obtain ⟨xep, hxep⟩ : ∃ z, World.alloc xe (.cells #[.int .i64 (next : Int), .int .i64 at', .bool el, .slice fa fn fc] 75) = z := ⟨_, rfl⟩
          rw [hxep] at hb hp
          rw [hg2] at hp
          rw [hxep] at he
          rw [hg2] at HG
          have HE_xep := Lib.hid he
          clear he
          have HB_xep := Lib.hid hb
          have HP_xep := Lib.hid hp
          clear hb hp
          first | rw [hg2, hxep] | rw [hxep, hg2] | rw [hxep] | skip
          clear hxep hg2
          refine hK.out _ _ ?_ (fun hHeld => ?_)
          · exact HS.out _ HB_xep.out
          clear hK K
          go_simp
          refine wpAnyH_ready (rs := [5]) (by kernel_rfl) (by simp) ?_
          refine AllReadyH.cons rfl (fun K hK => ?_) AllReadyH.nil
          have hcp : World.cell? xep ⟨p, o, none⟩ = some (.slice A0 ks.length c0) := HPO.out _ HB_xep.out
          go_simp
          clear hcp
          refine hK.out _ _ ?_ (fun hHeld => ?_)
          · exact HS.out _ HB_xep.out
          clear hK K
          go_simp
          refine wpAnyH_ready (rs := [6]) (by kernel_rfl) (by simp) ?_
          refine AllReadyH.cons rfl (fun K hK => ?_) AllReadyH.nil
          refine step_own rfl (.tmp 30) (.tmp 34) 35 rfl w0.heap.size 75 i0 (.agg #[.int .i64 0, .int .i64 0, .bool false, .slice none 0 0]) 4 48 Tryz.underlying35 HI.out.1 HI.out.2.1 HI.out.2.2.1 HI.out.2.2.2 rfl (by decide) (.slice (some ⟨g1, 0, none⟩) 0 0) 0 [] (by simp [Act.eval, Act.put]) HE_xep.out w0.heap.size A0 ks.length c0 (pks ks) (by simp [Act.eval, Act.put]) (HRD.out.below HB_xep.out (Nat.le_refl _)) (ones_pks _) (by unfold maxLen; omega) (by omega) HB_xep.out.size ?_
          intro v6 xepr ho6 hg6
          rw [Nat.zero_add] at ho6
          obtain ⟨A6, c6, e6, _⟩ := own_form ho6
          subst e6
          have HB_xepr : Hid (Below w0.heap.size w0 xepr) := HB_xep.out.grown hg6 HB_xep.out.size (fun g hg => (HE_xep.out.lt g hg).1)
          have hr6 : World.ownsRow xepr w0.heap.size 75 4 (.slice A6 ks.length c6) ks.length (pks ks) := by simpa using ho6
          have HR_xepr := Lib.hid hr6
          clear hr6
          have HP_xepr : Hid ((World.heap xepr)[g2]? = some (.cells #[.int .i64 (next : Int), .int .i64 at', .bool el, .slice fa fn fc] 75 (0, 0))) := (hg6.block g2 (lt_of_block HP_xep.out) (by simpa [Value.ownBlock] using HG.out)).trans HP_xep.out
          clear ho6 hg6
          refine hK.out _ _ ?_ (fun hHeld => ?_)
          · exact HS.out _ HB_xepr.out
          clear hK K
          go_simp
          refine wpAnyH_ready (rs := [12]) (by kernel_rfl) (by simp) ?_
          refine AllReadyH.cons rfl (fun K hK => ?_) AllReadyH.nil
          refine step_own rfl (.tmp 35) (.tmp 40) 35 rfl w0.heap.size 75 i0 (.agg #[.int .i64 0, .int .i64 0, .bool false, .slice none 0 0]) 4 48 Tryz.underlying35 HI.out.1 HI.out.2.1 HI.out.2.2.1 HI.out.2.2.2 rfl (by decide) (.slice A6 ks.length c6) ks.length (pks ks) (by simp [Act.eval, Act.put]) HR_xepr.out (World.heap xepr).size (some ⟨g2, 0, none⟩) 1 1 (pks [⟨next, at', el, fa, fn, fc⟩]) (by simp [Act.eval, Act.put]) (rd_one HP_xepr.out) (ones_pks _) (by unfold maxLen; omega) (by omega) HB_xepr.out.size ?_
          intro v7 y ho7 hg7
          rw [← pks_app] at ho7
          obtain ⟨A7, c7, e7, hl7, _⟩ := own_form ho7
          subst e7
          have HB_y : Hid (Below w0.heap.size w0 y) := HB_xepr.out.grown hg7 HB_xepr.out.size (fun g hg => (HR_xepr.out.lt g hg).1)
          have HO7 := Lib.hid ho7
          have HL7 := Lib.hid hl7
          have hfy : World.frozen? y ⟨p, o, none⟩ = false := HFZ.out _ HB_y.out
          have hcy : World.cell? y ⟨p, o, none⟩ = some (.slice A0 ks.length c0) := HPO.out _ HB_y.out
          clear ho7 hg7 hl7
          refine hK.out _ _ ?_ (fun hHeld => ?_)
          · exact HS.out _ HB_y.out
          clear hK K
          go_simp
          refine wpAnyH_take (i := 13) (v := ?_) rfl (by kernel_rfl) (by kernel_rfl) (by kernel_rfl) (fun _ _ _ h => h) (Or.inl ⟨by rfl, ?_⟩) (by assumption) ?_
          rotate_left
          · intro w hSw; (try dsimp only at hSw); go_simp; try with_reducible rfl
          go_simp
          refine wpAnyH_take (i := 14) (v := ?_) rfl (by kernel_rfl) (by kernel_rfl) (by kernel_rfl) (fun _ _ _ h => h) (Or.inl ⟨by rfl, ?_⟩) (by assumption) ?_
          rotate_left
          · intro w hSw; (try dsimp only at hSw); go_simp; try with_reducible rfl
          go_simp
          refine wpAnyH_ready (rs := [15]) (by kernel_rfl) (by simp) ?_
          refine AllReadyH.cons rfl (fun K hK => ?_) AllReadyH.nil
          go_simp
          refine hK.out _ _ ?_ (fun hHeld => ?_)
          · exact HSET.out _ HB_y.out _
          clear hK K
          go_simp
          refine wpAnyH_done (by kernel_rfl) ?_ _
          have HLD : Hid (RLed (y.setCell ⟨p, o, none⟩ (.slice A7 (ks.length + 1) c7)) lo p o T (cur.setIfInBounds o (.slice A7 (ks.length + 1) c7)) (ks ++ [⟨next, at', el, fa, fn, fc⟩]) next acked) := by
            have hl : (ks ++ [(⟨next, at', el, fa, fn, fc⟩ : Pk)]).length = ks.length + 1 := by simp
            have := (H0.out.keep HB_y.out).setRow (ks' := ks ++ [⟨next, at', el, fa, fn, fc⟩]) (A := A7) (c := c7) (by rw [hl]; exact own_base HO7.out HLO.out) (by rw [hl]; exact HL7.out) HOC.out
            rwa [hl] at this
          have HGR : Hid (w0.grownBy (y.setCell ⟨p, o, none⟩ (.slice A7 (ks.length + 1) c7)) (some p)) := below_grown HB_y.out (set_grown y p o _)
          obtain ⟨z, hz⟩ : ∃ z, y.setCell ⟨p, o, none⟩ (.slice A7 (ks.length + 1) c7) = z := ⟨_, rfl⟩
          rw [hz] at HLD HGR ⊢
          have hcz := HLD.out.cell.1
          have hfz2 := HLD.out.cell.2.2 (o + 1)
          have HF : Hid (RPutP w lo p o T cur ks next acked ⟨next, at', el, fa, fn, fc⟩ (z.setCell ⟨p, o + 1, none⟩ (.int .i64 ((next : Int) + 1)))) := by
            have := HLD.out.setNext (next + 1)
            refine ⟨_, this, ((Same3.refl o cur).set o (by omega) _).set (o + 1) (by omega) _, below_grown HW0.out.2 (grown_two2 HGR.out (set_grown z p (o + 1) _))⟩
          clear HLD HGR HO7 HL7 hz
          go_wp2_with fail
          refine ⟨⟨j + 1, by go_num, by omega, fun h => by omega, fun _ => HF.out⟩, ?_⟩
          simp [intOf]; omega
        exact AllReadyH.nil
      refine AllReadyH.cons rfl (fun K hK => ?_) ?_
      · skip
        have hcp : World.cell? x ⟨p, o, none⟩ = some (.slice A0 ks.length c0) := HPO.out _ HB_x.out
        go_simp
        clear hcp
        refine hK.out _ _ ?_ (fun hHeld => ?_)
        · exact HS.out _ HB_x.out
        clear hK K
        go_simp
        refine wpAnyH_ready (rs := [1, 11]) (by kernel_rfl) (by simp) ?_
        refine AllReadyH.cons rfl (fun K hK => ?_) ?_
        · skip
          go_simp
          have hb := (HB_x.out).alloc HB_x.out.size (.cells #[] 75)
          have he : (World.alloc x (.cells #[] 75)).ownsRow w0.heap.size 75 4 (.slice (some ⟨(World.heap x).size, 0, none⟩) 0 0) 0 [] := own_new x #[] _ 4 0 (World.heap x).size w0.heap.size rfl rfl (by unfold maxLen; omega) HB_x.out.size
          obtain ⟨g1, hg1⟩ : ∃ z, (World.heap x).size = z := ⟨_, rfl⟩
          obtain ⟨xe, hxe⟩ : ∃ z, World.alloc x (.cells #[] 75) = z := ⟨_, rfl⟩
          rw [hxe] at hb he
          rw [hg1] at he
          have HL1 : Hid (g1 < (World.heap xe).size) := by rw [← hg1, ← hxe]; show _ < _; simp
          have HB_xe := Lib.hid hb
          have HE_xe := Lib.hid he
          clear hb he
          first | rw [hg1, hxe] | rw [hxe, hg1] | rw [hxe] | skip
          clear hxe hg1
          refine hK.out _ _ ?_ (fun hHeld => ?_)
          · exact HS.out _ HB_xe.out
          clear hK K
          go_simp
          refine wpAnyH_ready (rs := [6, 11]) (by kernel_rfl) (by simp) ?_
          refine AllReadyH.cons rfl (fun K hK => ?_) ?_
          · skip
            refine step_own rfl (.tmp 30) (.tmp 34) 35 rfl w0.heap.size 75 i0 (.agg #[.int .i64 0, .int .i64 0, .bool false, .slice none 0 0]) 4 48 Tryz.underlying35 HI.out.1 HI.out.2.1 HI.out.2.2.1 HI.out.2.2.2 rfl (by decide) (.slice (some ⟨g1, 0, none⟩) 0 0) 0 [] (by simp [Act.eval, Act.put]) HE_xe.out w0.heap.size A0 ks.length c0 (pks ks) (by simp [Act.eval, Act.put]) (HRD.out.below HB_xe.out (Nat.le_refl _)) (ones_pks _) (by unfold maxLen; omega) (by omega) HB_xe.out.size ?_
            intro v6 xer ho6 hg6
            rw [Nat.zero_add] at ho6
            obtain ⟨A6, c6, e6, _⟩ := own_form ho6
            subst e6
            have HB_xer : Hid (Below w0.heap.size w0 xer) := HB_xe.out.grown hg6 HB_xe.out.size (fun g hg => (HE_xe.out.lt g hg).1)
            have hr6 : World.ownsRow xer w0.heap.size 75 4 (.slice A6 ks.length c6) ks.length (pks ks) := by simpa using ho6
            have HR_xer := Lib.hid hr6
            clear hr6
            clear ho6 hg6
            refine hK.out _ _ ?_ (fun hHeld => ?_)
            · exact HS.out _ HB_xer.out
            clear hK K
            go_simp
            refine wpAnyH_ready (rs := [11]) (by kernel_rfl) (by simp) ?_
            refine AllReadyH.cons rfl (fun K hK => ?_) AllReadyH.nil
            go_simp
            have hb := (HB_xer.out).alloc HB_xer.out.size (.cells #[.int .i64 (next : Int), .int .i64 at', .bool el, .slice fa fn fc] 75)
            have hp := heap_alloc_new xer (.cells #[.int .i64 (next : Int), .int .i64 at', .bool el, .slice fa fn fc] 75)
            have hr := HR_xer.out.alloc (.cells #[.int .i64 (next : Int), .int .i64 at', .bool el, .slice fa fn fc] 75)
            obtain ⟨g2, hg2⟩ : ∃ z, (World.heap xer).size = z := ⟨_, rfl⟩
            obtain ⟨xerp, hxerp⟩ : ∃ z, World.alloc xer (.cells #[.int .i64 (next : Int), .int .i64 at', .bool el, .slice fa fn fc] 75) = z := ⟨_, rfl⟩
            rw [hxerp] at hb hp
            rw [hg2] at hp
            rw [hxerp] at hr
            have HR_xerp := Lib.hid hr
            clear hr
            have HB_xerp := Lib.hid hb
            have HP_xerp := Lib.hid hp
            clear hb hp
            first | rw [hg2, hxerp] | rw [hxerp, hg2] | rw [hxerp] | skip
            clear hxerp hg2
            refine hK.out _ _ ?_ (fun hHeld => ?_)
            · exact HS.out _ HB_xerp.out
            clear hK K
            go_simp
            refine wpAnyH_ready (rs := [12]) (by kernel_rfl) (by simp) ?_
            refine AllReadyH.cons rfl (fun K hK => ?_) AllReadyH.nil
            refine step_own rfl (.tmp 35) (.tmp 40) 35 rfl w0.heap.size 75 i0 (.agg #[.int .i64 0, .int .i64 0, .bool false, .slice none 0 0]) 4 48 Tryz.underlying35 HI.out.1 HI.out.2.1 HI.out.2.2.1 HI.out.2.2.2 rfl (by decide) (.slice A6 ks.length c6) ks.length (pks ks) (by simp [Act.eval, Act.put]) HR_xerp.out (World.heap xerp).size (some ⟨g2, 0, none⟩) 1 1 (pks [⟨next, at', el, fa, fn, fc⟩]) (by simp [Act.eval, Act.put]) (rd_one HP_xerp.out) (ones_pks _) (by unfold maxLen; omega) (by omega) HB_xerp.out.size ?_
            intro v7 y ho7 hg7
            rw [← pks_app] at ho7
            obtain ⟨A7, c7, e7, hl7, _⟩ := own_form ho7
            subst e7
            have HB_y : Hid (Below w0.heap.size w0 y) := HB_xerp.out.grown hg7 HB_xerp.out.size (fun g hg => (HR_xerp.out.lt g hg).1)
            have HO7 := Lib.hid ho7
            have HL7 := Lib.hid hl7
            have hfy : World.frozen? y ⟨p, o, none⟩ = false := HFZ.out _ HB_y.out
            have hcy : World.cell? y ⟨p, o, none⟩ = some (.slice A0 ks.length c0) := HPO.out _ HB_y.out
            clear ho7 hg7 hl7
            refine hK.out _ _ ?_ (fun hHeld => ?_)
            · exact HS.out _ HB_y.out
            clear hK K
            go_simp
            refine wpAnyH_take (i := 13) (v := ?_) rfl (by kernel_rfl) (by kernel_rfl) (by kernel_rfl) (fun _ _ _ h => h) (Or.inl ⟨by rfl, ?_⟩) (by assumption) ?_
            rotate_left
            · intro w hSw; (try dsimp only at hSw); go_simp; try with_reducible rfl
            go_simp
            refine wpAnyH_take (i := 14) (v := ?_) rfl (by kernel_rfl) (by kernel_rfl) (by kernel_rfl) (fun _ _ _ h => h) (Or.inl ⟨by rfl, ?_⟩) (by assumption) ?_
            rotate_left
            · intro w hSw; (try dsimp only at hSw); go_simp; try with_reducible rfl
            go_simp
            refine wpAnyH_ready (rs := [15]) (by kernel_rfl) (by simp) ?_
            refine AllReadyH.cons rfl (fun K hK => ?_) AllReadyH.nil
            go_simp
            refine hK.out _ _ ?_ (fun hHeld => ?_)
            · exact HSET.out _ HB_y.out _
            clear hK K
            go_simp
            refine wpAnyH_done (by kernel_rfl) ?_ _
            have HLD : Hid (RLed (y.setCell ⟨p, o, none⟩ (.slice A7 (ks.length + 1) c7)) lo p o T (cur.setIfInBounds o (.slice A7 (ks.length + 1) c7)) (ks ++ [⟨next, at', el, fa, fn, fc⟩]) next acked) := by
              have hl : (ks ++ [(⟨next, at', el, fa, fn, fc⟩ : Pk)]).length = ks.length + 1 := by simp
              have := (H0.out.keep HB_y.out).setRow (ks' := ks ++ [⟨next, at', el, fa, fn, fc⟩]) (A := A7) (c := c7) (by rw [hl]; exact own_base HO7.out HLO.out) (by rw [hl]; exact HL7.out) HOC.out
              rwa [hl] at this
            have HGR : Hid (w0.grownBy (y.setCell ⟨p, o, none⟩ (.slice A7 (ks.length + 1) c7)) (some p)) := below_grown HB_y.out (set_grown y p o _)
            obtain ⟨z, hz⟩ : ∃ z, y.setCell ⟨p, o, none⟩ (.slice A7 (ks.length + 1) c7) = z := ⟨_, rfl⟩
            rw [hz] at HLD HGR ⊢
            have hcz := HLD.out.cell.1
            have hfz2 := HLD.out.cell.2.2 (o + 1)
            have HF : Hid (RPutP w lo p o T cur ks next acked ⟨next, at', el, fa, fn, fc⟩ (z.setCell ⟨p, o + 1, none⟩ (.int .i64 ((next : Int) + 1)))) := by
              have := HLD.out.setNext (next + 1)
              refine ⟨_, this, ((Same3.refl o cur).set o (by omega) _).set (o + 1) (by omega) _, below_grown HW0.out.2 (grown_two2 HGR.out (set_grown z p (o + 1) _))⟩
            clear HLD HGR HO7 HL7 hz
            go_wp2_with fail
            refine ⟨⟨j + 1, by go_num, by omega, fun h => by omega, fun _ => HF.out⟩, ?_⟩
            simp [intOf]; omega
          refine AllReadyH.cons rfl (fun K hK => ?_) ?_
          · skip
            go_simp
            have hb := (HB_xe.out).alloc HB_xe.out.size (.cells #[.int .i64 (next : Int), .int .i64 at', .bool el, .slice fa fn fc] 75)
            have hp := heap_alloc_new xe (.cells #[.int .i64 (next : Int), .int .i64 at', .bool el, .slice fa fn fc] 75)
            have he := HE_xe.out.alloc (.cells #[.int .i64 (next : Int), .int .i64 at', .bool el, .slice fa fn fc] 75)
            have HG : Hid ((World.heap xe).size ≠ g1) := by have := HL1.out; show _ ≠ _; omega
            obtain ⟨g2, hg2⟩ : ∃ z, (World.heap xe).size = z := ⟨_, rfl⟩
            obtain ⟨xep, hxep⟩ : ∃ z, World.alloc xe (.cells #[.int .i64 (next : Int), .int .i64 at', .bool el, .slice fa fn fc] 75) = z := ⟨_, rfl⟩
            rw [hxep] at hb hp
            rw [hg2] at hp
            rw [hxep] at he
            rw [hg2] at HG
            have HE_xep := Lib.hid he
            clear he
            have HB_xep := Lib.hid hb
            have HP_xep := Lib.hid hp
            clear hb hp
            first | rw [hg2, hxep] | rw [hxep, hg2] | rw [hxep] | skip
            clear hxep hg2
            refine hK.out _ _ ?_ (fun hHeld => ?_)
            · exact HS.out _ HB_xep.out
            clear hK K
            go_simp
            refine wpAnyH_ready (rs := [6]) (by kernel_rfl) (by simp) ?_
            refine AllReadyH.cons rfl (fun K hK => ?_) AllReadyH.nil
            refine step_own rfl (.tmp 30) (.tmp 34) 35 rfl w0.heap.size 75 i0 (.agg #[.int .i64 0, .int .i64 0, .bool false, .slice none 0 0]) 4 48 Tryz.underlying35 HI.out.1 HI.out.2.1 HI.out.2.2.1 HI.out.2.2.2 rfl (by decide) (.slice (some ⟨g1, 0, none⟩) 0 0) 0 [] (by simp [Act.eval, Act.put]) HE_xep.out w0.heap.size A0 ks.length c0 (pks ks) (by simp [Act.eval, Act.put]) (HRD.out.below HB_xep.out (Nat.le_refl _)) (ones_pks _) (by unfold maxLen; omega) (by omega) HB_xep.out.size ?_
            intro v6 xepr ho6 hg6
            rw [Nat.zero_add] at ho6
            obtain ⟨A6, c6, e6, _⟩ := own_form ho6
            subst e6
            have HB_xepr : Hid (Below w0.heap.size w0 xepr) := HB_xep.out.grown hg6 HB_xep.out.size (fun g hg => (HE_xep.out.lt g hg).1)
            have hr6 : World.ownsRow xepr w0.heap.size 75 4 (.slice A6 ks.length c6) ks.length (pks ks) := by simpa using ho6
            have HR_xepr := Lib.hid hr6
            clear hr6
            have HP_xepr : Hid ((World.heap xepr)[g2]? = some (.cells #[.int .i64 (next : Int), .int .i64 at', .bool el, .slice fa fn fc] 75 (0, 0))) := (hg6.block g2 (lt_of_block HP_xep.out) (by simpa [Value.ownBlock] using HG.out)).trans HP_xep.out
            clear ho6 hg6
            refine hK.out _ _ ?_ (fun hHeld => ?_)
            · exact HS.out _ HB_xepr.out
            clear hK K
            go_simp
            refine wpAnyH_ready (rs := [12]) (by kernel_rfl) (by simp) ?_
            refine AllReadyH.cons rfl (fun K hK => ?_) AllReadyH.nil
            refine step_own rfl (.tmp 35) (.tmp 40) 35 rfl w0.heap.size 75 i0 (.agg #[.int .i64 0, .int .i64 0, .bool false, .slice none 0 0]) 4 48 Tryz.underlying35 HI.out.1 HI.out.2.1 HI.out.2.2.1 HI.out.2.2.2 rfl (by decide) (.slice A6 ks.length c6) ks.length (pks ks) (by simp [Act.eval, Act.put]) HR_xepr.out (World.heap xepr).size (some ⟨g2, 0, none⟩) 1 1 (pks [⟨next, at', el, fa, fn, fc⟩]) (by simp [Act.eval, Act.put]) (rd_one HP_xepr.out) (ones_pks _) (by unfold maxLen; omega) (by omega) HB_xepr.out.size ?_
            intro v7 y ho7 hg7
            rw [← pks_app] at ho7
            obtain ⟨A7, c7, e7, hl7, _⟩ := own_form ho7
            subst e7
            have HB_y : Hid (Below w0.heap.size w0 y) := HB_xepr.out.grown hg7 HB_xepr.out.size (fun g hg => (HR_xepr.out.lt g hg).1)
            have HO7 := Lib.hid ho7
            have HL7 := Lib.hid hl7
            have hfy : World.frozen? y ⟨p, o, none⟩ = false := HFZ.out _ HB_y.out
            have hcy : World.cell? y ⟨p, o, none⟩ = some (.slice A0 ks.length c0) := HPO.out _ HB_y.out
            clear ho7 hg7 hl7
            refine hK.out _ _ ?_ (fun hHeld => ?_)
            · exact HS.out _ HB_y.out
            clear hK K
            go_simp
            refine wpAnyH_take (i := 13) (v := ?_) rfl (by kernel_rfl) (by kernel_rfl) (by kernel_rfl) (fun _ _ _ h => h) (Or.inl ⟨by rfl, ?_⟩) (by assumption) ?_
            rotate_left
            · intro w hSw; (try dsimp only at hSw); go_simp; try with_reducible rfl
            go_simp
            refine wpAnyH_take (i := 14) (v := ?_) rfl (by kernel_rfl) (by kernel_rfl) (by kernel_rfl) (fun _ _ _ h => h) (Or.inl ⟨by rfl, ?_⟩) (by assumption) ?_
            rotate_left
            · intro w hSw; (try dsimp only at hSw); go_simp; try with_reducible rfl
            go_simp
            refine wpAnyH_ready (rs := [15]) (by kernel_rfl) (by simp) ?_
            refine AllReadyH.cons rfl (fun K hK => ?_) AllReadyH.nil
            go_simp
            refine hK.out _ _ ?_ (fun hHeld => ?_)
            · exact HSET.out _ HB_y.out _
            clear hK K
            go_simp
            refine wpAnyH_done (by kernel_rfl) ?_ _
            have HLD : Hid (RLed (y.setCell ⟨p, o, none⟩ (.slice A7 (ks.length + 1) c7)) lo p o T (cur.setIfInBounds o (.slice A7 (ks.length + 1) c7)) (ks ++ [⟨next, at', el, fa, fn, fc⟩]) next acked) := by
              have hl : (ks ++ [(⟨next, at', el, fa, fn, fc⟩ : Pk)]).length = ks.length + 1 := by simp
              have := (H0.out.keep HB_y.out).setRow (ks' := ks ++ [⟨next, at', el, fa, fn, fc⟩]) (A := A7) (c := c7) (by rw [hl]; exact own_base HO7.out HLO.out) (by rw [hl]; exact HL7.out) HOC.out
              rwa [hl] at this
            have HGR : Hid (w0.grownBy (y.setCell ⟨p, o, none⟩ (.slice A7 (ks.length + 1) c7)) (some p)) := below_grown HB_y.out (set_grown y p o _)
            obtain ⟨z, hz⟩ : ∃ z, y.setCell ⟨p, o, none⟩ (.slice A7 (ks.length + 1) c7) = z := ⟨_, rfl⟩
            rw [hz] at HLD HGR ⊢
            have hcz := HLD.out.cell.1
            have hfz2 := HLD.out.cell.2.2 (o + 1)
            have HF : Hid (RPutP w lo p o T cur ks next acked ⟨next, at', el, fa, fn, fc⟩ (z.setCell ⟨p, o + 1, none⟩ (.int .i64 ((next : Int) + 1)))) := by
              have := HLD.out.setNext (next + 1)
              refine ⟨_, this, ((Same3.refl o cur).set o (by omega) _).set (o + 1) (by omega) _, below_grown HW0.out.2 (grown_two2 HGR.out (set_grown z p (o + 1) _))⟩
            clear HLD HGR HO7 HL7 hz
            go_wp2_with fail
            refine ⟨⟨j + 1, by go_num, by omega, fun h => by omega, fun _ => HF.out⟩, ?_⟩
            simp [intOf]; omega
          exact AllReadyH.nil
        refine AllReadyH.cons rfl (fun K hK => ?_) ?_
        · skip
          go_simp
          have hb := (HB_x.out).alloc HB_x.out.size (.cells #[.int .i64 (next : Int), .int .i64 at', .bool el, .slice fa fn fc] 75)
          have hp := heap_alloc_new x (.cells #[.int .i64 (next : Int), .int .i64 at', .bool el, .slice fa fn fc] 75)
          obtain ⟨g2, hg2⟩ : ∃ z, (World.heap x).size = z := ⟨_, rfl⟩
          obtain ⟨xp, hxp⟩ : ∃ z, World.alloc x (.cells #[.int .i64 (next : Int), .int .i64 at', .bool el, .slice fa fn fc] 75) = z := ⟨_, rfl⟩
          rw [hxp] at hb hp
          rw [hg2] at hp
          have HB_xp := Lib.hid hb
          have HP_xp := Lib.hid hp
          clear hb hp
          first | rw [hg2, hxp] | rw [hxp, hg2] | rw [hxp] | skip
          clear hxp hg2
          refine hK.out _ _ ?_ (fun hHeld => ?_)
          · exact HS.out _ HB_xp.out
          clear hK K
          go_simp
          refine wpAnyH_ready (rs := [1]) (by kernel_rfl) (by simp) ?_
          refine AllReadyH.cons rfl (fun K hK => ?_) AllReadyH.nil
          go_simp
          have hb := (HB_xp.out).alloc HB_xp.out.size (.cells #[] 75)
          have he : (World.alloc xp (.cells #[] 75)).ownsRow w0.heap.size 75 4 (.slice (some ⟨(World.heap xp).size, 0, none⟩) 0 0) 0 [] := own_new xp #[] _ 4 0 (World.heap xp).size w0.heap.size rfl rfl (by unfold maxLen; omega) HB_xp.out.size
          have hp := ((Below.refl (World.heap xp).size xp).alloc (Nat.le_refl _) (.cells #[] 75)).block g2 (lt_of_block HP_xp.out) |>.trans HP_xp.out
          have HG : Hid (g2 ≠ (World.heap xp).size) := by have := lt_of_block HP_xp.out; show _ ≠ _; omega
          obtain ⟨g1, hg1⟩ : ∃ z, (World.heap xp).size = z := ⟨_, rfl⟩
          obtain ⟨xpe, hxpe⟩ : ∃ z, World.alloc xp (.cells #[] 75) = z := ⟨_, rfl⟩
          rw [hxpe] at hb he
          rw [hg1] at he
          rw [hxpe] at hp
          rw [hg1] at HG
          have HP_xpe := Lib.hid hp
          clear hp
          have HB_xpe := Lib.hid hb
          have HE_xpe := Lib.hid he
          clear hb he
          first | rw [hg1, hxpe] | rw [hxpe, hg1] | rw [hxpe] | skip
          clear hxpe hg1
          refine hK.out _ _ ?_ (fun hHeld => ?_)
          · exact HS.out _ HB_xpe.out
          clear hK K
          go_simp
          refine wpAnyH_ready (rs := [6]) (by kernel_rfl) (by simp) ?_
          refine AllReadyH.cons rfl (fun K hK => ?_) AllReadyH.nil
          refine step_own rfl (.tmp 30) (.tmp 34) 35 rfl w0.heap.size 75 i0 (.agg #[.int .i64 0, .int .i64 0, .bool false, .slice none 0 0]) 4 48 Tryz.underlying35 HI.out.1 HI.out.2.1 HI.out.2.2.1 HI.out.2.2.2 rfl (by decide) (.slice (some ⟨g1, 0, none⟩) 0 0) 0 [] (by simp [Act.eval, Act.put]) HE_xpe.out w0.heap.size A0 ks.length c0 (pks ks) (by simp [Act.eval, Act.put]) (HRD.out.below HB_xpe.out (Nat.le_refl _)) (ones_pks _) (by unfold maxLen; omega) (by omega) HB_xpe.out.size ?_
          intro v6 xper ho6 hg6
          rw [Nat.zero_add] at ho6
          obtain ⟨A6, c6, e6, _⟩ := own_form ho6
          subst e6
          have HB_xper : Hid (Below w0.heap.size w0 xper) := HB_xpe.out.grown hg6 HB_xpe.out.size (fun g hg => (HE_xpe.out.lt g hg).1)
          have hr6 : World.ownsRow xper w0.heap.size 75 4 (.slice A6 ks.length c6) ks.length (pks ks) := by simpa using ho6
          have HR_xper := Lib.hid hr6
          clear hr6
          have HP_xper : Hid ((World.heap xper)[g2]? = some (.cells #[.int .i64 (next : Int), .int .i64 at', .bool el, .slice fa fn fc] 75 (0, 0))) := (hg6.block g2 (lt_of_block HP_xpe.out) (by simpa [Value.ownBlock] using HG.out)).trans HP_xpe.out
          clear ho6 hg6
          refine hK.out _ _ ?_ (fun hHeld => ?_)
          · exact HS.out _ HB_xper.out
          clear hK K
          go_simp
          refine wpAnyH_ready (rs := [12]) (by kernel_rfl) (by simp) ?_
          refine AllReadyH.cons rfl (fun K hK => ?_) AllReadyH.nil
          refine step_own rfl (.tmp 35) (.tmp 40) 35 rfl w0.heap.size 75 i0 (.agg #[.int .i64 0, .int .i64 0, .bool false, .slice none 0 0]) 4 48 Tryz.underlying35 HI.out.1 HI.out.2.1 HI.out.2.2.1 HI.out.2.2.2 rfl (by decide) (.slice A6 ks.length c6) ks.length (pks ks) (by simp [Act.eval, Act.put]) HR_xper.out (World.heap xper).size (some ⟨g2, 0, none⟩) 1 1 (pks [⟨next, at', el, fa, fn, fc⟩]) (by simp [Act.eval, Act.put]) (rd_one HP_xper.out) (ones_pks _) (by unfold maxLen; omega) (by omega) HB_xper.out.size ?_
          intro v7 y ho7 hg7
          rw [← pks_app] at ho7
          obtain ⟨A7, c7, e7, hl7, _⟩ := own_form ho7
          subst e7
          have HB_y : Hid (Below w0.heap.size w0 y) := HB_xper.out.grown hg7 HB_xper.out.size (fun g hg => (HR_xper.out.lt g hg).1)
          have HO7 := Lib.hid ho7
          have HL7 := Lib.hid hl7
          have hfy : World.frozen? y ⟨p, o, none⟩ = false := HFZ.out _ HB_y.out
          have hcy : World.cell? y ⟨p, o, none⟩ = some (.slice A0 ks.length c0) := HPO.out _ HB_y.out
          clear ho7 hg7 hl7
          refine hK.out _ _ ?_ (fun hHeld => ?_)
          · exact HS.out _ HB_y.out
          clear hK K
          go_simp
          refine wpAnyH_take (i := 13) (v := ?_) rfl (by kernel_rfl) (by kernel_rfl) (by kernel_rfl) (fun _ _ _ h => h) (Or.inl ⟨by rfl, ?_⟩) (by assumption) ?_
          rotate_left
          · intro w hSw; (try dsimp only at hSw); go_simp; try with_reducible rfl
          go_simp
          refine wpAnyH_take (i := 14) (v := ?_) rfl (by kernel_rfl) (by kernel_rfl) (by kernel_rfl) (fun _ _ _ h => h) (Or.inl ⟨by rfl, ?_⟩) (by assumption) ?_
          rotate_left
          · intro w hSw; (try dsimp only at hSw); go_simp; try with_reducible rfl
          go_simp
          refine wpAnyH_ready (rs := [15]) (by kernel_rfl) (by simp) ?_
          refine AllReadyH.cons rfl (fun K hK => ?_) AllReadyH.nil
          go_simp
          refine hK.out _ _ ?_ (fun hHeld => ?_)
          · exact HSET.out _ HB_y.out _
          clear hK K
          go_simp
          refine wpAnyH_done (by kernel_rfl) ?_ _
          have HLD : Hid (RLed (y.setCell ⟨p, o, none⟩ (.slice A7 (ks.length + 1) c7)) lo p o T (cur.setIfInBounds o (.slice A7 (ks.length + 1) c7)) (ks ++ [⟨next, at', el, fa, fn, fc⟩]) next acked) := by
            have hl : (ks ++ [(⟨next, at', el, fa, fn, fc⟩ : Pk)]).length = ks.length + 1 := by simp
            have := (H0.out.keep HB_y.out).setRow (ks' := ks ++ [⟨next, at', el, fa, fn, fc⟩]) (A := A7) (c := c7) (by rw [hl]; exact own_base HO7.out HLO.out) (by rw [hl]; exact HL7.out) HOC.out
            rwa [hl] at this
          have HGR : Hid (w0.grownBy (y.setCell ⟨p, o, none⟩ (.slice A7 (ks.length + 1) c7)) (some p)) := below_grown HB_y.out (set_grown y p o _)
          obtain ⟨z, hz⟩ : ∃ z, y.setCell ⟨p, o, none⟩ (.slice A7 (ks.length + 1) c7) = z := ⟨_, rfl⟩
          rw [hz] at HLD HGR ⊢
          have hcz := HLD.out.cell.1
          have hfz2 := HLD.out.cell.2.2 (o + 1)
          have HF : Hid (RPutP w lo p o T cur ks next acked ⟨next, at', el, fa, fn, fc⟩ (z.setCell ⟨p, o + 1, none⟩ (.int .i64 ((next : Int) + 1)))) := by
            have := HLD.out.setNext (next + 1)
            refine ⟨_, this, ((Same3.refl o cur).set o (by omega) _).set (o + 1) (by omega) _, below_grown HW0.out.2 (grown_two2 HGR.out (set_grown z p (o + 1) _))⟩
          clear HLD HGR HO7 HL7 hz
          go_wp2_with fail
          refine ⟨⟨j + 1, by go_num, by omega, fun h => by omega, fun _ => HF.out⟩, ?_⟩
          simp [intOf]; omega
        exact AllReadyH.nil
      refine AllReadyH.cons rfl (fun K hK => ?_) ?_
      · skip
        go_simp
        have hb := (HB_x.out).alloc HB_x.out.size (.cells #[.int .i64 (next : Int), .int .i64 at', .bool el, .slice fa fn fc] 75)
        have hp := heap_alloc_new x (.cells #[.int .i64 (next : Int), .int .i64 at', .bool el, .slice fa fn fc] 75)
        obtain ⟨g2, hg2⟩ : ∃ z, (World.heap x).size = z := ⟨_, rfl⟩
        obtain ⟨xp, hxp⟩ : ∃ z, World.alloc x (.cells #[.int .i64 (next : Int), .int .i64 at', .bool el, .slice fa fn fc] 75) = z := ⟨_, rfl⟩
        rw [hxp] at hb hp
        rw [hg2] at hp
        have HB_xp := Lib.hid hb
        have HP_xp := Lib.hid hp
        clear hb hp
        first | rw [hg2, hxp] | rw [hxp, hg2] | rw [hxp] | skip
        clear hxp hg2
        refine hK.out _ _ ?_ (fun hHeld => ?_)
        · exact HS.out _ HB_xp.out
        clear hK K
        go_simp
        refine wpAnyH_ready (rs := [1, 5]) (by kernel_rfl) (by simp) ?_
        refine AllReadyH.cons rfl (fun K hK => ?_) ?_
        · skip
          go_simp
          have hb := (HB_xp.out).alloc HB_xp.out.size (.cells #[] 75)
          have he : (World.alloc xp (.cells #[] 75)).ownsRow w0.heap.size 75 4 (.slice (some ⟨(World.heap xp).size, 0, none⟩) 0 0) 0 [] := own_new xp #[] _ 4 0 (World.heap xp).size w0.heap.size rfl rfl (by unfold maxLen; omega) HB_xp.out.size
          have hp := ((Below.refl (World.heap xp).size xp).alloc (Nat.le_refl _) (.cells #[] 75)).block g2 (lt_of_block HP_xp.out) |>.trans HP_xp.out
          have HG : Hid (g2 ≠ (World.heap xp).size) := by have := lt_of_block HP_xp.out; show _ ≠ _; omega
          obtain ⟨g1, hg1⟩ : ∃ z, (World.heap xp).size = z := ⟨_, rfl⟩
          obtain ⟨xpe, hxpe⟩ : ∃ z, World.alloc xp (.cells #[] 75) = z := ⟨_, rfl⟩
          rw [hxpe] at hb he
          rw [hg1] at he
          rw [hxpe] at hp
          rw [hg1] at HG
          have HP_xpe := Lib.hid hp
          clear hp
          have HB_xpe := Lib.hid hb
          have HE_xpe := Lib.hid he
          clear hb he
          first | rw [hg1, hxpe] | rw [hxpe, hg1] | rw [hxpe] | skip
          clear hxpe hg1
          refine hK.out _ _ ?_ (fun hHeld => ?_)
          · exact HS.out _ HB_xpe.out
          clear hK K
          go_simp
          refine wpAnyH_ready (rs := [5]) (by kernel_rfl) (by simp) ?_
          refine AllReadyH.cons rfl (fun K hK => ?_) AllReadyH.nil
          have hcp : World.cell? xpe ⟨p, o, none⟩ = some (.slice A0 ks.length c0) := HPO.out _ HB_xpe.out
          go_simp
          clear hcp
          refine hK.out _ _ ?_ (fun hHeld => ?_)
          · exact HS.out _ HB_xpe.out
          clear hK K
          go_simp
          refine wpAnyH_ready (rs := [6]) (by kernel_rfl) (by simp) ?_
          refine AllReadyH.cons rfl (fun K hK => ?_) AllReadyH.nil
          refine step_own rfl (.tmp 30) (.tmp 34) 35 rfl w0.heap.size 75 i0 (.agg #[.int .i64 0, .int .i64 0, .bool false, .slice none 0 0]) 4 48 Tryz.underlying35 HI.out.1 HI.out.2.1 HI.out.2.2.1 HI.out.2.2.2 rfl (by decide) (.slice (some ⟨g1, 0, none⟩) 0 0) 0 [] (by simp [Act.eval, Act.put]) HE_xpe.out w0.heap.size A0 ks.length c0 (pks ks) (by simp [Act.eval, Act.put]) (HRD.out.below HB_xpe.out (Nat.le_refl _)) (ones_pks _) (by unfold maxLen; omega) (by omega) HB_xpe.out.size ?_
          intro v6 xper ho6 hg6
          rw [Nat.zero_add] at ho6
          obtain ⟨A6, c6, e6, _⟩ := own_form ho6
          subst e6
          have HB_xper : Hid (Below w0.heap.size w0 xper) := HB_xpe.out.grown hg6 HB_xpe.out.size (fun g hg => (HE_xpe.out.lt g hg).1)
          have hr6 : World.ownsRow xper w0.heap.size 75 4 (.slice A6 ks.length c6) ks.length (pks ks) := by simpa using ho6
          have HR_xper := Lib.hid hr6
          clear hr6
          have HP_xper : Hid ((World.heap xper)[g2]? = some (.cells #[.int .i64 (next : Int), .int .i64 at', .bool el, .slice fa fn fc] 75 (0, 0))) := (hg6.block g2 (lt_of_block HP_xpe.out) (by simpa [Value.ownBlock] using HG.out)).trans HP_xpe.out
          clear ho6 hg6
          refine hK.out _ _ ?_ (fun hHeld => ?_)
          · exact HS.out _ HB_xper.out
          clear hK K
          go_simp
          refine wpAnyH_ready (rs := [12]) (by kernel_rfl) (by simp) ?_
          refine AllReadyH.cons rfl (fun K hK => ?_) AllReadyH.nil
          refine step_own rfl (.tmp 35) (.tmp 40) 35 rfl w0.heap.size 75 i0 (.agg #[.int .i64 0, .int .i64 0, .bool false, .slice none 0 0]) 4 48 Tryz.underlying35 HI.out.1 HI.out.2.1 HI.out.2.2.1 HI.out.2.2.2 rfl (by decide) (.slice A6 ks.length c6) ks.length (pks ks) (by simp [Act.eval, Act.put]) HR_xper.out (World.heap xper).size (some ⟨g2, 0, none⟩) 1 1 (pks [⟨next, at', el, fa, fn, fc⟩]) (by simp [Act.eval, Act.put]) (rd_one HP_xper.out) (ones_pks _) (by unfold maxLen; omega) (by omega) HB_xper.out.size ?_
          intro v7 y ho7 hg7
          rw [← pks_app] at ho7
          obtain ⟨A7, c7, e7, hl7, _⟩ := own_form ho7
          subst e7
          have HB_y : Hid (Below w0.heap.size w0 y) := HB_xper.out.grown hg7 HB_xper.out.size (fun g hg => (HR_xper.out.lt g hg).1)
          have HO7 := Lib.hid ho7
          have HL7 := Lib.hid hl7
          have hfy : World.frozen? y ⟨p, o, none⟩ = false := HFZ.out _ HB_y.out
          have hcy : World.cell? y ⟨p, o, none⟩ = some (.slice A0 ks.length c0) := HPO.out _ HB_y.out
          clear ho7 hg7 hl7
          refine hK.out _ _ ?_ (fun hHeld => ?_)
          · exact HS.out _ HB_y.out
          clear hK K
          go_simp
          refine wpAnyH_take (i := 13) (v := ?_) rfl (by kernel_rfl) (by kernel_rfl) (by kernel_rfl) (fun _ _ _ h => h) (Or.inl ⟨by rfl, ?_⟩) (by assumption) ?_
          rotate_left
          · intro w hSw; (try dsimp only at hSw); go_simp; try with_reducible rfl
          go_simp
          refine wpAnyH_take (i := 14) (v := ?_) rfl (by kernel_rfl) (by kernel_rfl) (by kernel_rfl) (fun _ _ _ h => h) (Or.inl ⟨by rfl, ?_⟩) (by assumption) ?_
          rotate_left
          · intro w hSw; (try dsimp only at hSw); go_simp; try with_reducible rfl
          go_simp
          refine wpAnyH_ready (rs := [15]) (by kernel_rfl) (by simp) ?_
          refine AllReadyH.cons rfl (fun K hK => ?_) AllReadyH.nil
          go_simp
          refine hK.out _ _ ?_ (fun hHeld => ?_)
          · exact HSET.out _ HB_y.out _
          clear hK K
          go_simp
          refine wpAnyH_done (by kernel_rfl) ?_ _
          have HLD : Hid (RLed (y.setCell ⟨p, o, none⟩ (.slice A7 (ks.length + 1) c7)) lo p o T (cur.setIfInBounds o (.slice A7 (ks.length + 1) c7)) (ks ++ [⟨next, at', el, fa, fn, fc⟩]) next acked) := by
            have hl : (ks ++ [(⟨next, at', el, fa, fn, fc⟩ : Pk)]).length = ks.length + 1 := by simp
            have := (H0.out.keep HB_y.out).setRow (ks' := ks ++ [⟨next, at', el, fa, fn, fc⟩]) (A := A7) (c := c7) (by rw [hl]; exact own_base HO7.out HLO.out) (by rw [hl]; exact HL7.out) HOC.out
            rwa [hl] at this
          have HGR : Hid (w0.grownBy (y.setCell ⟨p, o, none⟩ (.slice A7 (ks.length + 1) c7)) (some p)) := below_grown HB_y.out (set_grown y p o _)
          obtain ⟨z, hz⟩ : ∃ z, y.setCell ⟨p, o, none⟩ (.slice A7 (ks.length + 1) c7) = z := ⟨_, rfl⟩
          rw [hz] at HLD HGR ⊢
          have hcz := HLD.out.cell.1
          have hfz2 := HLD.out.cell.2.2 (o + 1)
          have HF : Hid (RPutP w lo p o T cur ks next acked ⟨next, at', el, fa, fn, fc⟩ (z.setCell ⟨p, o + 1, none⟩ (.int .i64 ((next : Int) + 1)))) := by
            have := HLD.out.setNext (next + 1)
            refine ⟨_, this, ((Same3.refl o cur).set o (by omega) _).set (o + 1) (by omega) _, below_grown HW0.out.2 (grown_two2 HGR.out (set_grown z p (o + 1) _))⟩
          clear HLD HGR HO7 HL7 hz
          go_wp2_with fail
          refine ⟨⟨j + 1, by go_num, by omega, fun h => by omega, fun _ => HF.out⟩, ?_⟩
          simp [intOf]; omega
        refine AllReadyH.cons rfl (fun K hK => ?_) ?_
        · skip
          have hcp : World.cell? xp ⟨p, o, none⟩ = some (.slice A0 ks.length c0) := HPO.out _ HB_xp.out
          go_simp
          clear hcp
          refine hK.out _ _ ?_ (fun hHeld => ?_)
          · exact HS.out _ HB_xp.out
          clear hK K
          go_simp
          refine wpAnyH_ready (rs := [1]) (by kernel_rfl) (by simp) ?_
          refine AllReadyH.cons rfl (fun K hK => ?_) AllReadyH.nil
          go_simp
          have hb := (HB_xp.out).alloc HB_xp.out.size (.cells #[] 75)
          have he : (World.alloc xp (.cells #[] 75)).ownsRow w0.heap.size 75 4 (.slice (some ⟨(World.heap xp).size, 0, none⟩) 0 0) 0 [] := own_new xp #[] _ 4 0 (World.heap xp).size w0.heap.size rfl rfl (by unfold maxLen; omega) HB_xp.out.size
          have hp := ((Below.refl (World.heap xp).size xp).alloc (Nat.le_refl _) (.cells #[] 75)).block g2 (lt_of_block HP_xp.out) |>.trans HP_xp.out
          have HG : Hid (g2 ≠ (World.heap xp).size) := by have := lt_of_block HP_xp.out; show _ ≠ _; omega
          obtain ⟨g1, hg1⟩ : ∃ z, (World.heap xp).size = z := ⟨_, rfl⟩
          obtain ⟨xpe, hxpe⟩ : ∃ z, World.alloc xp (.cells #[] 75) = z := ⟨_, rfl⟩
          rw [hxpe] at hb he
          rw [hg1] at he
          rw [hxpe] at hp
          rw [hg1] at HG
          have HP_xpe := Lib.hid hp
          clear hp
          have HB_xpe := Lib.hid hb
          have HE_xpe := Lib.hid he
          clear hb he
          first | rw [hg1, hxpe] | rw [hxpe, hg1] | rw [hxpe] | skip
          clear hxpe hg1
          refine hK.out _ _ ?_ (fun hHeld => ?_)
          · exact HS.out _ HB_xpe.out
          clear hK K
          go_simp
          refine wpAnyH_ready (rs := [6]) (by kernel_rfl) (by simp) ?_
          refine AllReadyH.cons rfl (fun K hK => ?_) AllReadyH.nil
          refine step_own rfl (.tmp 30) (.tmp 34) 35 rfl w0.heap.size 75 i0 (.agg #[.int .i64 0, .int .i64 0, .bool false, .slice none 0 0]) 4 48 Tryz.underlying35 HI.out.1 HI.out.2.1 HI.out.2.2.1 HI.out.2.2.2 rfl (by decide) (.slice (some ⟨g1, 0, none⟩) 0 0) 0 [] (by simp [Act.eval, Act.put]) HE_xpe.out w0.heap.size A0 ks.length c0 (pks ks) (by simp [Act.eval, Act.put]) (HRD.out.below HB_xpe.out (Nat.le_refl _)) (ones_pks _) (by unfold maxLen; omega) (by omega) HB_xpe.out.size ?_
          intro v6 xper ho6 hg6
          rw [Nat.zero_add] at ho6
          obtain ⟨A6, c6, e6, _⟩ := own_form ho6
          subst e6
          have HB_xper : Hid (Below w0.heap.size w0 xper) := HB_xpe.out.grown hg6 HB_xpe.out.size (fun g hg => (HE_xpe.out.lt g hg).1)
          have hr6 : World.ownsRow xper w0.heap.size 75 4 (.slice A6 ks.length c6) ks.length (pks ks) := by simpa using ho6
          have HR_xper := Lib.hid hr6
          clear hr6
          have HP_xper : Hid ((World.heap xper)[g2]? = some (.cells #[.int .i64 (next : Int), .int .i64 at', .bool el, .slice fa fn fc] 75 (0, 0))) := (hg6.block g2 (lt_of_block HP_xpe.out) (by simpa [Value.ownBlock] using HG.out)).trans HP_xpe.out
          clear ho6 hg6
          refine hK.out _ _ ?_ (fun hHeld => ?_)
          · exact HS.out _ HB_xper.out
          clear hK K
          go_simp
          refine wpAnyH_ready (rs := [12]) (by kernel_rfl) (by simp) ?_
          refine AllReadyH.cons rfl (fun K hK => ?_) AllReadyH.nil
          refine step_own rfl (.tmp 35) (.tmp 40) 35 rfl w0.heap.size 75 i0 (.agg #[.int .i64 0, .int .i64 0, .bool false, .slice none 0 0]) 4 48 Tryz.underlying35 HI.out.1 HI.out.2.1 HI.out.2.2.1 HI.out.2.2.2 rfl (by decide) (.slice A6 ks.length c6) ks.length (pks ks) (by simp [Act.eval, Act.put]) HR_xper.out (World.heap xper).size (some ⟨g2, 0, none⟩) 1 1 (pks [⟨next, at', el, fa, fn, fc⟩]) (by simp [Act.eval, Act.put]) (rd_one HP_xper.out) (ones_pks _) (by unfold maxLen; omega) (by omega) HB_xper.out.size ?_
          intro v7 y ho7 hg7
          rw [← pks_app] at ho7
          obtain ⟨A7, c7, e7, hl7, _⟩ := own_form ho7
          subst e7
          have HB_y : Hid (Below w0.heap.size w0 y) := HB_xper.out.grown hg7 HB_xper.out.size (fun g hg => (HR_xper.out.lt g hg).1)
          have HO7 := Lib.hid ho7
          have HL7 := Lib.hid hl7
          have hfy : World.frozen? y ⟨p, o, none⟩ = false := HFZ.out _ HB_y.out
          have hcy : World.cell? y ⟨p, o, none⟩ = some (.slice A0 ks.length c0) := HPO.out _ HB_y.out
          clear ho7 hg7 hl7
          refine hK.out _ _ ?_ (fun hHeld => ?_)
          · exact HS.out _ HB_y.out
          clear hK K
          go_simp
          refine wpAnyH_take (i := 13) (v := ?_) rfl (by kernel_rfl) (by kernel_rfl) (by kernel_rfl) (fun _ _ _ h => h) (Or.inl ⟨by rfl, ?_⟩) (by assumption) ?_
          rotate_left
          · intro w hSw; (try dsimp only at hSw); go_simp; try with_reducible rfl
          go_simp
          refine wpAnyH_take (i := 14) (v := ?_) rfl (by kernel_rfl) (by kernel_rfl) (by kernel_rfl) (fun _ _ _ h => h) (Or.inl ⟨by rfl, ?_⟩) (by assumption) ?_
          rotate_left
          · intro w hSw; (try dsimp only at hSw); go_simp; try with_reducible rfl
          go_simp
          refine wpAnyH_ready (rs := [15]) (by kernel_rfl) (by simp) ?_
          refine AllReadyH.cons rfl (fun K hK => ?_) AllReadyH.nil
          go_simp
          refine hK.out _ _ ?_ (fun hHeld => ?_)
          · exact HSET.out _ HB_y.out _
          clear hK K
          go_simp
          refine wpAnyH_done (by kernel_rfl) ?_ _
          have HLD : Hid (RLed (y.setCell ⟨p, o, none⟩ (.slice A7 (ks.length + 1) c7)) lo p o T (cur.setIfInBounds o (.slice A7 (ks.length + 1) c7)) (ks ++ [⟨next, at', el, fa, fn, fc⟩]) next acked) := by
            have hl : (ks ++ [(⟨next, at', el, fa, fn, fc⟩ : Pk)]).length = ks.length + 1 := by simp
            have := (H0.out.keep HB_y.out).setRow (ks' := ks ++ [⟨next, at', el, fa, fn, fc⟩]) (A := A7) (c := c7) (by rw [hl]; exact own_base HO7.out HLO.out) (by rw [hl]; exact HL7.out) HOC.out
            rwa [hl] at this
          have HGR : Hid (w0.grownBy (y.setCell ⟨p, o, none⟩ (.slice A7 (ks.length + 1) c7)) (some p)) := below_grown HB_y.out (set_grown y p o _)
          obtain ⟨z, hz⟩ : ∃ z, y.setCell ⟨p, o, none⟩ (.slice A7 (ks.length + 1) c7) = z := ⟨_, rfl⟩
          rw [hz] at HLD HGR ⊢
          have hcz := HLD.out.cell.1
          have hfz2 := HLD.out.cell.2.2 (o + 1)
          have HF : Hid (RPutP w lo p o T cur ks next acked ⟨next, at', el, fa, fn, fc⟩ (z.setCell ⟨p, o + 1, none⟩ (.int .i64 ((next : Int) + 1)))) := by
            have := HLD.out.setNext (next + 1)
            refine ⟨_, this, ((Same3.refl o cur).set o (by omega) _).set (o + 1) (by omega) _, below_grown HW0.out.2 (grown_two2 HGR.out (set_grown z p (o + 1) _))⟩
          clear HLD HGR HO7 HL7 hz
          go_wp2_with fail
          refine ⟨⟨j + 1, by go_num, by omega, fun h => by omega, fun _ => HF.out⟩, ?_⟩
          simp [intOf]; omega
        exact AllReadyH.nil
      exact AllReadyH.nil
    · obtain rfl : j = 1 := by omega
      have HF := Lib.hid (hw1 rfl)
      clear hw0 hw1
      go_wp2_with fail
      go_end0
      exact ⟨rfl, HF.out⟩
end Go.Proofs.YtebfjphmlggacaaGreat.Xr

namespace Go.Proofs.YtebfjphmlggacaaGreat.Xr
open Go Go.RowKit Go.Proofs.YtebfjphmlggacaaGreat Go.Proofs.YtebfjphmlggacaaGreat.Sp Go.Proofs.YtebfjphmlggacaaGreat.Ld Go.Proofs.YtebfjphmlggacaaGreat.Pa

/-- What Send leaves: a packet more, its frames the same. -/
def RSendP (w : World) (lo p : Nat) (s : Rtt.RS) (kq : List (Pk × List Fq)) (next acked : Nat) (wd : Cg.Win) (now : Int) (qs : List Fq) (w' : World) : Prop :=
  ∃ k', k'.num = next ∧ k'.at' = now ∧ k'.el = elicF qs ∧ RPathIn w' lo p s (kq ++ [(k', qs)]) (next + 1) acked wd ∧ w.grownBy w' (some p)

set_option maxRecDepth 100000 in
set_option maxHeartbeats 8000000 in
theorem rsend_path {w : World} {lo p : Nat} {s : Rtt.RS} {kq : List (Pk × List Fq)} {next acked : Nat} {wd : Cg.Win} (h : RPathIn w lo p s kq next acked wd) (now : Int) (hnow : -9223372036854775808 ≤ now ∧ now ≤ 9223372036854775807) (fa : Option Addr) (fn fc : Nat) (qs : List Fq) (hql : qs.length = fn) (hfx : Rd w w.heap.size fa (fn * 9) (fqs qs)) (hfq : ∀ q ∈ qs, FqOwn w lo q) (hfn : fn ≤ 1048576) (hfc : fn ≤ fc) (hkl : kq.length ≤ 1099511627776) (hn : next < 1099511627776) :
    Calls Tryz.prog 18 #[.pointer (some ⟨p, 0, none⟩), .int .i64 now, .slice fa fn fc] w fun e w' => e = .returned (.int .i64 (next : Int)) ∧ RSendP w lo p s kq next acked wd now qs w' := by
  obtain ⟨cur, h1, h2, h3⟩ := h.cur
  obtain ⟨i0, hi, hz0, hz1, hz2⟩ := info_parts infoFr
  have HI := Lib.hid (And.intro hi (And.intro hz0 (And.intro hz1 hz2)))
  have HP := Lib.hid h
  have H1 := Lib.hid h1
  have H2 := Lib.hid h2
  have HKL : Hid ((kq.map (·.1)).length ≤ 1099511627776) := by show _ ≤ _; rw [List.length_map]; exact hkl
  have HNX := Lib.hid hn
  have HLT : Hid (p < w.heap.size) := h.lt.2
  have HEL : Hid (∀ W, Below w.heap.size w W → Calls Tryz.prog 55 #[.slice fa fn fc] W fun e w' => e = .returned (.bool (elicF qs)) ∧ w' = W) := fun W hb => relicits_any qs fn fc fa W hql ((hfx.below hb (Nat.le_refl _)).more hb.size) hfc hfn
  have HFX := Lib.hid hfx
  have HFQ := Lib.hid hfq
  have HQL := Lib.hid hql
  have HFN := Lib.hid hfn
  have HNOW := Lib.hid hnow
  have hcn := h2.cell.1
  have hnI : (next : Int) < 1099511627776 := by omega
  have hfnI : (fn : Int) ≤ 1048576 := by omega
  clear h h1 h2 h3 hi hz0 hz1 hz2 hfx hfq hql hnow hkl hn
  go_enter Tryz.func18, Tryz.ntmps18
  go_wp2_with fail
  clear hcn
  refine wp_region_held_drew (S := (fun _ => True)) (by kernel_rfl) ?_ (fun hHeld => ?_)
  · exact trivial
  obtain ⟨x, hx⟩ : ∃ z, w.drew = z := ⟨_, rfl⟩
  have HB_x : Hid (Below w.heap.size w x) := hx ▸ (Below.refl _ _).drew
  rw [hx]
  clear hx
  refine wpAnyH_take (i := 0) (v := ?_) rfl (by kernel_rfl) (by kernel_rfl) (by kernel_rfl) (fun _ _ _ h => h) (Or.inl ⟨by rfl, ?_⟩) (by assumption) ?_
  rotate_left
  · intro w hSw; (try dsimp only at hSw); go_simp; try with_reducible rfl
  go_simp
  refine wpAnyH_take (i := 1) (v := ?_) rfl (by kernel_rfl) (by kernel_rfl) (by kernel_rfl) (fun _ _ _ h => h) (Or.inl ⟨by rfl, ?_⟩) (by assumption) ?_
  rotate_left
  · intro w hSw; (try dsimp only at hSw); go_simp; try with_reducible rfl
  go_simp
  refine wpAnyH_take (i := 2) (v := ?_) rfl (by kernel_rfl) (by kernel_rfl) (by kernel_rfl) (fun _ _ _ h => h) (Or.inl ⟨by rfl, ?_⟩) (by assumption) ?_
  rotate_left
  · intro w hSw; (try dsimp only at hSw); go_simp; try with_reducible rfl
  go_simp
  refine wpAnyH_take (i := 3) (v := ?_) rfl (by kernel_rfl) (by kernel_rfl) (by kernel_rfl) (fun _ _ _ h => h) (Or.inl ⟨by rfl, ?_⟩) (by assumption) ?_
  rotate_left
  · intro w hSw; (try dsimp only at hSw); go_simp; try with_reducible rfl
  go_simp
  refine wpAnyH_take (i := 4) (v := ?_) rfl (by kernel_rfl) (by kernel_rfl) (by kernel_rfl) (fun _ _ _ h => h) (Or.inl ⟨by rfl, ?_⟩) (by assumption) ?_
  rotate_left
  · intro w hSw; (try dsimp only at hSw); go_simp; try with_reducible rfl
  go_simp
  refine wpAnyH_take (i := 5) (v := ?_) rfl (by kernel_rfl) (by kernel_rfl) (by kernel_rfl) (fun _ _ _ h => h) (Or.inl ⟨by rfl, ?_⟩) (by assumption) ?_
  rotate_left
  · intro w hSw; (try dsimp only at hSw); go_simp; try with_reducible rfl
  go_simp
  refine wpAnyH_take (i := 8) (v := ?_) rfl (by kernel_rfl) (by kernel_rfl) (by kernel_rfl) (fun _ _ _ h => h) (Or.inl ⟨by rfl, ?_⟩) (by assumption) ?_
  rotate_left
  · intro w hSw; (try dsimp only at hSw); go_simp; try with_reducible rfl
  go_simp
  refine wpAnyH_ready (rs := [6, 7]) (by kernel_rfl) (by simp) ?_
  refine AllReadyH.cons rfl (fun K hK => ?_) ?_
  · skip
    go_simp
    refine (HEL.out _ HB_x.out).mono ?_
    rintro e wq ⟨rfl, hwq⟩
    subst wq
    refine hK.out _ _ ?_ (fun hHeld => ?_)
    · exact trivial
    clear hK K
    go_simp
    refine wpAnyH_ready (rs := [7]) (by kernel_rfl) (by simp) ?_
    refine AllReadyH.cons rfl (fun K hK => ?_) AllReadyH.nil
    go_simp
    have hb := (HB_x.out).alloc HB_x.out.size (.cells #[] 68)
    have he : (World.alloc x (.cells #[] 68)).ownsRow w.heap.size 68 9 (.slice (some ⟨(World.heap x).size, 0, none⟩) 0 0) 0 [] := own_new x #[] _ 9 0 (World.heap x).size w.heap.size rfl rfl (by unfold maxLen; omega) HB_x.out.size
    obtain ⟨g1, hg1⟩ : ∃ z, (World.heap x).size = z := ⟨_, rfl⟩
    obtain ⟨xe, hxe⟩ : ∃ z, World.alloc x (.cells #[] 68) = z := ⟨_, rfl⟩
    rw [hxe] at hb he
    rw [hg1] at he
    have HB_xe := Lib.hid hb
    have HE_xe := Lib.hid he
    clear hb he
    first | rw [hg1, hxe] | rw [hxe, hg1] | rw [hxe] | skip
    clear hxe hg1
    refine hK.out _ _ ?_ (fun hHeld => ?_)
    · exact trivial
    clear hK K
    go_simp
    refine wpAnyH_ready (rs := [9]) (by kernel_rfl) (by simp) ?_
    refine AllReadyH.cons rfl (fun K hK => ?_) AllReadyH.nil
    refine step_own rfl (.tmp 20) (.tmp 21) 44 rfl w.heap.size 68 i0 (.agg #[.int .i64 0, .int .i64 0, .int .i64 0, .int .i64 0, .int .i64 0, .int .i64 0, .bool false, .slice none 0 0, .slice none 0 0]) 9 104 Tryz.underlying44 HI.out.1 HI.out.2.1 HI.out.2.2.1 HI.out.2.2.2 rfl (by decide) (.slice (some ⟨g1, 0, none⟩) 0 0) 0 [] (by simp [Act.eval, Act.put]) HE_xe.out w.heap.size fa fn fc (fqs qs) (by simp [Act.eval, Act.put]) (HFX.out.below HB_xe.out (Nat.le_refl _)) (ones_fqs _) (by unfold maxLen; omega) (by omega) HB_xe.out.size ?_
    intro v6 xer ho6 hg6
    obtain ⟨A9, c9, e9, hl9, _⟩ := own_form ho6
    rw [Nat.zero_add] at e9 hl9
    subst e9
    have HB_xer : Hid (Below w.heap.size w xer) := HB_xe.out.grown hg6 HB_xe.out.size (fun g hg => (HE_xe.out.lt g hg).1)
    have hr6 : World.ownsRow xer w.heap.size 68 9 (.slice A9 fn c9) fn (fqs qs) := by simpa using ho6
    have HR_xer := Lib.hid hr6
    clear hr6
    have HL9 : Hid (fn ≤ c9) := hl9
    clear ho6 hg6 hl9
    refine hK.out _ _ ?_ (fun hHeld => ?_)
    · exact trivial
    clear hK K
    go_simp
    refine wpAnyH_take (i := 10) (v := ?_) rfl (by kernel_rfl) (by kernel_rfl) (by kernel_rfl) (fun _ _ _ h => h) (Or.inl ⟨by rfl, ?_⟩) (by assumption) ?_
    rotate_left
    · intro w hSw; (try dsimp only at hSw); go_simp; try with_reducible rfl
    go_simp
    refine wpAnyH_ready (rs := [11]) (by kernel_rfl) (by simp) ?_
    refine AllReadyH.cons rfl (fun K hK => ?_) AllReadyH.nil
    go_simp
    refine hK.out _ _ ?_ (fun hHeld => ?_)
    · exact trivial
    clear hK K
    go_simp
    refine wpAnyH_ready (rs := [12]) (by kernel_rfl) (by simp) ?_
    refine AllReadyH.cons rfl (fun K hK => ?_) AllReadyH.nil
    go_simp
    obtain ⟨w3, hw3⟩ : ∃ z, World.alloc xer (.cells #[.int .i64 (next : Int), .int .i64 now, .bool (elicF qs), .slice A9 fn c9] 75) = z := ⟨_, rfl⟩
    have hb3 : Below w.heap.size w w3 := hw3 ▸ HB_xer.out.alloc HB_xer.out.size _
    have hrd : Rd w3 w3.heap.size (some ⟨(World.heap xer).size, 0, none⟩) (1 * 4) (pks [⟨next, now, elicF qs, A9, fn, c9⟩]) := by
      rw [← hw3]
      exact rd_new _ _ _ _ _ _ _ rfl (by simp) rfl rfl
    have hr3 : w3.ownsRow w.heap.size 68 9 (.slice A9 fn c9) fn (fqs qs) := hw3 ▸ HR_xer.out.alloc _
    have hne : ∀ a, (some ⟨(World.heap xer).size, 0, none⟩ : Option Addr) = some a → a.block ≠ p := fun a ha => by
      cases ha
      have := HB_xer.out.size
      have := HLT.out
      show (World.heap xer).size ≠ p
      omega
    have HPU := Lib.hid (rput_any (H2.out.keep hb3) HKL.out HNX.out now (elicF qs) A9 fn c9 _ 1 (Nat.le_refl _) hne hrd)
    have HB3 := Lib.hid hb3
    have HR3 := Lib.hid hr3
    rw [hw3]
    clear hrd hb3 hw3 HEL hr3 hne
    refine HPU.out.mono ?_
    rintro e w4 ⟨rfl, cur', hl, hs, hg⟩
    have HS : Hid (RSendP w lo p s kq next acked wd now qs w4) := by
      have h1 : Rtt.RtIn w3 p 0 43 cur s := ⟨(HB3.out.block p HLT.out).trans H1.out.1, H1.out.2⟩
      have hlo : lo ≤ w.heap.size := by have := HP.out.lt; omega
      refine ⟨⟨next, now, elicF qs, A9, fn, c9⟩, rfl, rfl, rfl, (HP.out.keep HB3.out).led h1 hl hs hg (by simp) (fun x hx => ?_), below_grown HB3.out hg⟩
      rcases List.mem_append.1 hx with hx | hx
      · exact .inl hx
      · right
        obtain rfl : x = (⟨next, now, elicF qs, A9, fn, c9⟩, qs) := by simpa using hx
        exact FrRow.other ⟨HQL.out, HFN.out, HNOW.out, own_base HR3.out hlo, fun q hq => (HFQ.out q hq).keep HB3.out⟩ hg h1.1 (by decide) (by decide) (by decide)
    clear hl hs hg HPU
    refine hK.out _ _ ?_ (fun hHeld => ?_)
    · exact trivial
    clear hK K
    go_simp
    refine wpAnyH_done (by kernel_rfl) ?_ _
    go_wp2_with fail
    go_ret
    exact ⟨rfl, HS.out⟩
  refine AllReadyH.cons rfl (fun K hK => ?_) ?_
  · skip
    go_simp
    have hb := (HB_x.out).alloc HB_x.out.size (.cells #[] 68)
    have he : (World.alloc x (.cells #[] 68)).ownsRow w.heap.size 68 9 (.slice (some ⟨(World.heap x).size, 0, none⟩) 0 0) 0 [] := own_new x #[] _ 9 0 (World.heap x).size w.heap.size rfl rfl (by unfold maxLen; omega) HB_x.out.size
    obtain ⟨g1, hg1⟩ : ∃ z, (World.heap x).size = z := ⟨_, rfl⟩
    obtain ⟨xe, hxe⟩ : ∃ z, World.alloc x (.cells #[] 68) = z := ⟨_, rfl⟩
    rw [hxe] at hb he
    rw [hg1] at he
    have HB_xe := Lib.hid hb
    have HE_xe := Lib.hid he
    clear hb he
    first | rw [hg1, hxe] | rw [hxe, hg1] | rw [hxe] | skip
    clear hxe hg1
    refine hK.out _ _ ?_ (fun hHeld => ?_)
    · exact trivial
    clear hK K
    go_simp
    refine wpAnyH_ready (rs := [6]) (by kernel_rfl) (by simp) ?_
    refine AllReadyH.cons rfl (fun K hK => ?_) AllReadyH.nil
    go_simp
    refine (HEL.out _ HB_xe.out).mono ?_
    rintro e wq ⟨rfl, hwq⟩
    subst wq
    refine hK.out _ _ ?_ (fun hHeld => ?_)
    · exact trivial
    clear hK K
    go_simp
    refine wpAnyH_ready (rs := [9]) (by kernel_rfl) (by simp) ?_
    refine AllReadyH.cons rfl (fun K hK => ?_) AllReadyH.nil
    refine step_own rfl (.tmp 20) (.tmp 21) 44 rfl w.heap.size 68 i0 (.agg #[.int .i64 0, .int .i64 0, .int .i64 0, .int .i64 0, .int .i64 0, .int .i64 0, .bool false, .slice none 0 0, .slice none 0 0]) 9 104 Tryz.underlying44 HI.out.1 HI.out.2.1 HI.out.2.2.1 HI.out.2.2.2 rfl (by decide) (.slice (some ⟨g1, 0, none⟩) 0 0) 0 [] (by simp [Act.eval, Act.put]) HE_xe.out w.heap.size fa fn fc (fqs qs) (by simp [Act.eval, Act.put]) (HFX.out.below HB_xe.out (Nat.le_refl _)) (ones_fqs _) (by unfold maxLen; omega) (by omega) HB_xe.out.size ?_
    intro v6 xer ho6 hg6
    obtain ⟨A9, c9, e9, hl9, _⟩ := own_form ho6
    rw [Nat.zero_add] at e9 hl9
    subst e9
    have HB_xer : Hid (Below w.heap.size w xer) := HB_xe.out.grown hg6 HB_xe.out.size (fun g hg => (HE_xe.out.lt g hg).1)
    have hr6 : World.ownsRow xer w.heap.size 68 9 (.slice A9 fn c9) fn (fqs qs) := by simpa using ho6
    have HR_xer := Lib.hid hr6
    clear hr6
    have HL9 : Hid (fn ≤ c9) := hl9
    clear ho6 hg6 hl9
    refine hK.out _ _ ?_ (fun hHeld => ?_)
    · exact trivial
    clear hK K
    go_simp
    refine wpAnyH_take (i := 10) (v := ?_) rfl (by kernel_rfl) (by kernel_rfl) (by kernel_rfl) (fun _ _ _ h => h) (Or.inl ⟨by rfl, ?_⟩) (by assumption) ?_
    rotate_left
    · intro w hSw; (try dsimp only at hSw); go_simp; try with_reducible rfl
    go_simp
    refine wpAnyH_ready (rs := [11]) (by kernel_rfl) (by simp) ?_
    refine AllReadyH.cons rfl (fun K hK => ?_) AllReadyH.nil
    go_simp
    refine hK.out _ _ ?_ (fun hHeld => ?_)
    · exact trivial
    clear hK K
    go_simp
    refine wpAnyH_ready (rs := [12]) (by kernel_rfl) (by simp) ?_
    refine AllReadyH.cons rfl (fun K hK => ?_) AllReadyH.nil
    go_simp
    obtain ⟨w3, hw3⟩ : ∃ z, World.alloc xer (.cells #[.int .i64 (next : Int), .int .i64 now, .bool (elicF qs), .slice A9 fn c9] 75) = z := ⟨_, rfl⟩
    have hb3 : Below w.heap.size w w3 := hw3 ▸ HB_xer.out.alloc HB_xer.out.size _
    have hrd : Rd w3 w3.heap.size (some ⟨(World.heap xer).size, 0, none⟩) (1 * 4) (pks [⟨next, now, elicF qs, A9, fn, c9⟩]) := by
      rw [← hw3]
      exact rd_new _ _ _ _ _ _ _ rfl (by simp) rfl rfl
    have hr3 : w3.ownsRow w.heap.size 68 9 (.slice A9 fn c9) fn (fqs qs) := hw3 ▸ HR_xer.out.alloc _
    have hne : ∀ a, (some ⟨(World.heap xer).size, 0, none⟩ : Option Addr) = some a → a.block ≠ p := fun a ha => by
      cases ha
      have := HB_xer.out.size
      have := HLT.out
      show (World.heap xer).size ≠ p
      omega
    have HPU := Lib.hid (rput_any (H2.out.keep hb3) HKL.out HNX.out now (elicF qs) A9 fn c9 _ 1 (Nat.le_refl _) hne hrd)
    have HB3 := Lib.hid hb3
    have HR3 := Lib.hid hr3
    rw [hw3]
    clear hrd hb3 hw3 HEL hr3 hne
    refine HPU.out.mono ?_
    rintro e w4 ⟨rfl, cur', hl, hs, hg⟩
    have HS : Hid (RSendP w lo p s kq next acked wd now qs w4) := by
      have h1 : Rtt.RtIn w3 p 0 43 cur s := ⟨(HB3.out.block p HLT.out).trans H1.out.1, H1.out.2⟩
      have hlo : lo ≤ w.heap.size := by have := HP.out.lt; omega
      refine ⟨⟨next, now, elicF qs, A9, fn, c9⟩, rfl, rfl, rfl, (HP.out.keep HB3.out).led h1 hl hs hg (by simp) (fun x hx => ?_), below_grown HB3.out hg⟩
      rcases List.mem_append.1 hx with hx | hx
      · exact .inl hx
      · right
        obtain rfl : x = (⟨next, now, elicF qs, A9, fn, c9⟩, qs) := by simpa using hx
        exact FrRow.other ⟨HQL.out, HFN.out, HNOW.out, own_base HR3.out hlo, fun q hq => (HFQ.out q hq).keep HB3.out⟩ hg h1.1 (by decide) (by decide) (by decide)
    clear hl hs hg HPU
    refine hK.out _ _ ?_ (fun hHeld => ?_)
    · exact trivial
    clear hK K
    go_simp
    refine wpAnyH_done (by kernel_rfl) ?_ _
    go_wp2_with fail
    go_ret
    exact ⟨rfl, HS.out⟩
  exact AllReadyH.nil
end Go.Proofs.YtebfjphmlggacaaGreat.Xr
