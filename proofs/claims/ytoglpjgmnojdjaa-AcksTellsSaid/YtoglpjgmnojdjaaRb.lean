/- The reference's Seen: Frame: a contract. Conditions: as each theorem lists them. -/
import Derived.Test.YtoglpjgmnojdjaaRa
import Derived.Test.YtoglpjgmnojdjaaNb
import Derived.Deep.RegionHeld3
set_option linter.unusedSimpArgs false
set_option linter.unusedVariables false
namespace Go.Proofs.Ytoglpjgmnojdjaa.Sp.Ref
open Go Go.RowKit

/-- The frame in the making: its block, and the one of the result. -/
def FrW (w wr : World) (g : Nat) (es : List Int) (m j : Nat) : Prop :=
  ∃ Al cl, wr.heap[g + 1]? = some (.cells #[.int .i64 2, .int .i64 0, .int .i64 0, .int .i64 0, .int .i64 0, .int .i64 0, .bool false, .slice none 0 0, .slice Al j cl] 51 (0, 0)) ∧
    wr.heap[g]? = some (.cells #[.int .i64 0, .int .i64 0, .int .i64 0, .int .i64 0, .int .i64 0, .int .i64 0, .bool false, .slice none 0 0, .slice none 0 0] 51 (0, 0)) ∧
    wr.ownsRow (g + 2) 57 2 (.slice Al j cl) j (ints (ackL es m j)) ∧ Below g w wr

set_option maxRecDepth 100000 in
set_option maxHeartbeats 4000000 in
theorem rframe_any (s : St) (hw : Win s) (p : Nat) (w : World) (h : RSeen w p s) :
    Calls Try.prog 38 #[.pointer (some ⟨p, 0, none⟩)] w fun e w' => (0 ≤ s.nw → ∃ A c, e = .returned (.tuple #[frA (ackF s.es) none 0 0 A (min (s.es.length / 2) 8) c, .bool true]) ∧ w'.ownsRow w.heap.size 57 2 (.slice A (min (s.es.length / 2) 8) c) (min (s.es.length / 2) 8) (ints (ackF s.es).spans)) ∧ (s.nw < 0 → e = .returned (.tuple #[frA noF none 0 0 none 0 0, .bool false])) ∧ Below w.heap.size w w' := by
  have HW := Lib.hid hw
  have hl66 := hw.len
  have HOk := Lib.hid hw.ok
  have hpz := h.lt
  obtain ⟨es, hes⟩ : ∃ x, Hid (s.es = x) := ⟨_, rfl⟩
  obtain ⟨v, _, A, m, c, hm, ⟨hhp, hcur⟩, hmc, hrd, haw⟩ := h
  rw [hes.out] at HOk hl66 hm hrd ⊢
  have HM : Hid (es.length = 2 * m) := by show _ = _; omega
  have HR := Lib.hid hrd
  have hcell := cell_slot hhp hcur
  have HCL := Lib.hid hcell
  have hm2 : m ≤ 33 := by omega
  have hmi : (m : Int) ≤ 33 := by omega
  have hmci : (m : Int) ≤ (c : Int) := by omega
  obtain ⟨i0, hi, hz0, hz1, hz2⟩ := info_parts infoP
  have HI := Lib.hid (And.intro hi (And.intro hz0 (And.intro hz1 hz2)))
  clear hhp hcur hrd haw hm hi hz0 hz1 hz2 hl66 hw
  go_enter Try.func38, Try.ntmps38
  go_wp2_with fail
  obtain ⟨g, hg⟩ : ∃ g, Hid (w.heap.size = g) := ⟨_, rfl⟩
  have HST : Hid (FrW w ((w.alloc (Obj.cells #[.int .i64 0, .int .i64 0, .int .i64 0, .int .i64 0, .int .i64 0, .int .i64 0, .bool false, .slice none 0 0, .slice none 0 0] 51)).alloc (Obj.cells #[.int .i64 2, .int .i64 0, .int .i64 0, .int .i64 0, .int .i64 0, .int .i64 0, .bool false, .slice none 0 0, .slice none 0 0] 51)) g es m 0) := by
    rw [← hg.out]
    exact ⟨none, 0, heap_alloc2_new _ _ _, heap_alloc2_old _ _ _, own_nil _ _ _ _, ((Below.refl _ _).alloc (Nat.le_refl _) _).alloc (by simp) _⟩
  rw [hg.out]
  go_loopw [5] (fun i wr => ∃ (j : Nat) (ii : Int), j ≤ min m 8 ∧ i = .int .i64 ii ∧ ii = (m : Int) - 1 - (j : Int) ∧ Hid (FrW w wr g es m j)) (fun i _ => (intOf i + 1).toNat)
  case atStart => exact ⟨0, (m : Int) - 1, by omega, rfl, by omega, HST⟩
  case round =>
    clear HST hcell
    obtain ⟨j, ii, hj, rfl, hii, HK⟩ := hrel
    obtain ⟨Al, cl, hb1, hb0, hown, hbw⟩ := HK.out
    have HB1 := Lib.hid hb1
    have HB0 := Lib.hid hb0
    have HO := Lib.hid hown
    have HBW := Lib.hid hbw
    have y8 := cell_slot (o := 8) hb1 rfl
    have f8 := free_slot (o := 8) hb1
    have hcellr : wr.cell? ⟨p, 0, none⟩ = some (.slice A m c) := by rw [hbw.cell (p := ⟨p, 0, none⟩) (by have := hg.out; show p < g; omega)]; exact HCL.out
    have hgs : g + 2 ≤ wr.heap.size := by have := lt_of_block hb1; omega
    clear hown hbw HK hb1
    by_cases hlt : j < m ∧ j < 8
    · obtain ⟨hj1, hj2⟩ := hlt
      clear hb0
      obtain ⟨q, hq⟩ : ∃ q : Nat, m = q + 1 + j := ⟨m - 1 - j, by omega⟩
      obtain rfl : ii = (q : Int) := by omega
      have HQ := Lib.hid hq
      have hqm : q < m := by omega
      have hqi : (q : Int) < (m : Int) := by omega
      have hj2i : (j : Int) < 8 := by omega
      clear hii hq
      obtain ⟨b, off, hA, hbn, hcs⟩ := HR.out.2 (by omega)
      subst hA
      have hl1 : 2 * q + 1 < es.length := by have := HM.out; omega
      have hx0 := get_in HOk.out (2 * q) (by omega)
      have hy0 := get_in HOk.out (2 * q + 1) (by omega)
      have hxy := get_mono HOk.out.1 (2 * q) (2 * q + 1) (by omega) (by omega)
      have HAK : Hid (ackL es m (j + 1) = ackL es m j ++ [es.getD (2 * q) 0, es.getD (2 * q + 1) 0 - 1]) := by
        show _ = _
        rw [ackL, show m - 1 - j = q by have := HQ.out; omega]
      obtain ⟨x, hx⟩ : ∃ x, Hid (es.getD (2 * q) 0 = x) := ⟨_, rfl⟩
      obtain ⟨y, hy⟩ : ∃ y, Hid (es.getD (2 * q + 1) 0 = y) := ⟨_, rfl⟩
      have hcx : wr.cell? ⟨b, off + q * 2, none⟩ = some (.int .i64 x) := by
        rw [HBW.out.cell (p := ⟨b, off + q * 2, none⟩) (by have := hg.out; show b < g; omega), show off + q * 2 = off + 2 * q by omega, hcs (2 * q) _ (ints_get es _ (by omega)), hx.out]
      have hcy : wr.cell? ⟨b, off + q * 2 + 1, none⟩ = some (.int .i64 y) := by
        rw [HBW.out.cell (p := ⟨b, off + q * 2 + 1, none⟩) (by have := hg.out; show b < g; omega), show off + q * 2 + 1 = off + (2 * q + 1) by omega, hcs (2 * q + 1) _ (ints_get es _ (by omega)), hy.out]
      rw [hx.out] at hx0 hxy HAK
      rw [hy.out] at hy0 hxy HAK
      clear hcs
      go_wp2_with fail
      -- region
      have HZ : Hid (wr.drew.ownsRow (g + 2) 57 2 (.slice Al j cl) j (ints (ackL es m j))) := HO.out.drew
      have HKS : Hid (∀ W, Below g wr W → W.cell? ⟨p, 0, none⟩ = some (.slice (some ⟨b, off, none⟩) m c) ∧ W.cell? ⟨b, off + q * 2, none⟩ = some (.int .i64 x) ∧ W.cell? ⟨b, off + q * 2 + 1, none⟩ = some (.int .i64 y)) := fun W hW =>
        ⟨(hW.cell (p := ⟨p, 0, none⟩) (by have := hg.out; show p < g; omega)).trans hcellr, (hW.cell (p := ⟨b, off + q * 2, none⟩) (by have := hg.out; show b < g; omega)).trans hcx, (hW.cell (p := ⟨b, off + q * 2 + 1, none⟩) (by have := hg.out; show b < g; omega)).trans hcy⟩
      have hgl : g ≤ wr.heap.size := by omega
      have hbk2 : Hid (g + 2 ≤ (wr.drew.alloc (.cells #[.int .i64 x, .int .i64 (y - 1)] 57)).heap.size) := by show _ ≤ _; simp only [World.size_alloc]; show g + 2 ≤ wr.heap.size + 1; omega
      have HAPP : Hid (∀ A1 c1 w1, w1.ownsRow (g + 2) 57 2 (.slice A1 (j + 1) c1) (j + 1) (ints (ackL es m j) ++ ints [x, y - 1]) → (wr.drew.alloc (.cells #[.int .i64 x, .int .i64 (y - 1)] 57)).grownBy w1 (Value.slice Al j cl).ownBlock → FrW w (w1.setCell ⟨g + 1, 8, none⟩ (.slice A1 (j + 1) c1)) g es m (j + 1) ∧ w1.cell? ⟨g + 1, 8, none⟩ = some (.slice Al j cl) ∧ w1.frozen? ⟨g + 1, 8, none⟩ = false ∧ Below g wr w1) := fun A1 c1 w1 hown1 hgrow1 => by
        have hb : Below (g + 2) wr w1 := (((Below.refl (g + 2) wr).drew).alloc (by show g + 2 ≤ wr.heap.size; omega) _).grown hgrow1 hbk2.out (fun k hk => (HZ.out.lt k hk).1)
        have h1 : w1.heap[g + 1]? = some (.cells #[.int .i64 2, .int .i64 0, .int .i64 0, .int .i64 0, .int .i64 0, .int .i64 0, .bool false, .slice none 0 0, .slice Al j cl] 51 (0, 0)) := (hb.block (g + 1) (by omega)).trans HB1.out
        have h0 := (hb.block g (by omega)).trans HB0.out
        refine ⟨⟨A1, c1, set_slot h1 8 _, (Below.heap_setCell _ _ _ _ (by simp)).trans h0, ?_, (HBW.out.trans (hb.mono (by omega))).setCell (p := ⟨g + 1, 8, none⟩) (Nat.le_succ _) _⟩, cell_slot h1 rfl, free_slot h1, hb.mono (by omega)⟩
        rw [HAK.out, ints_app]
        exact ownsRow_setCell_below hown1 (show g + 1 < g + 2 by omega) _
      have s1 : IntKind.i64.wrap (y - 1) = y - 1 := IntWalk.i64_in _ (by omega)
      have hwx : 0 ≤ (q : Int) := by omega
      have hwy : (q : Int).toNat = q := by omega
      have y8a : (wr.alloc (.cells #[.int .i64 x, .int .i64 (y - 1)] 57)).cell? ⟨g + 1, 8, none⟩ = some (.slice Al j cl) := (((Below.refl wr.heap.size wr).alloc (Nat.le_refl _) _).cell (p := ⟨g + 1, 8, none⟩) (show g + 1 < wr.heap.size by omega)).trans y8
      refine wp_region_held_drew (S := fun W' => W'.cell? ⟨p, 0, none⟩ = some (.slice (some ⟨b, off, none⟩) m c) ∧ W'.cell? ⟨b, off + q * 2, none⟩ = some (.int .i64 x) ∧ W'.cell? ⟨b, off + q * 2 + 1, none⟩ = some (.int .i64 y)) (by kernel_rfl) ?_ (fun hHeld => ?_)
      · exact HKS.out _ (Below.refl _ _).drew
      refine wpAnyH_take (i := 0) (v := ?_) rfl (by kernel_rfl) (by kernel_rfl) (by kernel_rfl) (fun _ _ _ h => h) (Or.inl ⟨by rfl, ?_⟩) (by assumption) ?_
      rotate_left
      · intro w hSw; (try dsimp only at hSw); go_simp; try with_reducible rfl
      go_simp
      refine wpAnyH_take (i := 2) (v := ?_) rfl (by kernel_rfl) (by kernel_rfl) (by kernel_rfl) (fun _ _ _ h => h) (Or.inl ⟨by rfl, ?_⟩) (by assumption) ?_
      rotate_left
      · intro w hSw; (try dsimp only at hSw); go_simp; try with_reducible rfl
      go_simp
      refine wpAnyH_take (i := 3) (v := ?_) rfl (by kernel_rfl) (by kernel_rfl) (by kernel_rfl) (fun _ _ _ h => h) (Or.inl ⟨by rfl, ?_⟩) (by assumption) ?_
      rotate_left
      · intro w hSw; (try dsimp only at hSw); go_simp; try with_reducible rfl
      go_simp
      refine wpAnyH_take (i := 4) (v := ?_) rfl (by kernel_rfl) (by kernel_rfl) (by kernel_rfl) (fun _ _ _ h => h) (Or.inl ⟨by rfl, ?_⟩) (by assumption) ?_
      rotate_left
      · intro w hSw; (try dsimp only at hSw); go_simp; try with_reducible rfl
      go_simp
      refine wpAnyH_take (i := 5) (v := ?_) rfl (by kernel_rfl) (by kernel_rfl) (by kernel_rfl) (fun _ _ _ h => h) (Or.inl ⟨by rfl, ?_⟩) (by assumption) ?_
      rotate_left
      · intro w hSw; (try dsimp only at hSw); go_simp; try with_reducible rfl
      go_simp
      refine wpAnyH_take (i := 6) (v := ?_) rfl (by kernel_rfl) (by kernel_rfl) (by kernel_rfl) (fun _ _ _ h => h) (Or.inl ⟨by rfl, ?_⟩) (by assumption) ?_
      rotate_left
      · intro w hSw; (try dsimp only at hSw); go_simp; try with_reducible rfl
      go_simp
      refine wpAnyH_take (i := 7) (v := ?_) rfl (by kernel_rfl) (by kernel_rfl) (by kernel_rfl) (fun _ _ _ h => h) (Or.inl ⟨by rfl, ?_⟩) (by assumption) ?_
      rotate_left
      · intro w hSw; (try dsimp only at hSw); go_simp; try with_reducible rfl
      go_simp
      refine wpAnyH_take (i := 8) (v := ?_) rfl (by kernel_rfl) (by kernel_rfl) (by kernel_rfl) (fun _ _ _ h => h) (Or.inl ⟨by rfl, ?_⟩) (by assumption) ?_
      rotate_left
      · intro w hSw; (try dsimp only at hSw); go_simp; try with_reducible rfl
      go_simp
      refine wpAnyH_take (i := 9) (v := ?_) rfl (by kernel_rfl) (by kernel_rfl) (by kernel_rfl) (fun _ _ _ h => h) (Or.inl ⟨by rfl, ?_⟩) (by assumption) ?_
      rotate_left
      · intro w hSw; (try dsimp only at hSw); go_simp; try with_reducible rfl
      go_simp
      refine wpAnyH_take (i := 10) (v := ?_) rfl (by kernel_rfl) (by kernel_rfl) (by kernel_rfl) (fun _ _ _ h => h) (Or.inl ⟨by rfl, ?_⟩) (by assumption) ?_
      rotate_left
      · intro w hSw; (try dsimp only at hSw); go_simp; try with_reducible rfl
      go_simp
      refine wpAnyH_take (i := 11) (v := ?_) rfl (by kernel_rfl) (by kernel_rfl) (by kernel_rfl) (fun _ _ _ h => h) (Or.inl ⟨by rfl, ?_⟩) (by assumption) ?_
      rotate_left
      · intro w hSw; (try dsimp only at hSw); go_simp; try with_reducible rfl
      go_simp
      refine wpAnyH_take (i := 12) (v := ?_) rfl (by kernel_rfl) (by kernel_rfl) (by kernel_rfl) (fun _ _ _ h => h) (Or.inl ⟨by rfl, ?_⟩) (by assumption) ?_
      rotate_left
      · intro w hSw; (try dsimp only at hSw); go_simp; try with_reducible rfl
      go_simp
      refine wpAnyH_take (i := 13) (v := ?_) rfl (by kernel_rfl) (by kernel_rfl) (by kernel_rfl) (fun _ _ _ h => h) (Or.inl ⟨by rfl, ?_⟩) (by assumption) ?_
      rotate_left
      · intro w hSw; (try dsimp only at hSw); go_simp; try with_reducible rfl
      go_simp
      refine wpAnyH_take (i := 14) (v := ?_) rfl (by kernel_rfl) (by kernel_rfl) (by kernel_rfl) (fun _ _ _ h => h) (Or.inl ⟨by rfl, ?_⟩) (by assumption) ?_
      rotate_left
      · intro w hSw; (try dsimp only at hSw); go_simp; try with_reducible rfl
      go_simp
      refine wpAnyH_take (i := 15) (v := ?_) rfl (by kernel_rfl) (by kernel_rfl) (by kernel_rfl) (fun _ _ _ h => h) (Or.inl ⟨by rfl, ?_⟩) (by assumption) ?_
      rotate_left
      · intro w hSw; (try dsimp only at hSw); go_simp; try with_reducible rfl
      go_simp
      refine wpAnyH_take (i := 16) (v := ?_) rfl (by kernel_rfl) (by kernel_rfl) (by kernel_rfl) (fun _ _ _ h => h) (Or.inl ⟨by rfl, ?_⟩) (by assumption) ?_
      rotate_left
      · intro w hSw; (try dsimp only at hSw); go_simp; try with_reducible rfl
      go_simp
      refine wpAnyH_take (i := 17) (v := ?_) rfl (by kernel_rfl) (by kernel_rfl) (by kernel_rfl) (fun _ _ _ h => h) (Or.inl ⟨by rfl, ?_⟩) (by assumption) ?_
      rotate_left
      · intro w hSw; (try dsimp only at hSw); go_simp; try with_reducible rfl
      go_simp
      refine wpAnyH_take (i := 18) (v := ?_) rfl (by kernel_rfl) (by kernel_rfl) (by kernel_rfl) (fun _ _ _ h => h) (Or.inl ⟨by rfl, ?_⟩) (by assumption) ?_
      rotate_left
      · intro w hSw; (try dsimp only at hSw); go_simp; try with_reducible rfl
      go_simp
      refine wpAnyH_take (i := 19) (v := ?_) rfl (by kernel_rfl) (by kernel_rfl) (by kernel_rfl) (fun _ _ _ h => h) (Or.inl ⟨by rfl, ?_⟩) (by assumption) ?_
      rotate_left
      · intro w hSw; (try dsimp only at hSw); go_simp; try with_reducible rfl
      go_simp
      refine wpAnyH_take (i := 20) (v := ?_) rfl (by kernel_rfl) (by kernel_rfl) (by kernel_rfl) (fun _ _ _ h => h) (Or.inl ⟨by rfl, ?_⟩) (by assumption) ?_
      rotate_left
      · intro w hSw; (try dsimp only at hSw); go_simp; try with_reducible rfl
      go_simp
      refine wpAnyH_take (i := 21) (v := ?_) rfl (by kernel_rfl) (by kernel_rfl) (by kernel_rfl) (fun _ _ _ h => h) (Or.inl ⟨by rfl, ?_⟩) (by assumption) ?_
      rotate_left
      · intro w hSw; (try dsimp only at hSw); go_simp; try with_reducible rfl
      go_simp
      refine wpAnyH_ready (rs := [1, 22]) (by kernel_rfl) (by simp) ?_
      refine AllReadyH.cons rfl (fun K hK => ?_) ?_
      · skip
        go_simp
        refine hK.out _ _ ?_ (fun hHeld => ?_)
        · exact HKS.out _ (Below.refl _ _).drew
        clear hK K
        go_simp
        refine wpAnyH_ready (rs := [22]) (by kernel_rfl) (by simp) ?_
        refine AllReadyH.cons rfl (fun K hK => ?_) AllReadyH.nil
        go_simp
        refine hK.out _ _ ?_ (fun hHeld => ?_)
        · exact HKS.out _ ((Below.refl _ _).alloc hgl _).drew
        clear hK K
        go_simp
        refine wpAnyH_ready (rs := [23]) (by kernel_rfl) (by simp) ?_
        refine AllReadyH.cons rfl (fun K hK => ?_) AllReadyH.nil
        refine step_own rfl (.tmp 25) (.tmp 46) 30 rfl (g + 2) 57 i0 (.agg #[.int .i64 0, .int .i64 0]) 2 16 Try.underlying30 HI.out.1 HI.out.2.1 HI.out.2.2.1 HI.out.2.2.2 rfl (by decide) (.slice Al j cl) j (ints (ackL es m j)) (by simp [Act.eval, Act.put]) (HZ.out.alloc _) (wr.heap.size + 1) (some ⟨wr.heap.size, 0, none⟩) 1 1 (ints [x, y - 1]) (by simp [Act.eval, Act.put]) (rd_new _ _ _ _ _ _ _ rfl (by simp) rfl rfl) (ones_ints _) (by unfold maxLen; omega) (by omega) hbk2.out ?_
        intro v1 w1 hown1 hgrow1
        obtain ⟨A1, c1, e1, _⟩ := own_form hown1
        subst e1
        obtain ⟨HN, z8, zf, zb⟩ := HAPP.out A1 c1 w1 hown1 hgrow1
        have HN := Lib.hid HN
        have ZB := Lib.hid zb
        clear hown1 hgrow1 zb
        refine hK.out _ _ ?_ (fun hHeld => ?_)
        · exact HKS.out _ ZB.out
        clear hK K
        go_simp
        refine wpAnyH_take (i := 24) (v := ?_) rfl (by kernel_rfl) (by kernel_rfl) (by kernel_rfl) (fun _ _ _ h => h) (Or.inl ⟨by rfl, ?_⟩) (by assumption) ?_
        rotate_left
        · intro w hSw; (try dsimp only at hSw); go_simp; try with_reducible rfl
        go_simp
        refine wpAnyH_ready (rs := [25]) (by kernel_rfl) (by simp) ?_
        refine AllReadyH.cons rfl (fun K hK => ?_) AllReadyH.nil
        go_simp
        refine hK.out _ _ ?_ (fun hHeld => ?_)
        · exact HKS.out _ (ZB.out.setCell (p := ⟨g + 1, 8, none⟩) (Nat.le_succ _) _)
        clear hK K
        go_simp
        refine wpAnyH_done (by kernel_rfl) ?_ _
        clear z8 zf s1 hwx hwy hcx hcy y8a
        go_wp2_with fail
        go_roundw
        case rel => exact ⟨j + 1, (q : Int) - 1, by omega, rfl, by have := HQ.out; omega, HN⟩
        case measure => simp [intOf] <;> omega
      refine AllReadyH.cons rfl (fun K hK => ?_) ?_
      · skip
        go_simp
        refine hK.out _ _ ?_ (fun hHeld => ?_)
        · exact HKS.out _ ((Below.refl _ _).alloc hgl _).drew
        clear hK K
        go_simp
        refine wpAnyH_ready (rs := [1]) (by kernel_rfl) (by simp) ?_
        refine AllReadyH.cons rfl (fun K hK => ?_) AllReadyH.nil
        go_simp
        refine hK.out _ _ ?_ (fun hHeld => ?_)
        · exact HKS.out _ ((Below.refl _ _).alloc hgl _).drew
        clear hK K
        go_simp
        refine wpAnyH_ready (rs := [23]) (by kernel_rfl) (by simp) ?_
        refine AllReadyH.cons rfl (fun K hK => ?_) AllReadyH.nil
        refine step_own rfl (.tmp 25) (.tmp 46) 30 rfl (g + 2) 57 i0 (.agg #[.int .i64 0, .int .i64 0]) 2 16 Try.underlying30 HI.out.1 HI.out.2.1 HI.out.2.2.1 HI.out.2.2.2 rfl (by decide) (.slice Al j cl) j (ints (ackL es m j)) (by simp [Act.eval, Act.put]) (HZ.out.alloc _) (wr.heap.size + 1) (some ⟨wr.heap.size, 0, none⟩) 1 1 (ints [x, y - 1]) (by simp [Act.eval, Act.put]) (rd_new _ _ _ _ _ _ _ rfl (by simp) rfl rfl) (ones_ints _) (by unfold maxLen; omega) (by omega) hbk2.out ?_
        intro v1 w1 hown1 hgrow1
        obtain ⟨A1, c1, e1, _⟩ := own_form hown1
        subst e1
        obtain ⟨HN, z8, zf, zb⟩ := HAPP.out A1 c1 w1 hown1 hgrow1
        have HN := Lib.hid HN
        have ZB := Lib.hid zb
        clear hown1 hgrow1 zb
        refine hK.out _ _ ?_ (fun hHeld => ?_)
        · exact HKS.out _ ZB.out
        clear hK K
        go_simp
        refine wpAnyH_take (i := 24) (v := ?_) rfl (by kernel_rfl) (by kernel_rfl) (by kernel_rfl) (fun _ _ _ h => h) (Or.inl ⟨by rfl, ?_⟩) (by assumption) ?_
        rotate_left
        · intro w hSw; (try dsimp only at hSw); go_simp; try with_reducible rfl
        go_simp
        refine wpAnyH_ready (rs := [25]) (by kernel_rfl) (by simp) ?_
        refine AllReadyH.cons rfl (fun K hK => ?_) AllReadyH.nil
        go_simp
        refine hK.out _ _ ?_ (fun hHeld => ?_)
        · exact HKS.out _ (ZB.out.setCell (p := ⟨g + 1, 8, none⟩) (Nat.le_succ _) _)
        clear hK K
        go_simp
        refine wpAnyH_done (by kernel_rfl) ?_ _
        clear z8 zf s1 hwx hwy hcx hcy y8a
        go_wp2_with fail
        go_roundw
        case rel => exact ⟨j + 1, (q : Int) - 1, by omega, rfl, by have := HQ.out; omega, HN⟩
        case measure => simp [intOf] <;> omega
      exact AllReadyH.nil
      -- end
    · have hjm : j = min m 8 := by omega
      have hge : w.heap.size ≤ g := by have := hg.out; omega
      have HJM := Lib.hid hjm
      have hcase : (j = 8 ∧ 0 ≤ ii) ∨ ii = -1 := by omega
      have HFV : Hid (∀ A c, frA (ackF es) none 0 0 A (min (es.length / 2) 8) c = .agg #[.int .i64 2, .int .i64 0, .int .i64 0, .int .i64 0, .int .i64 0, .int .i64 0, .bool false, .slice none 0 0, .slice A (min (es.length / 2) 8) c]) := fun A c => rfl
      have HFN : Hid (frA noF none 0 0 none 0 0 = .agg #[.int .i64 0, .int .i64 0, .int .i64 0, .int .i64 0, .int .i64 0, .int .i64 0, .bool false, .slice none 0 0, .slice none 0 0]) := rfl
      have HJ : Hid (min (es.length / 2) 8 = j) := by have := HM.out; show _ = _; omega
      have HAF : Hid ((ackF es).spans = ackL es m j) := by show ackL es (es.length / 2) (min (es.length / 2) 8) = _; rw [HJ.out, show es.length / 2 = m by have := HM.out; omega]
      have y0 := cell_slot (o := 0) HB1.out rfl
      have y1 := cell_slot (o := 1) HB1.out rfl
      have y2 := cell_slot (o := 2) HB1.out rfl
      have y3 := cell_slot (o := 3) HB1.out rfl
      have y4 := cell_slot (o := 4) HB1.out rfl
      have y5 := cell_slot (o := 5) HB1.out rfl
      have y6 := cell_slot (o := 6) HB1.out rfl
      have y7 := cell_slot (o := 7) HB1.out rfl
      have z0 := cell_slot (o := 0) hb0 rfl
      have zf0 := free_slot (o := 0) hb0
      have z1 := cell_slot (o := 1) hb0 rfl
      have zf1 := free_slot (o := 1) hb0
      have z2 := cell_slot (o := 2) hb0 rfl
      have zf2 := free_slot (o := 2) hb0
      have z3 := cell_slot (o := 3) hb0 rfl
      have zf3 := free_slot (o := 3) hb0
      have z4 := cell_slot (o := 4) hb0 rfl
      have zf4 := free_slot (o := 4) hb0
      have z5 := cell_slot (o := 5) hb0 rfl
      have zf5 := free_slot (o := 5) hb0
      have z6 := cell_slot (o := 6) hb0 rfl
      have zf6 := free_slot (o := 6) hb0
      have z7 := cell_slot (o := 7) hb0 rfl
      have zf7 := free_slot (o := 7) hb0
      have z8 := cell_slot (o := 8) hb0 rfl
      have zf8 := free_slot (o := 8) hb0
      clear hjm hii hb0 hcellr
      by_cases hj0 : j = 0
      · subst hj0
        have HNW : Hid (s.nw < 0) := by
          have h0 := HW.out.empty.1 (List.eq_nil_of_length_eq_zero (by rw [hes.out, HM.out]; have := HJM.out; omega))
          show _ < _; omega
        have hii1 : ii = -1 := by omega
        subst hii1
        clear hcase
        go_wp2
        (try simp only [Exit.inBlock, Exit.then])
        refine bodyPost_ret (results_row_tmp rfl _ _ g 51 _ (0, 0) _ rfl (set_slot (set_slot (set_slot (set_slot (set_slot (set_slot (set_slot (set_slot (set_slot (HB0.out) 0 _) 1 _) 2 _) 3 _) 4 _) 5 _) 6 _) 7 _) 8 _) Try.underlying51 rfl (by kernel_rfl)) rfl ?_
        refine ⟨fun h => absurd HNW.out (by omega), fun _ => ?_, ?_⟩
        · rw [HFN.out]; rfl
        · refine Below.mono (B := g) ?_ hge
          have h0 := HBW.out
          iterate 9 (refine Below.setCell ?_ (p := ⟨g, _, none⟩) (Nat.le_refl g) _)
          exact h0
      · have HNW : Hid (0 ≤ s.nw) := by
          rcases Int.lt_or_le s.nw 0 with h0 | h0
          · exfalso
            have h1 := HW.out.empty.2 (by have := HW.out.lo; omega)
            rw [hes.out] at h1
            have := HM.out
            rw [h1] at this
            simp at this
            omega
          · exact h0
        have hj1 : ((j : Int) == 0) = false := by simp; omega
        rcases hcase with ⟨rfl, hi0⟩ | rfl
        all_goals
          go_wp2
          (try simp only [Exit.inBlock, Exit.then])
          refine bodyPost_ret (results_row_tmp rfl _ _ g 51 _ (0, 0) _ rfl (set_slot (set_slot (set_slot (set_slot (set_slot (set_slot (set_slot (set_slot (set_slot (HB0.out) 0 _) 1 _) 2 _) 3 _) 4 _) 5 _) 6 _) 7 _) 8 _) Try.underlying51 rfl (by kernel_rfl)) rfl ?_
          refine ⟨fun _ => ⟨Al, cl, ?_, ?_⟩, fun h => absurd HNW.out (by omega), ?_⟩
          · rw [HFV.out, HJ.out]; rfl
          · rw [HJ.out, HAF.out]
            refine own_base (base := g + 2) ?_ (by omega)
            iterate 9 (refine ownsRow_setCell_below ?_ (show g < g + 2 by omega) _)
            exact HO.out
          · refine Below.mono (B := g) ?_ hge
            have h0 := HBW.out
            iterate 9 (refine Below.setCell ?_ (p := ⟨g, _, none⟩) (Nat.le_refl g) _)
            exact h0
end Go.Proofs.Ytoglpjgmnojdjaa.Sp.Ref
