/- Twenty packets of one way, plainly. Conditions: none. -/
import Derived.Test.YtkphmgfjlbdpgaaDoorJB8
set_option linter.unusedSimpArgs false
set_option linter.unusedVariables false

namespace Go.Proofs.YtkphmgfjlbdpgaaDoor
open Go Go.RowKit

/-- A Got of a number. -/
def gotF (i : Nat) : Fr := ⟨10, (i : Int), 0, 0, 0, 0, false, [], []⟩
theorem got_ok (i : Nat) (hi : i < 20) : OkF (gotF i) where
  k := by show (1 : Int) ≤ 10 ∧ (10 : Int) ≤ 12; decide
  num := ⟨wid_in (show (0 : Int) ≤ (i : Int) by omega) (show (i : Int) ≤ 4611686018427387903 by omega), wid0, wid0, wid0⟩
  bo := Int.le_refl _
  data := ⟨Nat.zero_le _, fun c h => by cases h⟩
  room := by show (0 : Int) + ((0 : Nat) : Int) ≤ 4611686018427387903; decide
  dg := fun h => absurd (show (10 : Int) = 9 from h) (by decide)
  zid := .inr (.inr (.inr (.inr (.inl rfl))))
  za := .inr (.inr (.inr (.inr (.inr (.inr rfl)))))
  zoff := .inr (.inr rfl)
  zb := .inr rfl
  zfin := .inr (.inr rfl)
  zdata := .inr (.inr rfl)
  zsp := .inr ⟨show (10 : Int) ≠ 2 by decide, rfl⟩
theorem got_len : ∀ i, i < 20 → (encF (gotF i)).length = 2 := by decide +kernel
theorem body_len (i : Nat) (hi : i < 20) (fs : List Fr) : (layF (gotF i :: fs)).length = 2 + (layF fs).length := by
  show (encF (gotF i) ++ layF fs).length = _
  rw [List.length_append, got_len i hi]
theorem near_k (F : Int) (i : Nat) (hi : i < 20) : kN (F + i) (F - 1) = 1 := by
  unfold kN
  have : Pn.bytesF (F + i) (F - 1) = 1 := by unfold Pn.bytesF; rw [if_pos (by omega)]
  rw [this]; rfl
/-- The i-th packet's bytes. -/
def pkN (key : Nat) (F : Int) (fs : List Fr) (i : Nat) : List Nat := packN key (F + i) (F - 1) (layF (gotF i :: fs))
theorem pkN_len (key : Nat) (F : Int) (fs : List Fr) (i : Nat) (hi : i < 20) : (pkN key F fs i).length = 12 + (layF fs).length := by
  unfold pkN
  rw [packN_len, near_k F i hi, body_len i hi]
  omega
theorem pkN_get1 (key : Nat) (F : Int) (fs : List Fr) (i : Nat) (hi : i < 20) : (((pkN key F fs i).getD 1 0 : Nat) : Int) = (F + i) % 256 := by
  have hhl := headN_len (F + i) (kN (F + i) (F - 1))
  unfold pkN packN
  rw [near_k F i hi] at hhl ⊢
  rw [getN_app_left _ _ _ (by omega)]
  show ((((digs (cutN (F + i) 1) 1 1).getD 0 0 : Nat)) : Int) = _
  have h1 := cutN_eq (F + i) 1
  have h2 : Pn.cutF (F + i) ((1 : Nat) : Int) = (F + i) % 256 := rfl
  have h3 : (digs (cutN (F + i) 1) 1 1).getD 0 0 = cutN (F + i) 1 % 256 := by simp [digs]
  rw [h3]
  omega
theorem pkN_ne (key : Nat) (F : Int) (fs : List Fr) (i j : Nat) (hi : i < 20) (hj : j < i) : pkN key F fs j ≠ pkN key F fs i := fun e => by
  have h1 := pkN_get1 key F fs i hi
  have h2 := pkN_get1 key F fs j (by omega)
  rw [e] at h2
  omega

theorem cells_app (w : World) (fs : List Fr) (i : Nat) {cells : List Value} (h : FrsC w fs cells) : FrsC w (gotF i :: fs) (frC (gotF i) (.slice none 0 0) (.slice none 0 0) ++ cells) :=
  ⟨_, _, rfl, ⟨none, 0, 0, none, 0, 0, rfl, rfl, rfl, own_nil _ _ _ _, own_nil _ _ _ _⟩, h⟩

/-- The array of the packets, q of them laid. -/
def AllW (w1 : World) (ga L : Nat) (pk : Nat → List Nat) (q : Nat) (wr : World) : Prop :=
  Below w1.heap.size w1 wr ∧ w1.heap.size ≤ ga ∧ ∃ cur, wr.heap[ga]? = some (.cells cur 57 (0, 0)) ∧ cur.size = 20 ∧ ∀ j, j < q → ∃ g c, cur[j]? = some (.slice (some ⟨g, 0, none⟩) L c) ∧ L ≤ c ∧ ga < g ∧ g < wr.heap.size ∧ ∀ o u, (bv (pk j))[o]? = some u → wr.cell? ⟨g, o, none⟩ = some u
theorem AllW.below {w1 wr w' : World} {ga L : Nat} {pk : Nat → List Nat} {q : Nat} (h : AllW w1 ga L pk q wr) (hb : Below wr.heap.size wr w') : AllW w1 ga L pk q w' := by
  obtain ⟨h1, h2, cur, h3, h4, h5⟩ := h
  refine ⟨h1.trans (hb.mono h1.size), h2, cur, (hb.block _ (Array.getElem?_eq_some_iff.1 h3).1).trans h3, h4, fun j hj => ?_⟩
  obtain ⟨g, c, e1, e2, e3, e4, e5⟩ := h5 j hj
  exact ⟨g, c, e1, e2, e3, Nat.lt_of_lt_of_le e4 hb.size, fun o u hu => (hb.cell (p := ⟨g, o, none⟩) e4).trans (e5 o u hu)⟩
theorem AllW.drewN {w1 wr : World} {ga L : Nat} {pk : Nat → List Nat} {q : Nat} (h : AllW w1 ga L pk q wr) (m : Nat) : AllW w1 ga L pk q (wr.drewN m) := by
  obtain ⟨h1, h2, h3⟩ := h
  exact ⟨below_drewN h1 m, h2, h3⟩
theorem AllW.get {w1 wr : World} {ga L : Nat} {pk : Nat → List Nat} {q : Nat} (h : AllW w1 ga L pk q wr) (j : Nat) (hj : j < q) (hl : (pk j).length = L) : ∃ g c, wr.cell? ⟨ga, j, none⟩ = some (.slice (some ⟨g, 0, none⟩) L c) ∧ L ≤ c ∧ Rd wr wr.heap.size (some ⟨g, 0, none⟩) L (bv (pk j)) := by
  obtain ⟨h1, h2, cur, h3, h4, h5⟩ := h
  obtain ⟨g, c, e1, e2, e3, e4, e5⟩ := h5 j hj
  refine ⟨g, c, ?_, e2, by rw [bv_len, hl], fun _ => ⟨g, 0, rfl, e4, fun o u hu => by rw [Nat.zero_add]; exact e5 o u hu⟩⟩
  rw [Am.cell_of wr ga j cur _ (0, 0) h3]
  exact e1
theorem AllW.free {w1 wr : World} {ga L : Nat} {pk : Nat → List Nat} {q : Nat} (h : AllW w1 ga L pk q wr) (j : Nat) (hj : j < 20) : (∃ v, wr.cell? ⟨ga, j, none⟩ = some v) ∧ wr.frozen? ⟨ga, j, none⟩ = false := by
  obtain ⟨_, _, cur, h3, h4, _⟩ := h
  have := Am.cell_of wr ga j cur _ (0, 0) h3
  refine ⟨⟨cur[j]'(by omega), by rw [this]; simp [h4, hj]⟩, ?_⟩
  exact frozen_of_row _ _ _ _ _ h3
theorem AllW.put {w1 wr : World} {ga L : Nat} {pk : Nat → List Nat} {q : Nat} (h : AllW w1 ga L pk q wr) (hq : q < 20) (g c : Nat) (hg : ga < g) (hgw : g < wr.heap.size) (hc : L ≤ c) (hl : (pk q).length = L) (hr : ∀ o u, (bv (pk q))[o]? = some u → wr.cell? ⟨g, o, none⟩ = some u) : AllW w1 ga L pk (q + 1) (wr.setCell ⟨ga, q, none⟩ (.slice (some ⟨g, 0, none⟩) L c)) := by
  obtain ⟨h1, h2, cur, h3, h4, h5⟩ := h
  refine ⟨h1.setCell h2 _, h2, cur.setIfInBounds q (.slice (some ⟨g, 0, none⟩) L c), ?_, by simp [h4], fun j hj => ?_⟩
  · exact heap_setCell_same _ _ _ _ _ _ h3
  · have other : ∀ x o, ga < x → (wr.setCell ⟨ga, q, none⟩ (.slice (some ⟨g, 0, none⟩) L c)).cell? ⟨x, o, none⟩ = wr.cell? ⟨x, o, none⟩ := fun x o hx => by
      have e := heap_setCell_other wr ⟨ga, q, none⟩ x (.slice (some ⟨g, 0, none⟩) L c) (show x ≠ ga by omega)
      exact World.cell?_of_block e
    rcases Nat.lt_or_ge j q with hjq | hjq
    · obtain ⟨g', c', e1, e2, e3, e4, e5⟩ := h5 j hjq
      refine ⟨g', c', ?_, e2, e3, by simpa using e4, fun o u hu => (other g' o e3).trans (e5 o u hu)⟩
      rw [Array.getElem?_setIfInBounds_ne (by omega)]
      exact e1
    · obtain rfl : j = q := by omega
      refine ⟨g, c, ?_, hc, hg, by simpa using hgw, fun o u hu => (other g o hg).trans (hr o u hu)⟩
      rw [Array.getElem?_setIfInBounds_self_of_lt (by omega)]
end Go.Proofs.YtkphmgfjlbdpgaaDoor
