/- Numbers noted, and what had come, in an array: plainly; in memory. Conditions: as each theorem lists them. -/
import Derived.Test.YtoglpjgmnojdjaaRk
import Derived.Test.YtoglpjgmnojdjaaOb
set_option linter.unusedSimpArgs false
set_option linter.unusedVariables false
namespace Go.Proofs.Ytoglpjgmnojdjaa.Sp
open Go Go.RowKit

/-- What had come (had) is what is in the set, and what is too far behind. -/
structure OnceI (N : Nat) (s : St) (had : List Bool) : Prop where
  win : Win s
  len : had.length = N
  top : s.nw < N
  is : ∀ j : Nat, j < N → mem s.es (j : Int) = (had.getD j false && decide (s.nw - 64 ≤ (j : Int)))

theorem once0 (N : Nat) : OnceI N st0 (List.replicate N false) := ⟨win0, by simp, by show (-1 : Int) < _; omega, fun j hj => by rw [show mem st0.es (j : Int) = false from rfl]; simp [List.getD, hj]⟩

theorem noteS_yes {s : St} {num : Int} {e : Bool} (hb : noteB s num = true) : noteS s num e = ⟨turn (turn s.es num (num + 1) true) 0 (max s.nw num - 64) false, s.ow || e, max s.nw num⟩ := by unfold noteS; rw [if_pos hb]
theorem noteS_no {s : St} {num : Int} {e : Bool} (hb : noteB s num = false) : noteS s num e = s := by unfold noteS; rw [hb]; rfl

theorem getD_set (had : List Bool) (q j : Nat) (hq : q < had.length) : (had.set q true).getD j false = (decide (j = q) || had.getD j false) := by
  simp only [List.getD]
  by_cases e : j = q
  · subst e; simp [List.getElem?_set, hq]
  · rw [List.getElem?_set_ne (fun h => e h.symm), decide_eq_false e, Bool.false_or]

theorem OnceI.yes {N : Nat} {s : St} {had : List Bool} (h : OnceI N s had) (hN : N ≤ 4611686018427387903) (q : Nat) (hq : q < N) (e : Bool) (hb : noteB s q = true) : had.getD q false = false ∧ ¬ (q : Int) < s.nw - 64 ∧ OnceI N (noteS s q e) (had.set q true) := by
  obtain ⟨h0, h1, h2, h3⟩ := (noteB_iff s q).1 hb
  have hi := h.is q hq
  rw [h2, decide_eq_true h3, Bool.and_true] at hi
  have hnw : (noteS s q e).nw = max s.nw q := by rw [noteS_yes hb]
  refine ⟨hi.symm, by omega, h.win.note q e, by rw [List.length_set]; exact h.len, by rw [hnw]; have := h.top; omega, fun j hj => ?_⟩
  rw [mem_note h.win q e hb j, hnw, getD_set had q j (by rw [h.len]; exact hq), h.is j hj]
  by_cases e1 : j = q
  · subst e1
    rw [decide_eq_true rfl, decide_eq_true (show max s.nw (j : Int) - 64 ≤ (j : Int) by omega)]
    simp
  · rw [decide_eq_false e1, decide_eq_false (show ¬ (j : Int) = (q : Int) by omega)]
    by_cases c : max s.nw (q : Int) - 64 ≤ (j : Int)
    · rw [decide_eq_true c, decide_eq_true (show s.nw - 64 ≤ (j : Int) by omega)]; simp
    · rw [decide_eq_false c]; simp
theorem OnceI.no {N : Nat} {s : St} {had : List Bool} (h : OnceI N s had) (hN : N ≤ 4611686018427387903) (q : Nat) (hq : q < N) (hb : noteB s q = false) (hh : had.getD q false = false) : (q : Int) < s.nw - 64 := by
  rcases Int.lt_or_le (q : Int) (s.nw - 64) with h0 | h0
  · exact h0
  · have hi := h.is q hq
    rw [hh, Bool.false_and] at hi
    rw [(noteB_iff s q).2 ⟨by omega, by omega, hi, h0⟩] at hb
    cases hb
/-- Where nothing can be too far behind, a number that is noted is among what came, whatever Note says. -/
theorem OnceI.all {N : Nat} {s : St} {had : List Bool} (h : OnceI N s had) (hN : N ≤ 64) (q : Nat) (hq : q < N) (e : Bool) : OnceI N (noteS s q e) (had.set q true) := by
  cases hb : noteB s q with
  | true => exact (h.yes (by omega) q hq e hb).2.2
  | false =>
    rw [noteS_no hb]
    have hh : had.getD q false = true := by
      cases hh : had.getD q false with
      | true => rfl
      | false => have := h.no (by omega) q hq hb hh; have := h.top; omega
    refine ⟨h.win, by rw [List.length_set]; exact h.len, h.top, fun j hj => ?_⟩
    rw [getD_set had q j (by rw [h.len]; exact hq), h.is j hj]
    by_cases e1 : j = q
    · subst e1; rw [hh]; simp
    · rw [decide_eq_false e1]; simp

/-- An array of bools in block hb. -/
def HadIn (w : World) (hb : Nat) (T : TypeId) (had : List Bool) : Prop := w.heap[hb]? = some (.cells (had.map Value.bool).toArray T (0, 0))
theorem HadIn.get {w : World} {hb : Nat} {T : TypeId} {had : List Bool} (h : HadIn w hb T had) (k : Nat) (hk : k < had.length) : w.cell? ⟨hb, k, none⟩ = some (.bool (had.getD k false)) ∧ w.frozen? ⟨hb, k, none⟩ = false :=
  ⟨cell_slot h (by simp [List.getD, hk]), free_slot h⟩
theorem HadIn.set {w : World} {hb : Nat} {T : TypeId} {had : List Bool} (h : HadIn w hb T had) (k : Nat) (b : Bool) : HadIn (w.setCell ⟨hb, k, none⟩ (.bool b)) hb T (had.set k b) := by
  have := set_slot h k (.bool b)
  unfold HadIn
  rw [this]
  simp [List.map_set]
theorem HadIn.lt {w : World} {hb : Nat} {T : TypeId} {had : List Bool} (h : HadIn w hb T had) : hb < w.heap.size := lt_of_block h

/-- Numbers that are read stay while an array of bools is written. -/
theorem rd_had {w : World} {B n hb k : Nat} {A : Option Addr} {l : List Int} {T : TypeId} {had : List Bool} {u : Value} (h : Rd w B A n (ints l)) (hh : HadIn w hb T had) : Rd (w.setCell ⟨hb, k, none⟩ u) B A n (ints l) := by
  refine ⟨h.1, fun hn => ?_⟩
  obtain ⟨b, off, rfl, hlt, hc⟩ := h.2 hn
  refine ⟨b, off, rfl, hlt, fun j v hv => ?_⟩
  have h1 := hc j v hv
  have hne : b ≠ hb := fun e => by
    subst e
    rw [ints, List.getElem?_map] at hv
    cases hl : l[j]? with
    | none => rw [hl] at hv; cases hv
    | some z =>
      rw [hl] at hv
      cases hv
      have h2 : w.cell? ⟨b, off + j, none⟩ = ((had.map Value.bool).toArray)[off + j]? := by unfold HadIn at hh; simp only [World.cell?, hh]; simp
      rw [h2] at h1
      simp only [List.getElem?_toArray, List.getElem?_map] at h1
      cases hm : had[off + j]? <;> rw [hm] at h1 <;> cases h1
  have hg : w.grownBy (w.setCell ⟨hb, k, none⟩ u) (some hb) := grown_cell u
  exact hg.cell h1 (by simp; omega)
/-- What came stays while the array is written. -/
theorem SeenIn.but {w : World} {p hb k : Nat} {s : St} {T : TypeId} {had : List Bool} {u : Value} (h : SeenIn w p s) (hh : HadIn w hb T had) (hpq : p ≠ hb) : SeenIn (w.setCell ⟨hb, k, none⟩ u) p s := by
  have hlt := h.lt
  have hg : w.grownBy (w.setCell ⟨hb, k, none⟩ u) (some hb) := grown_cell u
  obtain ⟨v, h1, h2, A, c, h3, h4, h5, h6, h7⟩ := h
  exact ⟨v, h1, (hg.block p hlt (by simp; omega)).trans h2, A, c, h3, h4, h5, (rd_had h6 hh).more hg.size, h7⟩
end Go.Proofs.Ytoglpjgmnojdjaa.Sp
