/- A map of numbers to true: put, delete, length. Conditions: as each theorem lists them. -/
import Derived.Test.YtebfjphmlggacaaJPa
import Derived.Maps.OwnSet
import Derived.Maps.OwnOps
set_option linter.unusedSimpArgs false
set_option linter.unusedVariables false

namespace Go.Proofs.Ytebfjphmlggacaa.Pa
open Go Go.RowKit Go.Proofs.Ytebfjphmlggacaa Go.Proofs.Ytebfjphmlggacaa.Sp Go.Maps

theorem lawI : Keyed Try.prog 3 := int_keyed Try.underlying3
theorem wfN {i : Nat} (h : i ≤ 1800000000000) : (Lit.int .i64 (i : Int)).wf = true := by
  have h1 : IntKind.i64.min = -9223372036854775808 := by rfl
  have h2 : IntKind.i64.max = 9223372036854775807 := by rfl
  simp only [Lit.wf, h1, h2]
  simp
  omega

/-- The map has these numbers, no other one; it was written m times at most. -/
def ToldB (w : World) (b m : Nat) (tn : List Nat) : Prop :=
  ∃ D : DataW Unit, w.ownsMap Try.prog 3 (plainElem Try.prog 4) b m D ∧ Maps.size D = tn.length ∧ ∀ i : Nat, Maps.has D (.int .i64 (i : Int)) = decide (i ∈ tn)
theorem ToldB.same {w w' : World} {b m : Nat} {tn : List Nat} (h : ToldB w b m tn) (he : w'.heap[b]? = w.heap[b]?) : ToldB w' b m tn := by
  obtain ⟨D, ⟨es, clock, hb, r⟩, h2⟩ := h
  exact ⟨D, ⟨es, clock, he.trans hb, r⟩, h2⟩
theorem ToldB.lt {w : World} {b m : Nat} {tn : List Nat} (h : ToldB w b m tn) : b < w.heap.size := by
  obtain ⟨D, h1, _⟩ := h
  exact h1.lt
theorem ToldB.isMap {w : World} {b m : Nat} {tn : List Nat} (h : ToldB w b m tn) : ∃ es clock, w.heap[b]? = some (.map es clock) := by
  obtain ⟨D, ⟨es, clock, hb, _⟩, _⟩ := h
  exact ⟨es, clock, hb⟩
theorem ToldB.keep {w w' : World} {b m : Nat} {tn : List Nat} (h : ToldB w b m tn) (hb : Below w.heap.size w w') : ToldB w' b m tn := h.same (hb.block b h.lt)
theorem ToldB.moved {w w' : World} {b lo p m : Nat} {tn : List Nat} (h : ToldB w b m tn) (hm : Ld.Moved lo p w w') (hp : b ≠ p) : ToldB w' b m tn :=
  h.same (hm.kept b h.lt hp fun row e => by
    obtain ⟨es, clock, hb⟩ := h.isMap
    rw [hb] at e
    simp at e)
theorem ToldB.grown {w w' : World} {b p m : Nat} {tn : List Nat} (h : ToldB w b m tn) (hg : w.grownBy w' (some p)) (hp : b ≠ p) : ToldB w' b m tn := h.same (hg.block b h.lt (by simpa using hp))
theorem ToldB.new (w : World) : ToldB (w.alloc (.map #[] 0)) w.heap.size 0 [] :=
  ⟨.map [], World.ownsMap_made _ _ _ _, rfl, fun i => rfl⟩
theorem ToldB.len {w : World} {b m : Nat} {tn : List Nat} (h : ToldB w b m tn) (ty : TypeId) : (Builtin.len_ #[54] ty #[.map (some b)]).run Try.prog w = .ok (.int .i64 (tn.length : Int)) w := by
  obtain ⟨D, h1, h2, _⟩ := h
  rw [h1.len Try.underlying54 ty, h2]
theorem ToldB.put {w : World} {b m : Nat} {tn : List Nat} (h : ToldB w b m tn) (i : Nat) (hi : i ≤ 1800000000000) (hn : i ∉ tn) (hm : m ≤ 1800000000000) : ∃ w', (Instr.mapUpdate 54 (.map (some b)) (.int .i64 (i : Int)) (.bool true)).run Try.prog w = .ok () w' ∧ ToldB w' b (m + 1) (tn ++ [i]) ∧ w.grownBy w' (some b) := by
  obtain ⟨D, h1, h2, h4⟩ := h
  obtain ⟨w', hrun, ho, hg⟩ := h1.update lawI Try.underlying54 (by unfold maxLen; omega) (keyOf_int_mk Try.underlying3 (wfN hi)) (show plainElem (H := Unit) Try.prog 4 (.bool true) = some (.lit (.bool true), []) by simp [plainElem, Try.underlying4])
  refine ⟨w', hrun, ⟨_, ho, ?_, fun j => ?_⟩, hg⟩
  · rw [size_put (h1.tidy lawI), h4, decide_eq_false hn, List.length_append, h2]; rfl
  · by_cases hj : j = i
    · subst hj
      rw [has_put_same (k := Lit.int .i64 (j : Int)) h1.isMap trivial]
      simp
    · rw [has_put_other (by simp; omega), h4]
      have : (j ∈ tn ++ [i]) ↔ j ∈ tn := by simp [hj]
      simp only [this]
theorem len_erase {l : List Nat} (i : Nat) (hn : l.Nodup) : (l.erase i).length + (if i ∈ l then 1 else 0) = l.length := by
  by_cases h : i ∈ l
  · have := List.length_erase_of_mem h
    have hp : 0 < l.length := List.length_pos_of_mem h
    simp [h]; omega
  · simp [h, List.erase_of_not_mem h]
theorem ToldB.del {w : World} {b m : Nat} {tn : List Nat} (h : ToldB w b m tn) (hnd : tn.Nodup) (i : Nat) (hi : i ≤ 1800000000000) (ty : TypeId) : ∃ w', (Builtin.delete_ #[54, 3] ty #[.map (some b), .int .i64 (i : Int)]).run Try.prog w = .ok (.tuple #[]) w' ∧ ToldB w' b m (tn.erase i) ∧ w.grownBy w' (some b) := by
  obtain ⟨D, h1, h2, h4⟩ := h
  obtain ⟨w', hrun, ho, hg⟩ := h1.drop lawI Try.underlying54 (keyOf_int_mk Try.underlying3 (wfN hi)) ty
  refine ⟨w', hrun, ⟨_, ho, ?_, fun j => ?_⟩, hg.grown⟩
  · have e1 := size_del (k := Lit.int .i64 (i : Int)) (h1.tidy lawI)
    have e2 := len_erase i hnd
    rw [h4] at e1
    by_cases hm : i ∈ tn <;> simp [hm] at e1 e2 ⊢ <;> omega
  · by_cases hj : j = i
    · subst hj
      rw [has_del_same]
      simp [hnd.not_mem_erase]
    · rw [has_del_other (by simp; omega), h4]
      have : (j ∈ tn.erase i) ↔ j ∈ tn := List.mem_erase_of_ne hj
      simp only [this]
end Go.Proofs.Ytebfjphmlggacaa.Pa
