/- A slice of bools as an argument. Conditions: as each theorem lists them. -/
import Derived.Test.YtoglpjgmnojdjaaOp
import Derived.Deep.Grids
set_option linter.unusedSimpArgs false
set_option linter.unusedVariables false
set_option maxRecDepth 100000
namespace Go.Proofs.Ytoglpjgmnojdjaa
open Go Go.RowKit Go.ChangeShapes Go.WideShapes Go.ChangeAt Go.WideMaps Go.WideElems

/-- A slice of bools, as an argument. -/
structure IsBools (W : World) (A : Option Addr) (cap : Nat) (l : List Bool) : Prop where
  rd : Rd W W.heap.size A l.length (l.map Value.bool)
  le : l.length ≤ cap
  big : cap ≤ maxLen

theorem open_boolsl {H : Type} {enc : TypeId × Value → H} {W : World} {base : Nat} {v : Value} {d : DataW H} {p : List MemPlace} (hval : Value.okWide Try.prog W .any base 59 v) (h : DataW.Trod enc Try.prog W 0 (fun _ => true) true 59 v d p) :
    ∃ A cap l, v = .slice A l.length cap ∧ IsBools W A cap l := by
  obtain ⟨a0, len0, cap0, rfl⟩ := okWide_slice Try.underlying59 hval
  obtain ⟨fuel, hf⟩ := h
  rcases Deep.open_bools Try.underlying59 Try.underlying4 (by kernel_rfl) hf with ⟨hcs, _⟩ | ⟨x, len, cap, B, hcs, _, hl, hm, _, hcell⟩
  · simp [Value.cells] at hcs
    obtain ⟨rfl, rfl, rfl⟩ := hcs
    exact ⟨none, 0, [], rfl, Rd.nil _ _ _, Nat.le_refl _, by unfold maxLen; omega⟩
  · simp [Value.cells] at hcs
    obtain ⟨rfl, rfl, rfl⟩ := hcs
    have hlen : ((List.range len0).map B).length = len0 := by simp
    refine ⟨some x, cap0, (List.range len0).map B, by rw [hlen], ⟨by rw [List.length_map], fun h0 => ?_⟩, by omega, hm⟩
    rw [hlen] at h0
    obtain ⟨b, off, spot⟩ := x
    have hc0 := hcell 0 (by omega)
    have hspot : spot = none := by simpa [Addr.add] using World.cell?_spot hc0
    subst hspot
    refine ⟨b, off, rfl, World.block_lt_of_cell? W _ hc0, fun j u hu => ?_⟩
    rw [List.getElem?_map, List.getElem?_map, Option.map_eq_some_iff] at hu
    obtain ⟨z, hz, rfl⟩ := hu
    rw [Option.map_eq_some_iff] at hz
    obtain ⟨i, hi, rfl⟩ := hz
    obtain ⟨hi1, hi2⟩ := List.getElem?_eq_some_iff.1 hi
    have hj : j < len0 := by simpa using hi1
    have : i = j := by simpa using hi2.symm
    subst this
    have := hcell i (by omega)
    rwa [Addr.add_lit] at this

/-- The bool at place k, or false. -/
theorem IsBools.get {W : World} {A : Option Addr} {cap : Nat} {l : List Bool} (h : IsBools W A cap l) (k : Nat) (hk : k < l.length) : ∃ b off, A = some ⟨b, off, none⟩ ∧ b < W.heap.size ∧ W.cell? ⟨b, off + k, none⟩ = some (.bool (l.getD k false)) := by
  obtain ⟨b, off, e, hlt, hc⟩ := h.rd.2 (by omega)
  refine ⟨b, off, e, hlt, hc k _ ?_⟩
  simp [List.getD, hk]
end Go.Proofs.Ytoglpjgmnojdjaa
