/- What the statements of chapter 1 share: the two listed tables of math/bits, and the abstract memory as a call begins. Conditions: the tables read as listed. -/
import Derived.Test.YtoglpjgmnojdjaaDoorJ2
import Derived.Stop.LaidErr
import Derived.Test.YtoglpjgmnojdjaaDoorRows
import Derived.Test.YtoglpjgmnojdjaaDoorCards
import Derived.Test.YtoglpjgmnojdjaaDoorTie
set_option linter.unusedSimpArgs false
set_option linter.unusedVariables false

namespace Go.Proofs.YtoglpjgmnojdjaaDoor
open Go Go.RowKit Go.ChangeShapes Go.WideShapes Go.ChangeAt Go.WideMaps Go.WideElems

def tab32 : List Int := [0, 1, 28, 2, 29, 14, 24, 3, 30, 22, 20, 15, 25, 17, 4, 8, 31, 27, 13, 23, 21, 19, 16, 7, 26, 12, 18, 6, 11, 5, 10, 9]
def tab64 : List Int := [0, 1, 56, 2, 57, 49, 28, 3, 61, 58, 42, 50, 38, 29, 17, 4, 62, 47, 59, 36, 45, 43, 51, 22, 53, 39, 33, 30, 24, 18, 12, 5, 63, 55, 48, 27, 60, 41, 37, 16, 46, 35, 44, 21, 52, 32, 23, 11, 54, 26, 40, 15, 34, 20, 31, 10, 25, 14, 19, 9, 13, 8, 7, 6]
def laids : List (String × DataW Unit) := [("math/bits.deBruijn32tab", Rows.laid_math_bits_deBruijn32tab), ("math/bits.deBruijn64tab", Rows.laid_math_bits_deBruijn64tab)]
def start : Am.St := ((Am.St.start 2).tab 0 (tab32.map (Value.int .u8))).tab 1 (tab64.map (Value.int .u8))

theorem own : ownKnob Tryd.prog.godebug = none := by kernel_rfl
theorem laidOut : laidOutB Tryd.prog = true := by kernel_rfl

theorem door_met (os : Os) (args : Array Value) : laidMetH Tryd.prog laids ((World.doorLaid Tryd.prog 400 os).forCall (fun _ _ => 0) ⟨#[], args, []⟩).memory :=
  by
  rw [MakeChecks.laidMetH_plain _ _ _ (by kernel_rfl)]
  exact laidMet_of_run' 8 (by kernel_rfl) (by kernel_rfl)

/-- The tables' cells. -/
theorem tabs {W : World} (h : laidMetH Tryd.prog laids W) : Lib.TabIs Tryd.prog W "math/bits.deBruijn32tab" .u8 tab32 ∧ Lib.TabIs Tryd.prog W "math/bits.deBruijn64tab" .u8 tab64 := by
  rw [MakeChecks.laidMetH_plain _ _ _ (by kernel_rfl)] at h
  refine ⟨Lib.tabIs_of_head (g := 0) (t := 130) (e := 5) (n := 32) (rest := [("math/bits.deBruijn64tab", Rows.laid_math_bits_deBruijn64tab)]) (by kernel_rfl) (by kernel_rfl) (by kernel_rfl) (by kernel_rfl) (by kernel_rfl) (by kernel_rfl) h, ?_⟩
  have h2 : laidMet Tryd.prog [("math/bits.deBruijn64tab", Rows.laid_math_bits_deBruijn64tab)] W := laidMet.tail h
  exact Lib.tabIs_of_head (g := 1) (t := 131) (e := 5) (n := 64) (rest := []) (by kernel_rfl) (by kernel_rfl) (by kernel_rfl) (by kernel_rfl) (by kernel_rfl) (by kernel_rfl) h2

theorem start_rel' {W0 W : World} (h : laidMetH Tryd.prog laids W0) (hb : Below W0.heap.size W0 W) : Am.Rel 2 W ⟨2, fun b => (b, 0), Am.cellsAt W, fun _ => 1⟩ ⟨fun _ => none, fun _ => 0⟩ start W := by
  obtain ⟨h1, h2⟩ := tabs h
  have d1 := fun i hi => h1.cell (g := 0) (by kernel_rfl) i hi
  have d2 := fun i hi => h2.cell (g := 1) (by kernel_rfl) i hi
  have hz0 : 2 ≤ W0.heap.size := by
    have := World.block_lt_of_cell? W0 _ (d2 0 (by decide))
    exact this
  have hz : 2 ≤ W.heap.size := Nat.le_trans hz0 hb.size
  have c1 := fun i hi => (hb.cell (p := ⟨0, i, none⟩) (show 0 < W0.heap.size by omega)).trans (d1 i hi)
  have c2 := fun i hi => (hb.cell (p := ⟨1, i, none⟩) (show 1 < W0.heap.size by omega)).trans (d2 i hi)
  have key : ∀ (zs : List Int) (g : Nat), (∀ i, i < zs.length → W.cell? ⟨g, i, none⟩ = some (.int .u8 (zs.getD i 0))) → ∀ (j : Nat) (v : Value), (zs.map (Value.int .u8))[j]? = some v → W.cell? ⟨g, j, none⟩ = some v ∧ Am.af 8 v = true := fun zs g hc j v hv => by
    rw [List.getElem?_map, Option.map_eq_some_iff] at hv
    obtain ⟨z, hz, rfl⟩ := hv
    have hj := (List.getElem?_eq_some_iff.1 hz).1
    refine ⟨?_, rfl⟩
    rw [hc j hj]
    simp [List.getD, hz]
  exact ((Am.Rel.start 2 W hz).tab (by decide) (by decide) (by decide) rfl (fun _ => rfl) rfl (key tab32 0 c1) (by decide)).tab (by decide) (by decide) (by decide) rfl (fun _ => rfl) rfl (key tab64 1 c2) (by decide)

theorem start_rel {W : World} (h : laidMetH Tryd.prog laids W) : Am.Rel 2 W ⟨2, fun b => (b, 0), Am.cellsAt W, fun _ => 1⟩ ⟨fun _ => none, fun _ => 0⟩ start W := start_rel' h (Below.refl _ _)

end Go.Proofs.YtoglpjgmnojdjaaDoor
