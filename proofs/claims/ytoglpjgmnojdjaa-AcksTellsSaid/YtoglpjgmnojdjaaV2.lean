/- TrailingZeros at four numbers; a number laid as bytes. Conditions: as each theorem lists them. -/
import Derived.Test.YtoglpjgmnojdjaaV1
import Derived.OwnWalk
import Derived.WalkSpells
import Derived.Maps.AppendAt
import Derived.Below
set_option linter.unusedSimpArgs false
set_option linter.unusedVariables false
namespace Go.Proofs.Ytoglpjgmnojdjaa
open Go Go.RowKit

structure Tabs (w : World) : Prop where
  c0 : w.cell? ⟨1, 0, none⟩ = some (.int .u8 0)
  c1 : w.cell? ⟨1, 1, none⟩ = some (.int .u8 1)
  c3 : w.cell? ⟨1, 3, none⟩ = some (.int .u8 2)
  c7 : w.cell? ⟨1, 7, none⟩ = some (.int .u8 3)

/-- The number that is laid: the length's mark in front. -/
def laidN (n : Int) : Nat := match wid n with
  | 1 => n.toNat
  | 2 => n.toNat + 2 ^ 14
  | 4 => n.toNat + 2 ^ 31
  | _ => n.toNat + 3 * 2 ^ 62

/-- Its bytes, the highest first. -/
def encI (n : Int) : List Int := (List.range (wid n)).map fun j => ((laidN n / 2 ^ (8 * (wid n - 1 - j)) % 256 : Nat) : Int)


/-- The k-th byte from the end of a number's bytes. -/
def byt (L k : Nat) : Int := (L : Int) / 2 ^ (8 * k) % 256
def encL (W L : Nat) : List Value := (List.range W).map fun j => .int .u8 (byt L (W - 1 - j))
theorem encL_snoc (W L k : Nat) (h : k + 1 ≤ W) (xs : List Value) :
    (xs ++ (List.range (W - (k + 1))).map fun j => Value.int .u8 (byt L (W - 1 - j))) ++ [.int .u8 (byt L k)] = xs ++ (List.range (W - k)).map fun j => Value.int .u8 (byt L (W - 1 - j)) := by
  rw [show W - k = (W - (k + 1)) + 1 by omega, List.range_succ, List.map_append, List.append_assoc]
  congr 3
  simp only [List.map_cons, List.map_nil]
  rw [show W - 1 - (W - (k + 1)) = k by omega]

end Go.Proofs.Ytoglpjgmnojdjaa
