/-
  No cell of these rows narrows 'for every input' (looked for: loops, veiled, ifaces, maps, wideKeys, modest, calm, conditions, laid).
  DERIVED. THE GIVEN ROWS OF THIS SEAT. 6 by the template 'for every input the law returns true; each argument reads behind the call as it read before'; 0 by the template 'total and deterministic' (their statements: YtmdmkjkdfagcfaaTotals.lean).
  GIVEN WITH THE SEED: the statements are not yours to turn. If you find one false, say at which input.
  Laid BY PROGRAM, IN A SANDBOX (cutbox-rows.mjs): the forced cells as the released guide's own fill.sh prints them over the translation 6f6b1d50a6baf78b… (all of the seat's roots in one cut). By AI agents, Wed Nov 11 2026. No macro, syntax, notation, axiom, sorry.
-/
import Derived.Test.YtmdmkjkdfagcfaaChecked
import GoSem.Claim
import GoSem.ClaimJoined
import GoSem.ClaimMapViews
import Derived.JoinedTies
import Derived.KernelRfl
namespace Go.Proofs.Ytmdmkjkdfagcfaa
/- THE CELL 'sum', in the pinned program and in every row, IS THE sha256 OF THE DUMP (.gsa) THAT YtmdmkjkdfagcfaaProg.lean LOADS. Nothing in Lean hashes anything: it is a label: what it is worth is what the hold of that sum in a sandbox is worth. -/
noncomputable def Try.pinned : Pinned := { name := "ytmdmkjkdfagcfaa", sum := "6f6b1d50a6baf78ba679b391e8ab0b2f02c8039a20359dc27bad3ca1c07145f0", checked := Try.checked }
namespace Rows
def none {H : Type} : Left H := { results := [], args := [] }

/-- 'argosylaw2.PnumKnown': WHATEVER THE INPUT: true; the input reads as it did. -/
def pnumKnownSpec : ChangeSpec := { name := "pnumKnown", fn := fun _ => fun
  | [] => { results := [.lit (.bool true)], args := [] }
  | _ => none }
def pnumKnownRow : OpenClaim := { program := "ytmdmkjkdfagcfaa", sum := "6f6b1d50a6baf78ba679b391e8ab0b2f02c8039a20359dc27bad3ca1c07145f0", func := "argosy/argosylaw2.PnumKnown", spec := "pnumKnown", apart := false }
def PnumKnownSaid : Prop := pnumKnownRow.holds Try.pinned (OpenSpec.ofChange pnumKnownSpec)

/-- ITS FALSE NEIGHBOUR: 'it returns false'. Refute it at one input. -/
def pnumKnownWrong : ChangeSpec := { name := "pnumKnown", fn := fun _ => fun
  | [] => { results := [.lit (.bool false)], args := [] }
  | _ => none }
def PnumKnownWrongFalsely : Prop := pnumKnownRow.holds Try.pinned (OpenSpec.ofChange pnumKnownWrong)

/-- 'argosylaw2.PnumTells': WHATEVER THE INPUT: true; the input reads as it did. -/
def pnumTellsSpec : ChangeSpec := { name := "pnumTells", fn := fun _ => fun
  | [d1, d2, d3, d4, d5, d6] => { results := [.lit (.bool true)], args := [d1, d2, d3, d4, d5, d6] }
  | _ => none }
def pnumTellsRow : OpenClaim := { program := "ytmdmkjkdfagcfaa", sum := "6f6b1d50a6baf78ba679b391e8ab0b2f02c8039a20359dc27bad3ca1c07145f0", func := "argosy/argosylaw2.PnumTells", spec := "pnumTells", apart := false }
def PnumTellsSaid : Prop := pnumTellsRow.holds Try.pinned (OpenSpec.ofChange pnumTellsSpec)

/-- ITS FALSE NEIGHBOUR: 'it returns false'. Refute it at one input. -/
def pnumTellsWrong : ChangeSpec := { name := "pnumTells", fn := fun _ => fun
  | [d1, d2, d3, d4, d5, d6] => { results := [.lit (.bool false)], args := [d1, d2, d3, d4, d5, d6] }
  | _ => none }
def PnumTellsWrongFalsely : Prop := pnumTellsRow.holds Try.pinned (OpenSpec.ofChange pnumTellsWrong)

/-- 'argosylaw2.PnumBack': WHATEVER THE INPUT: true; the input reads as it did. -/
def pnumBackSpec : ChangeSpec := { name := "pnumBack", fn := fun _ => fun
  | [d1, d2, d3, d4, d5] => { results := [.lit (.bool true)], args := [d1, d2, d3, d4, d5] }
  | _ => none }
def pnumBackRow : OpenClaim := { program := "ytmdmkjkdfagcfaa", sum := "6f6b1d50a6baf78ba679b391e8ab0b2f02c8039a20359dc27bad3ca1c07145f0", func := "argosy/argosylaw2.PnumBack", spec := "pnumBack", apart := false }
def PnumBackSaid : Prop := pnumBackRow.holds Try.pinned (OpenSpec.ofChange pnumBackSpec)

/-- ITS FALSE NEIGHBOUR: 'it returns false'. Refute it at one input. -/
def pnumBackWrong : ChangeSpec := { name := "pnumBack", fn := fun _ => fun
  | [d1, d2, d3, d4, d5] => { results := [.lit (.bool false)], args := [d1, d2, d3, d4, d5] }
  | _ => none }
def PnumBackWrongFalsely : Prop := pnumBackRow.holds Try.pinned (OpenSpec.ofChange pnumBackWrong)

/-- 'argosylaw2.PnumNearest': WHATEVER THE INPUT: true; the input reads as it did. -/
def pnumNearestSpec : ChangeSpec := { name := "pnumNearest", fn := fun _ => fun
  | [d1, d2, d3, d4] => { results := [.lit (.bool true)], args := [d1, d2, d3, d4] }
  | _ => none }
def pnumNearestRow : OpenClaim := { program := "ytmdmkjkdfagcfaa", sum := "6f6b1d50a6baf78ba679b391e8ab0b2f02c8039a20359dc27bad3ca1c07145f0", func := "argosy/argosylaw2.PnumNearest", spec := "pnumNearest", apart := false }
def PnumNearestSaid : Prop := pnumNearestRow.holds Try.pinned (OpenSpec.ofChange pnumNearestSpec)

/-- ITS FALSE NEIGHBOUR: 'it returns false'. Refute it at one input. -/
def pnumNearestWrong : ChangeSpec := { name := "pnumNearest", fn := fun _ => fun
  | [d1, d2, d3, d4] => { results := [.lit (.bool false)], args := [d1, d2, d3, d4] }
  | _ => none }
def PnumNearestWrongFalsely : Prop := pnumNearestRow.holds Try.pinned (OpenSpec.ofChange pnumNearestWrong)

/-- 'argosylaw2.PnumMonotone': WHATEVER THE INPUT: true; the input reads as it did. -/
def pnumMonotoneSpec : ChangeSpec := { name := "pnumMonotone", fn := fun _ => fun
  | [d1, d2, d3, d4, d5, d6] => { results := [.lit (.bool true)], args := [d1, d2, d3, d4, d5, d6] }
  | _ => none }
def pnumMonotoneRow : OpenClaim := { program := "ytmdmkjkdfagcfaa", sum := "6f6b1d50a6baf78ba679b391e8ab0b2f02c8039a20359dc27bad3ca1c07145f0", func := "argosy/argosylaw2.PnumMonotone", spec := "pnumMonotone", apart := false }
def PnumMonotoneSaid : Prop := pnumMonotoneRow.holds Try.pinned (OpenSpec.ofChange pnumMonotoneSpec)

/-- ITS FALSE NEIGHBOUR: 'it returns false'. Refute it at one input. -/
def pnumMonotoneWrong : ChangeSpec := { name := "pnumMonotone", fn := fun _ => fun
  | [d1, d2, d3, d4, d5, d6] => { results := [.lit (.bool false)], args := [d1, d2, d3, d4, d5, d6] }
  | _ => none }
def PnumMonotoneWrongFalsely : Prop := pnumMonotoneRow.holds Try.pinned (OpenSpec.ofChange pnumMonotoneWrong)

/-- 'argosylaw2.PnumStays': WHATEVER THE INPUT: true; the input reads as it did. -/
def pnumStaysSpec : ChangeSpec := { name := "pnumStays", fn := fun _ => fun
  | [d1, d2, d3] => { results := [.lit (.bool true)], args := [d1, d2, d3] }
  | _ => none }
def pnumStaysRow : OpenClaim := { program := "ytmdmkjkdfagcfaa", sum := "6f6b1d50a6baf78ba679b391e8ab0b2f02c8039a20359dc27bad3ca1c07145f0", func := "argosy/argosylaw2.PnumStays", spec := "pnumStays", apart := false }
def PnumStaysSaid : Prop := pnumStaysRow.holds Try.pinned (OpenSpec.ofChange pnumStaysSpec)

/-- ITS FALSE NEIGHBOUR: 'it returns false'. Refute it at one input. -/
def pnumStaysWrong : ChangeSpec := { name := "pnumStays", fn := fun _ => fun
  | [d1, d2, d3] => { results := [.lit (.bool false)], args := [d1, d2, d3] }
  | _ => none }
def PnumStaysWrongFalsely : Prop := pnumStaysRow.holds Try.pinned (OpenSpec.ofChange pnumStaysWrong)

/- THE SECOND FORM. 'bulk': how many values and letters a reading holds, each counted each time it is reached (what is shared counts as often as it is met; a slice's spare places count too). A statement '..UptoSaid' is the law's where the arguments, and the package variables that the reading takes, are together of bulk at most 1048576: NARROWER than '..Said'. Prove '..Said' where nothing that the law and all that it calls make is longer than what came in: it says more and counts as full. Else prove '..UptoSaid'. A law counts once. -/
mutual
def uptoBulk {H : Type} : DataW H → Nat
  | .lit (.string bytes) => bytes.length + 1
  | .lit _ => 1
  | .nil => 1
  | .ptr d => uptoBulk d + 1
  | .slice elems spare => uptoBulkAll elems + uptoBulkAll spare + 1
  | .agg parts => uptoBulkAll parts + 1
  | .iface _ d => uptoBulk d + 1
  | .map entries => uptoBulkEntries entries + 1
  | .held _ => 1
def uptoBulkAll {H : Type} : List (DataW H) → Nat
  | [] => 0
  | d :: r => uptoBulk d + uptoBulkAll r
def uptoBulkEntries {H : Type} : List (Lit × DataW H) → Nat
  | [] => 0
  | x :: r => uptoBulkEntry x + uptoBulkEntries r
def uptoBulkEntry {H : Type} : Lit × DataW H → Nat
  | (.string bytes, d) => bytes.length + uptoBulk d + 1
  | (_, d) => uptoBulk d + 1
 end
def uptoSmall : (H : Type) → List (DataW H) → Bool := fun _ ds => decide (uptoBulkAll ds ≤ 1048576)
def OpenSpec.upto (s : _root_.Go.ChangeSpec) : _root_.Go.OpenSpec := { _root_.Go.OpenSpec.ofChange s with cond := some uptoSmall }

/-- 'argosylaw2.PnumKnown', WHERE WHAT IT READS IS OF BULK AT MOST 1048576: true; the input reads as it did. -/
def pnumKnownUptoRow : OpenClaim := { program := "ytmdmkjkdfagcfaa", sum := "6f6b1d50a6baf78ba679b391e8ab0b2f02c8039a20359dc27bad3ca1c07145f0", func := "argosy/argosylaw2.PnumKnown", spec := "pnumKnown", apart := false, narrowed := true }
def PnumKnownUptoSaid : Prop := pnumKnownUptoRow.holds Try.pinned (OpenSpec.upto pnumKnownSpec)

/-- 'argosylaw2.PnumTells', WHERE WHAT IT READS IS OF BULK AT MOST 1048576: true; the input reads as it did. -/
def pnumTellsUptoRow : OpenClaim := { program := "ytmdmkjkdfagcfaa", sum := "6f6b1d50a6baf78ba679b391e8ab0b2f02c8039a20359dc27bad3ca1c07145f0", func := "argosy/argosylaw2.PnumTells", spec := "pnumTells", apart := false, narrowed := true }
def PnumTellsUptoSaid : Prop := pnumTellsUptoRow.holds Try.pinned (OpenSpec.upto pnumTellsSpec)

/-- 'argosylaw2.PnumBack', WHERE WHAT IT READS IS OF BULK AT MOST 1048576: true; the input reads as it did. -/
def pnumBackUptoRow : OpenClaim := { program := "ytmdmkjkdfagcfaa", sum := "6f6b1d50a6baf78ba679b391e8ab0b2f02c8039a20359dc27bad3ca1c07145f0", func := "argosy/argosylaw2.PnumBack", spec := "pnumBack", apart := false, narrowed := true }
def PnumBackUptoSaid : Prop := pnumBackUptoRow.holds Try.pinned (OpenSpec.upto pnumBackSpec)

/-- 'argosylaw2.PnumNearest', WHERE WHAT IT READS IS OF BULK AT MOST 1048576: true; the input reads as it did. -/
def pnumNearestUptoRow : OpenClaim := { program := "ytmdmkjkdfagcfaa", sum := "6f6b1d50a6baf78ba679b391e8ab0b2f02c8039a20359dc27bad3ca1c07145f0", func := "argosy/argosylaw2.PnumNearest", spec := "pnumNearest", apart := false, narrowed := true }
def PnumNearestUptoSaid : Prop := pnumNearestUptoRow.holds Try.pinned (OpenSpec.upto pnumNearestSpec)

/-- 'argosylaw2.PnumMonotone', WHERE WHAT IT READS IS OF BULK AT MOST 1048576: true; the input reads as it did. -/
def pnumMonotoneUptoRow : OpenClaim := { program := "ytmdmkjkdfagcfaa", sum := "6f6b1d50a6baf78ba679b391e8ab0b2f02c8039a20359dc27bad3ca1c07145f0", func := "argosy/argosylaw2.PnumMonotone", spec := "pnumMonotone", apart := false, narrowed := true }
def PnumMonotoneUptoSaid : Prop := pnumMonotoneUptoRow.holds Try.pinned (OpenSpec.upto pnumMonotoneSpec)

/-- 'argosylaw2.PnumStays', WHERE WHAT IT READS IS OF BULK AT MOST 1048576: true; the input reads as it did. -/
def pnumStaysUptoRow : OpenClaim := { program := "ytmdmkjkdfagcfaa", sum := "6f6b1d50a6baf78ba679b391e8ab0b2f02c8039a20359dc27bad3ca1c07145f0", func := "argosy/argosylaw2.PnumStays", spec := "pnumStays", apart := false, narrowed := true }
def PnumStaysUptoSaid : Prop := pnumStaysUptoRow.holds Try.pinned (OpenSpec.upto pnumStaysSpec)

end Rows
end Go.Proofs.Ytmdmkjkdfagcfaa
