/-
  No cell of these rows narrows 'for every input' (looked for: loops, veiled, ifaces, maps, wideKeys, modest, calm, conditions, laid).
  DERIVED. THE GIVEN ROWS OF THIS SEAT. 5 by the template 'for every input the law returns true; each argument reads behind the call as it read before'; 0 by the template 'total and deterministic' (their statements: YtkcdemdgnleckaaTotals.lean).
  GIVEN WITH THE SEED: the statements are not yours to turn. If you find one false, say at which input.
  Laid BY PROGRAM, IN A SANDBOX (cutbox-rows.mjs): the forced cells as the released guide's own fill.sh prints them over the translation ea7663361a0d5610… (all of the seat's roots in one cut). By AI agents, Wed Nov 11 2026. No macro, syntax, notation, axiom, sorry.
-/
import Derived.Test.YtkcdemdgnleckaaChecked
import GoSem.Claim
import GoSem.ClaimJoined
import GoSem.ClaimMapViews
import Derived.JoinedTies
import Derived.KernelRfl
namespace Go.Proofs.Ytkcdemdgnleckaa
/- THE CELL 'sum', in the pinned program and in every row, IS THE sha256 OF THE DUMP (.gsa) THAT YtkcdemdgnleckaaProg.lean LOADS. Nothing in Lean hashes anything: it is a label: what it is worth is what the hold of that sum in a sandbox is worth. -/
noncomputable def Try.pinned : Pinned := { name := "ytkcdemdgnleckaa", sum := "ea7663361a0d5610191cc8472a97a6eb21a7eaeb27875b122794e7f3bae34143", checked := Try.checked }
namespace Rows
def none {H : Type} : Left H := { results := [], args := [] }

/-- 'argosylaw8.RttKnown': WHATEVER THE INPUT: true; the input reads as it did. -/
def rttKnownSpec : ChangeSpec := { name := "rttKnown", fn := fun _ => fun
  | [] => { results := [.lit (.bool true)], args := [] }
  | _ => none }
def rttKnownRow : OpenClaim := { program := "ytkcdemdgnleckaa", sum := "ea7663361a0d5610191cc8472a97a6eb21a7eaeb27875b122794e7f3bae34143", func := "argosy/argosylaw8.RttKnown", spec := "rttKnown", apart := false }
def RttKnownSaid : Prop := rttKnownRow.holds Try.pinned (OpenSpec.ofChange rttKnownSpec)

/-- ITS FALSE NEIGHBOUR: 'it returns false'. Refute it at one input. -/
def rttKnownWrong : ChangeSpec := { name := "rttKnown", fn := fun _ => fun
  | [] => { results := [.lit (.bool false)], args := [] }
  | _ => none }
def RttKnownWrongFalsely : Prop := rttKnownRow.holds Try.pinned (OpenSpec.ofChange rttKnownWrong)

/-- 'argosylaw8.RttTells': WHATEVER THE INPUT: true; the input reads as it did. -/
def rttTellsSpec : ChangeSpec := { name := "rttTells", fn := fun _ => fun
  | [d1, d2] => { results := [.lit (.bool true)], args := [d1, d2] }
  | _ => none }
def rttTellsRow : OpenClaim := { program := "ytkcdemdgnleckaa", sum := "ea7663361a0d5610191cc8472a97a6eb21a7eaeb27875b122794e7f3bae34143", func := "argosy/argosylaw8.RttTells", spec := "rttTells", apart := false }
def RttTellsSaid : Prop := rttTellsRow.holds Try.pinned (OpenSpec.ofChange rttTellsSpec)

/-- ITS FALSE NEIGHBOUR: 'it returns false'. Refute it at one input. -/
def rttTellsWrong : ChangeSpec := { name := "rttTells", fn := fun _ => fun
  | [d1, d2] => { results := [.lit (.bool false)], args := [d1, d2] }
  | _ => none }
def RttTellsWrongFalsely : Prop := rttTellsRow.holds Try.pinned (OpenSpec.ofChange rttTellsWrong)

/-- 'argosylaw8.RttSteady': WHATEVER THE INPUT: true; the input reads as it did. -/
def rttSteadySpec : ChangeSpec := { name := "rttSteady", fn := fun _ => fun
  | [d1, d2, d3] => { results := [.lit (.bool true)], args := [d1, d2, d3] }
  | _ => none }
def rttSteadyRow : OpenClaim := { program := "ytkcdemdgnleckaa", sum := "ea7663361a0d5610191cc8472a97a6eb21a7eaeb27875b122794e7f3bae34143", func := "argosy/argosylaw8.RttSteady", spec := "rttSteady", apart := false }
def RttSteadySaid : Prop := rttSteadyRow.holds Try.pinned (OpenSpec.ofChange rttSteadySpec)

/-- ITS FALSE NEIGHBOUR: 'it returns false'. Refute it at one input. -/
def rttSteadyWrong : ChangeSpec := { name := "rttSteady", fn := fun _ => fun
  | [d1, d2, d3] => { results := [.lit (.bool false)], args := [d1, d2, d3] }
  | _ => none }
def RttSteadyWrongFalsely : Prop := rttSteadyRow.holds Try.pinned (OpenSpec.ofChange rttSteadyWrong)

/-- 'argosylaw8.RttGrows': WHATEVER THE INPUT: true; the input reads as it did. -/
def rttGrowsSpec : ChangeSpec := { name := "rttGrows", fn := fun _ => fun
  | [d1, d2, d3, d4] => { results := [.lit (.bool true)], args := [d1, d2, d3, d4] }
  | _ => none }
def rttGrowsRow : OpenClaim := { program := "ytkcdemdgnleckaa", sum := "ea7663361a0d5610191cc8472a97a6eb21a7eaeb27875b122794e7f3bae34143", func := "argosy/argosylaw8.RttGrows", spec := "rttGrows", apart := false }
def RttGrowsSaid : Prop := rttGrowsRow.holds Try.pinned (OpenSpec.ofChange rttGrowsSpec)

/-- ITS FALSE NEIGHBOUR: 'it returns false'. Refute it at one input. -/
def rttGrowsWrong : ChangeSpec := { name := "rttGrows", fn := fun _ => fun
  | [d1, d2, d3, d4] => { results := [.lit (.bool false)], args := [d1, d2, d3, d4] }
  | _ => none }
def RttGrowsWrongFalsely : Prop := rttGrowsRow.holds Try.pinned (OpenSpec.ofChange rttGrowsWrong)

/-- 'argosylaw8.RttBounds': WHATEVER THE INPUT: true; the input reads as it did. -/
def rttBoundsSpec : ChangeSpec := { name := "rttBounds", fn := fun _ => fun
  | [d1, d2] => { results := [.lit (.bool true)], args := [d1, d2] }
  | _ => none }
def rttBoundsRow : OpenClaim := { program := "ytkcdemdgnleckaa", sum := "ea7663361a0d5610191cc8472a97a6eb21a7eaeb27875b122794e7f3bae34143", func := "argosy/argosylaw8.RttBounds", spec := "rttBounds", apart := false }
def RttBoundsSaid : Prop := rttBoundsRow.holds Try.pinned (OpenSpec.ofChange rttBoundsSpec)

/-- ITS FALSE NEIGHBOUR: 'it returns false'. Refute it at one input. -/
def rttBoundsWrong : ChangeSpec := { name := "rttBounds", fn := fun _ => fun
  | [d1, d2] => { results := [.lit (.bool false)], args := [d1, d2] }
  | _ => none }
def RttBoundsWrongFalsely : Prop := rttBoundsRow.holds Try.pinned (OpenSpec.ofChange rttBoundsWrong)

/- THE SECOND FORM. 'bulk': how many values and letters a reading holds, each counted each time it is reached (what is shared counts as often as it is met; a slice's spare places count too). A statement '..UptoSaid' is the law's where the arguments, and the package variables that the reading takes, are together of bulk at most 1048576: NARROWER than '..Said'. Prove '..Said' where nothing that the law and all that it calls make is longer than what came in: it says more and counts as full. Else prove '..UptoSaid'. A law counts once. -/
mutual
def uptoBulk {H : Type} : DataW H → Nat
  | .lit (.string bytes) => bytes.length + 1
  | .lit _ => 1
  | .nil => 1
  | .ptr d => uptoBulk d + 1
  | .slice elems spare => uptoBulkAll elems + uptoBulkAll spare + 1
  | .agg parts => uptoBulkAll parts + 1
  | .iface _ d => uptoBulk d + 1
  | .map entries => uptoBulkEntries entries + 1
  | .held _ => 1
def uptoBulkAll {H : Type} : List (DataW H) → Nat
  | [] => 0
  | d :: r => uptoBulk d + uptoBulkAll r
def uptoBulkEntries {H : Type} : List (Lit × DataW H) → Nat
  | [] => 0
  | x :: r => uptoBulkEntry x + uptoBulkEntries r
def uptoBulkEntry {H : Type} : Lit × DataW H → Nat
  | (.string bytes, d) => bytes.length + uptoBulk d + 1
  | (_, d) => uptoBulk d + 1
 end
def uptoSmall : (H : Type) → List (DataW H) → Bool := fun _ ds => decide (uptoBulkAll ds ≤ 1048576)
def OpenSpec.upto (s : _root_.Go.ChangeSpec) : _root_.Go.OpenSpec := { _root_.Go.OpenSpec.ofChange s with cond := some uptoSmall }

/-- 'argosylaw8.RttKnown', WHERE WHAT IT READS IS OF BULK AT MOST 1048576: true; the input reads as it did. -/
def rttKnownUptoRow : OpenClaim := { program := "ytkcdemdgnleckaa", sum := "ea7663361a0d5610191cc8472a97a6eb21a7eaeb27875b122794e7f3bae34143", func := "argosy/argosylaw8.RttKnown", spec := "rttKnown", apart := false, narrowed := true }
def RttKnownUptoSaid : Prop := rttKnownUptoRow.holds Try.pinned (OpenSpec.upto rttKnownSpec)

/-- 'argosylaw8.RttTells', WHERE WHAT IT READS IS OF BULK AT MOST 1048576: true; the input reads as it did. -/
def rttTellsUptoRow : OpenClaim := { program := "ytkcdemdgnleckaa", sum := "ea7663361a0d5610191cc8472a97a6eb21a7eaeb27875b122794e7f3bae34143", func := "argosy/argosylaw8.RttTells", spec := "rttTells", apart := false, narrowed := true }
def RttTellsUptoSaid : Prop := rttTellsUptoRow.holds Try.pinned (OpenSpec.upto rttTellsSpec)

/-- 'argosylaw8.RttSteady', WHERE WHAT IT READS IS OF BULK AT MOST 1048576: true; the input reads as it did. -/
def rttSteadyUptoRow : OpenClaim := { program := "ytkcdemdgnleckaa", sum := "ea7663361a0d5610191cc8472a97a6eb21a7eaeb27875b122794e7f3bae34143", func := "argosy/argosylaw8.RttSteady", spec := "rttSteady", apart := false, narrowed := true }
def RttSteadyUptoSaid : Prop := rttSteadyUptoRow.holds Try.pinned (OpenSpec.upto rttSteadySpec)

/-- 'argosylaw8.RttGrows', WHERE WHAT IT READS IS OF BULK AT MOST 1048576: true; the input reads as it did. -/
def rttGrowsUptoRow : OpenClaim := { program := "ytkcdemdgnleckaa", sum := "ea7663361a0d5610191cc8472a97a6eb21a7eaeb27875b122794e7f3bae34143", func := "argosy/argosylaw8.RttGrows", spec := "rttGrows", apart := false, narrowed := true }
def RttGrowsUptoSaid : Prop := rttGrowsUptoRow.holds Try.pinned (OpenSpec.upto rttGrowsSpec)

/-- 'argosylaw8.RttBounds', WHERE WHAT IT READS IS OF BULK AT MOST 1048576: true; the input reads as it did. -/
def rttBoundsUptoRow : OpenClaim := { program := "ytkcdemdgnleckaa", sum := "ea7663361a0d5610191cc8472a97a6eb21a7eaeb27875b122794e7f3bae34143", func := "argosy/argosylaw8.RttBounds", spec := "rttBounds", apart := false, narrowed := true }
def RttBoundsUptoSaid : Prop := rttBoundsUptoRow.holds Try.pinned (OpenSpec.upto rttBoundsSpec)

end Rows
end Go.Proofs.Ytkcdemdgnleckaa
