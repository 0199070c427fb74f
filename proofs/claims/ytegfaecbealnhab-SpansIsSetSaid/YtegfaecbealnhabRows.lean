/-
  No cell of these rows narrows 'for every input' (looked for: loops, veiled, ifaces, maps, wideKeys, modest, calm, conditions, laid).
  DERIVED. THE GIVEN ROWS OF THIS SEAT. 12 by the template 'for every input the law returns true; each argument reads behind the call as it read before'; 0 by the template 'total and deterministic' (their statements: YtegfaecbealnhabTotals.lean).
  GIVEN WITH THE SEED: the statements are not yours to turn. If you find one false, say at which input.
  Laid BY PROGRAM, IN A SANDBOX (cutbox-rows.mjs): the forced cells as the released guide's own fill.sh prints them over the translation 59c23c2f143365bb… (all of the seat's roots in one cut). By AI agents, Wed Nov 11 2026. No macro, syntax, notation, axiom, sorry.
-/
import Derived.Test.YtegfaecbealnhabChecked
import GoSem.Claim
import GoSem.ClaimJoined
import GoSem.ClaimMapViews
import Derived.JoinedTies
import Derived.KernelRfl
namespace Go.Proofs.Ytegfaecbealnhab
/- THE CELL 'sum', in the pinned program and in every row, IS THE sha256 OF THE DUMP (.gsa) THAT YtegfaecbealnhabProg.lean LOADS. Nothing in Lean hashes anything: it is a label: what it is worth is what the hold of that sum in a sandbox is worth. -/
noncomputable def Try.pinned : Pinned := { name := "ytegfaecbealnhab", sum := "59c23c2f143365bb2b2486138a074ce06b082b1b0175de9923813b09e33c2b87", checked := Try.checked }
namespace Rows
def none {H : Type} : Left H := { results := [], args := [] }

/-- 'argosylaw3.SpansKnown': WHATEVER THE INPUT: true; the input reads as it did. -/
def spansKnownSpec : ChangeSpec := { name := "spansKnown", fn := fun _ => fun
  | [] => { results := [.lit (.bool true)], args := [] }
  | _ => none }
def spansKnownRow : OpenClaim := { program := "ytegfaecbealnhab", sum := "59c23c2f143365bb2b2486138a074ce06b082b1b0175de9923813b09e33c2b87", func := "argosy/argosylaw3.SpansKnown", spec := "spansKnown", unfollowed := true, recurses := true, apart := false }
def SpansKnownSaid : Prop := spansKnownRow.holds Try.pinned (OpenSpec.ofChange spansKnownSpec)

/-- ITS FALSE NEIGHBOUR: 'it returns false'. Refute it at one input. -/
def spansKnownWrong : ChangeSpec := { name := "spansKnown", fn := fun _ => fun
  | [] => { results := [.lit (.bool false)], args := [] }
  | _ => none }
def SpansKnownWrongFalsely : Prop := spansKnownRow.holds Try.pinned (OpenSpec.ofChange spansKnownWrong)

/-- 'argosylaw3.SpansTells': WHATEVER THE INPUT: true; the input reads as it did. -/
def spansTellsSpec : ChangeSpec := { name := "spansTells", fn := fun _ => fun
  | [d1, d2, d3, d4, d5, d6] => { results := [.lit (.bool true)], args := [d1, d2, d3, d4, d5, d6] }
  | _ => none }
def spansTellsRow : OpenClaim := { program := "ytegfaecbealnhab", sum := "59c23c2f143365bb2b2486138a074ce06b082b1b0175de9923813b09e33c2b87", func := "argosy/argosylaw3.SpansTells", spec := "spansTells", unfollowed := true, recurses := true, apart := false }
def SpansTellsSaid : Prop := spansTellsRow.holds Try.pinned (OpenSpec.ofChange spansTellsSpec)

/-- ITS FALSE NEIGHBOUR: 'it returns false'. Refute it at one input. -/
def spansTellsWrong : ChangeSpec := { name := "spansTells", fn := fun _ => fun
  | [d1, d2, d3, d4, d5, d6] => { results := [.lit (.bool false)], args := [d1, d2, d3, d4, d5, d6] }
  | _ => none }
def SpansTellsWrongFalsely : Prop := spansTellsRow.holds Try.pinned (OpenSpec.ofChange spansTellsWrong)

/-- 'argosylaw3.SpansIsSet': WHATEVER THE INPUT: true; the input reads as it did. -/
def spansIsSetSpec : ChangeSpec := { name := "spansIsSet", fn := fun _ => fun
  | [d1, d2, d3] => { results := [.lit (.bool true)], args := [d1, d2, d3] }
  | _ => none }
def spansIsSetRow : OpenClaim := { program := "ytegfaecbealnhab", sum := "59c23c2f143365bb2b2486138a074ce06b082b1b0175de9923813b09e33c2b87", func := "argosy/argosylaw3.SpansIsSet", spec := "spansIsSet", unfollowed := true, recurses := true, apart := false }
def SpansIsSetSaid : Prop := spansIsSetRow.holds Try.pinned (OpenSpec.ofChange spansIsSetSpec)

/-- ITS FALSE NEIGHBOUR: 'it returns false'. Refute it at one input. -/
def spansIsSetWrong : ChangeSpec := { name := "spansIsSet", fn := fun _ => fun
  | [d1, d2, d3] => { results := [.lit (.bool false)], args := [d1, d2, d3] }
  | _ => none }
def SpansIsSetWrongFalsely : Prop := spansIsSetRow.holds Try.pinned (OpenSpec.ofChange spansIsSetWrong)

/-- 'argosylaw3.SpansCopies': WHATEVER THE INPUT: true; the input reads as it did. -/
def spansCopiesSpec : ChangeSpec := { name := "spansCopies", fn := fun _ => fun
  | [d1, d2] => { results := [.lit (.bool true)], args := [d1, d2] }
  | _ => none }
def spansCopiesRow : OpenClaim := { program := "ytegfaecbealnhab", sum := "59c23c2f143365bb2b2486138a074ce06b082b1b0175de9923813b09e33c2b87", func := "argosy/argosylaw3.SpansCopies", spec := "spansCopies", unfollowed := true, recurses := true, apart := false }
def SpansCopiesSaid : Prop := spansCopiesRow.holds Try.pinned (OpenSpec.ofChange spansCopiesSpec)

/-- ITS FALSE NEIGHBOUR: 'it returns false'. Refute it at one input. -/
def spansCopiesWrong : ChangeSpec := { name := "spansCopies", fn := fun _ => fun
  | [d1, d2] => { results := [.lit (.bool false)], args := [d1, d2] }
  | _ => none }
def SpansCopiesWrongFalsely : Prop := spansCopiesRow.holds Try.pinned (OpenSpec.ofChange spansCopiesWrong)

/-- 'argosylaw3.SpansOrders': WHATEVER THE INPUT: true; the input reads as it did. -/
def spansOrdersSpec : ChangeSpec := { name := "spansOrders", fn := fun _ => fun
  | [d1, d2, d3, d4] => { results := [.lit (.bool true)], args := [d1, d2, d3, d4] }
  | _ => none }
def spansOrdersRow : OpenClaim := { program := "ytegfaecbealnhab", sum := "59c23c2f143365bb2b2486138a074ce06b082b1b0175de9923813b09e33c2b87", func := "argosy/argosylaw3.SpansOrders", spec := "spansOrders", unfollowed := true, recurses := true, apart := false }
def SpansOrdersSaid : Prop := spansOrdersRow.holds Try.pinned (OpenSpec.ofChange spansOrdersSpec)

/-- ITS FALSE NEIGHBOUR: 'it returns false'. Refute it at one input. -/
def spansOrdersWrong : ChangeSpec := { name := "spansOrders", fn := fun _ => fun
  | [d1, d2, d3, d4] => { results := [.lit (.bool false)], args := [d1, d2, d3, d4] }
  | _ => none }
def SpansOrdersWrongFalsely : Prop := spansOrdersRow.holds Try.pinned (OpenSpec.ofChange spansOrdersWrong)

/-- 'argosylaw3.SpansEnds': WHATEVER THE INPUT: true; the input reads as it did. -/
def spansEndsSpec : ChangeSpec := { name := "spansEnds", fn := fun _ => fun
  | [d1, d2] => { results := [.lit (.bool true)], args := [d1, d2] }
  | _ => none }
def spansEndsRow : OpenClaim := { program := "ytegfaecbealnhab", sum := "59c23c2f143365bb2b2486138a074ce06b082b1b0175de9923813b09e33c2b87", func := "argosy/argosylaw3.SpansEnds", spec := "spansEnds", unfollowed := true, recurses := true, apart := false }
def SpansEndsSaid : Prop := spansEndsRow.holds Try.pinned (OpenSpec.ofChange spansEndsSpec)

/-- ITS FALSE NEIGHBOUR: 'it returns false'. Refute it at one input. -/
def spansEndsWrong : ChangeSpec := { name := "spansEnds", fn := fun _ => fun
  | [d1, d2] => { results := [.lit (.bool false)], args := [d1, d2] }
  | _ => none }
def SpansEndsWrongFalsely : Prop := spansEndsRow.holds Try.pinned (OpenSpec.ofChange spansEndsWrong)

/-- 'argosylaw4.SealKnown': WHATEVER THE INPUT: true; the input reads as it did. -/
def sealKnownSpec : ChangeSpec := { name := "sealKnown", fn := fun _ => fun
  | [] => { results := [.lit (.bool true)], args := [] }
  | _ => none }
def sealKnownRow : OpenClaim := { program := "ytegfaecbealnhab", sum := "59c23c2f143365bb2b2486138a074ce06b082b1b0175de9923813b09e33c2b87", func := "argosy/argosylaw4.SealKnown", spec := "sealKnown", apart := false }
def SealKnownSaid : Prop := sealKnownRow.holds Try.pinned (OpenSpec.ofChange sealKnownSpec)

/-- ITS FALSE NEIGHBOUR: 'it returns false'. Refute it at one input. -/
def sealKnownWrong : ChangeSpec := { name := "sealKnown", fn := fun _ => fun
  | [] => { results := [.lit (.bool false)], args := [] }
  | _ => none }
def SealKnownWrongFalsely : Prop := sealKnownRow.holds Try.pinned (OpenSpec.ofChange sealKnownWrong)

/-- 'argosylaw4.SealTells': WHATEVER THE INPUT: true; the input reads as it did. -/
def sealTellsSpec : ChangeSpec := { name := "sealTells", fn := fun _ => fun
  | [d1, d2, d3, d4, d5, d6, d7, d8, d9] => { results := [.lit (.bool true)], args := [d1, d2, d3, d4, d5, d6, d7, d8, d9] }
  | _ => none }
def sealTellsRow : OpenClaim := { program := "ytegfaecbealnhab", sum := "59c23c2f143365bb2b2486138a074ce06b082b1b0175de9923813b09e33c2b87", func := "argosy/argosylaw4.SealTells", spec := "sealTells", apart := false }
def SealTellsSaid : Prop := sealTellsRow.holds Try.pinned (OpenSpec.ofChange sealTellsSpec)

/-- ITS FALSE NEIGHBOUR: 'it returns false'. Refute it at one input. -/
def sealTellsWrong : ChangeSpec := { name := "sealTells", fn := fun _ => fun
  | [d1, d2, d3, d4, d5, d6, d7, d8, d9] => { results := [.lit (.bool false)], args := [d1, d2, d3, d4, d5, d6, d7, d8, d9] }
  | _ => none }
def SealTellsWrongFalsely : Prop := sealTellsRow.holds Try.pinned (OpenSpec.ofChange sealTellsWrong)

/-- 'argosylaw4.SealBack': WHATEVER THE INPUT: true; the input reads as it did. -/
def sealBackSpec : ChangeSpec := { name := "sealBack", fn := fun _ => fun
  | [d1, d2, d3, d4, d5, d6, d7, d8] => { results := [.lit (.bool true)], args := [d1, d2, d3, d4, d5, d6, d7, d8] }
  | _ => none }
def sealBackRow : OpenClaim := { program := "ytegfaecbealnhab", sum := "59c23c2f143365bb2b2486138a074ce06b082b1b0175de9923813b09e33c2b87", func := "argosy/argosylaw4.SealBack", spec := "sealBack", apart := false }
def SealBackSaid : Prop := sealBackRow.holds Try.pinned (OpenSpec.ofChange sealBackSpec)

/-- ITS FALSE NEIGHBOUR: 'it returns false'. Refute it at one input. -/
def sealBackWrong : ChangeSpec := { name := "sealBack", fn := fun _ => fun
  | [d1, d2, d3, d4, d5, d6, d7, d8] => { results := [.lit (.bool false)], args := [d1, d2, d3, d4, d5, d6, d7, d8] }
  | _ => none }
def SealBackWrongFalsely : Prop := sealBackRow.holds Try.pinned (OpenSpec.ofChange sealBackWrong)

/-- 'argosylaw4.SealParts': WHATEVER THE INPUT: true; the input reads as it did. -/
def sealPartsSpec : ChangeSpec := { name := "sealParts", fn := fun _ => fun
  | [d1, d2, d3, d4, d5, d6, d7] => { results := [.lit (.bool true)], args := [d1, d2, d3, d4, d5, d6, d7] }
  | _ => none }
def sealPartsRow : OpenClaim := { program := "ytegfaecbealnhab", sum := "59c23c2f143365bb2b2486138a074ce06b082b1b0175de9923813b09e33c2b87", func := "argosy/argosylaw4.SealParts", spec := "sealParts", apart := false }
def SealPartsSaid : Prop := sealPartsRow.holds Try.pinned (OpenSpec.ofChange sealPartsSpec)

/-- ITS FALSE NEIGHBOUR: 'it returns false'. Refute it at one input. -/
def sealPartsWrong : ChangeSpec := { name := "sealParts", fn := fun _ => fun
  | [d1, d2, d3, d4, d5, d6, d7] => { results := [.lit (.bool false)], args := [d1, d2, d3, d4, d5, d6, d7] }
  | _ => none }
def SealPartsWrongFalsely : Prop := sealPartsRow.holds Try.pinned (OpenSpec.ofChange sealPartsWrong)

/-- 'argosylaw4.SealApart': WHATEVER THE INPUT: true; the input reads as it did. -/
def sealApartSpec : ChangeSpec := { name := "sealApart", fn := fun _ => fun
  | [d1, d2, d3, d4, d5, d6] => { results := [.lit (.bool true)], args := [d1, d2, d3, d4, d5, d6] }
  | _ => none }
def sealApartRow : OpenClaim := { program := "ytegfaecbealnhab", sum := "59c23c2f143365bb2b2486138a074ce06b082b1b0175de9923813b09e33c2b87", func := "argosy/argosylaw4.SealApart", spec := "sealApart", apart := false }
def SealApartSaid : Prop := sealApartRow.holds Try.pinned (OpenSpec.ofChange sealApartSpec)

/-- ITS FALSE NEIGHBOUR: 'it returns false'. Refute it at one input. -/
def sealApartWrong : ChangeSpec := { name := "sealApart", fn := fun _ => fun
  | [d1, d2, d3, d4, d5, d6] => { results := [.lit (.bool false)], args := [d1, d2, d3, d4, d5, d6] }
  | _ => none }
def SealApartWrongFalsely : Prop := sealApartRow.holds Try.pinned (OpenSpec.ofChange sealApartWrong)

/-- 'argosylaw4.SealWays': WHATEVER THE INPUT: true; the input reads as it did. -/
def sealWaysSpec : ChangeSpec := { name := "sealWays", fn := fun _ => fun
  | [d1, d2, d3, d4, d5] => { results := [.lit (.bool true)], args := [d1, d2, d3, d4, d5] }
  | _ => none }
def sealWaysRow : OpenClaim := { program := "ytegfaecbealnhab", sum := "59c23c2f143365bb2b2486138a074ce06b082b1b0175de9923813b09e33c2b87", func := "argosy/argosylaw4.SealWays", spec := "sealWays", apart := false }
def SealWaysSaid : Prop := sealWaysRow.holds Try.pinned (OpenSpec.ofChange sealWaysSpec)

/-- ITS FALSE NEIGHBOUR: 'it returns false'. Refute it at one input. -/
def sealWaysWrong : ChangeSpec := { name := "sealWays", fn := fun _ => fun
  | [d1, d2, d3, d4, d5] => { results := [.lit (.bool false)], args := [d1, d2, d3, d4, d5] }
  | _ => none }
def SealWaysWrongFalsely : Prop := sealWaysRow.holds Try.pinned (OpenSpec.ofChange sealWaysWrong)

/- THE SECOND FORM. 'bulk': how many values and letters a reading holds, each counted each time it is reached (what is shared counts as often as it is met; a slice's spare places count too). A statement '..UptoSaid' is the law's where the arguments, and the package variables that the reading takes, are together of bulk at most 1048576: NARROWER than '..Said'. Prove '..Said' where nothing that the law and all that it calls make is longer than what came in: it says more and counts as full. Else prove '..UptoSaid'. A law counts once. -/
mutual
def uptoBulk {H : Type} : DataW H → Nat
  | .lit (.string bytes) => bytes.length + 1
  | .lit _ => 1
  | .nil => 1
  | .ptr d => uptoBulk d + 1
  | .slice elems spare => uptoBulkAll elems + uptoBulkAll spare + 1
  | .agg parts => uptoBulkAll parts + 1
  | .iface _ d => uptoBulk d + 1
  | .map entries => uptoBulkEntries entries + 1
  | .held _ => 1
def uptoBulkAll {H : Type} : List (DataW H) → Nat
  | [] => 0
  | d :: r => uptoBulk d + uptoBulkAll r
def uptoBulkEntries {H : Type} : List (Lit × DataW H) → Nat
  | [] => 0
  | x :: r => uptoBulkEntry x + uptoBulkEntries r
def uptoBulkEntry {H : Type} : Lit × DataW H → Nat
  | (.string bytes, d) => bytes.length + uptoBulk d + 1
  | (_, d) => uptoBulk d + 1
 end
def uptoSmall : (H : Type) → List (DataW H) → Bool := fun _ ds => decide (uptoBulkAll ds ≤ 1048576)
def OpenSpec.upto (s : _root_.Go.ChangeSpec) : _root_.Go.OpenSpec := { _root_.Go.OpenSpec.ofChange s with cond := some uptoSmall }

/-- 'argosylaw3.SpansKnown', WHERE WHAT IT READS IS OF BULK AT MOST 1048576: true; the input reads as it did. -/
def spansKnownUptoRow : OpenClaim := { program := "ytegfaecbealnhab", sum := "59c23c2f143365bb2b2486138a074ce06b082b1b0175de9923813b09e33c2b87", func := "argosy/argosylaw3.SpansKnown", spec := "spansKnown", unfollowed := true, recurses := true, apart := false, narrowed := true }
def SpansKnownUptoSaid : Prop := spansKnownUptoRow.holds Try.pinned (OpenSpec.upto spansKnownSpec)

/-- 'argosylaw3.SpansTells', WHERE WHAT IT READS IS OF BULK AT MOST 1048576: true; the input reads as it did. -/
def spansTellsUptoRow : OpenClaim := { program := "ytegfaecbealnhab", sum := "59c23c2f143365bb2b2486138a074ce06b082b1b0175de9923813b09e33c2b87", func := "argosy/argosylaw3.SpansTells", spec := "spansTells", unfollowed := true, recurses := true, apart := false, narrowed := true }
def SpansTellsUptoSaid : Prop := spansTellsUptoRow.holds Try.pinned (OpenSpec.upto spansTellsSpec)

/-- 'argosylaw3.SpansIsSet', WHERE WHAT IT READS IS OF BULK AT MOST 1048576: true; the input reads as it did. -/
def spansIsSetUptoRow : OpenClaim := { program := "ytegfaecbealnhab", sum := "59c23c2f143365bb2b2486138a074ce06b082b1b0175de9923813b09e33c2b87", func := "argosy/argosylaw3.SpansIsSet", spec := "spansIsSet", unfollowed := true, recurses := true, apart := false, narrowed := true }
def SpansIsSetUptoSaid : Prop := spansIsSetUptoRow.holds Try.pinned (OpenSpec.upto spansIsSetSpec)

/-- 'argosylaw3.SpansCopies', WHERE WHAT IT READS IS OF BULK AT MOST 1048576: true; the input reads as it did. -/
def spansCopiesUptoRow : OpenClaim := { program := "ytegfaecbealnhab", sum := "59c23c2f143365bb2b2486138a074ce06b082b1b0175de9923813b09e33c2b87", func := "argosy/argosylaw3.SpansCopies", spec := "spansCopies", unfollowed := true, recurses := true, apart := false, narrowed := true }
def SpansCopiesUptoSaid : Prop := spansCopiesUptoRow.holds Try.pinned (OpenSpec.upto spansCopiesSpec)

/-- 'argosylaw3.SpansOrders', WHERE WHAT IT READS IS OF BULK AT MOST 1048576: true; the input reads as it did. -/
def spansOrdersUptoRow : OpenClaim := { program := "ytegfaecbealnhab", sum := "59c23c2f143365bb2b2486138a074ce06b082b1b0175de9923813b09e33c2b87", func := "argosy/argosylaw3.SpansOrders", spec := "spansOrders", unfollowed := true, recurses := true, apart := false, narrowed := true }
def SpansOrdersUptoSaid : Prop := spansOrdersUptoRow.holds Try.pinned (OpenSpec.upto spansOrdersSpec)

/-- 'argosylaw3.SpansEnds', WHERE WHAT IT READS IS OF BULK AT MOST 1048576: true; the input reads as it did. -/
def spansEndsUptoRow : OpenClaim := { program := "ytegfaecbealnhab", sum := "59c23c2f143365bb2b2486138a074ce06b082b1b0175de9923813b09e33c2b87", func := "argosy/argosylaw3.SpansEnds", spec := "spansEnds", unfollowed := true, recurses := true, apart := false, narrowed := true }
def SpansEndsUptoSaid : Prop := spansEndsUptoRow.holds Try.pinned (OpenSpec.upto spansEndsSpec)

/-- 'argosylaw4.SealKnown', WHERE WHAT IT READS IS OF BULK AT MOST 1048576: true; the input reads as it did. -/
def sealKnownUptoRow : OpenClaim := { program := "ytegfaecbealnhab", sum := "59c23c2f143365bb2b2486138a074ce06b082b1b0175de9923813b09e33c2b87", func := "argosy/argosylaw4.SealKnown", spec := "sealKnown", apart := false, narrowed := true }
def SealKnownUptoSaid : Prop := sealKnownUptoRow.holds Try.pinned (OpenSpec.upto sealKnownSpec)

/-- 'argosylaw4.SealTells', WHERE WHAT IT READS IS OF BULK AT MOST 1048576: true; the input reads as it did. -/
def sealTellsUptoRow : OpenClaim := { program := "ytegfaecbealnhab", sum := "59c23c2f143365bb2b2486138a074ce06b082b1b0175de9923813b09e33c2b87", func := "argosy/argosylaw4.SealTells", spec := "sealTells", apart := false, narrowed := true }
def SealTellsUptoSaid : Prop := sealTellsUptoRow.holds Try.pinned (OpenSpec.upto sealTellsSpec)

/-- 'argosylaw4.SealBack', WHERE WHAT IT READS IS OF BULK AT MOST 1048576: true; the input reads as it did. -/
def sealBackUptoRow : OpenClaim := { program := "ytegfaecbealnhab", sum := "59c23c2f143365bb2b2486138a074ce06b082b1b0175de9923813b09e33c2b87", func := "argosy/argosylaw4.SealBack", spec := "sealBack", apart := false, narrowed := true }
def SealBackUptoSaid : Prop := sealBackUptoRow.holds Try.pinned (OpenSpec.upto sealBackSpec)

/-- 'argosylaw4.SealParts', WHERE WHAT IT READS IS OF BULK AT MOST 1048576: true; the input reads as it did. -/
def sealPartsUptoRow : OpenClaim := { program := "ytegfaecbealnhab", sum := "59c23c2f143365bb2b2486138a074ce06b082b1b0175de9923813b09e33c2b87", func := "argosy/argosylaw4.SealParts", spec := "sealParts", apart := false, narrowed := true }
def SealPartsUptoSaid : Prop := sealPartsUptoRow.holds Try.pinned (OpenSpec.upto sealPartsSpec)

/-- 'argosylaw4.SealApart', WHERE WHAT IT READS IS OF BULK AT MOST 1048576: true; the input reads as it did. -/
def sealApartUptoRow : OpenClaim := { program := "ytegfaecbealnhab", sum := "59c23c2f143365bb2b2486138a074ce06b082b1b0175de9923813b09e33c2b87", func := "argosy/argosylaw4.SealApart", spec := "sealApart", apart := false, narrowed := true }
def SealApartUptoSaid : Prop := sealApartUptoRow.holds Try.pinned (OpenSpec.upto sealApartSpec)

/-- 'argosylaw4.SealWays', WHERE WHAT IT READS IS OF BULK AT MOST 1048576: true; the input reads as it did. -/
def sealWaysUptoRow : OpenClaim := { program := "ytegfaecbealnhab", sum := "59c23c2f143365bb2b2486138a074ce06b082b1b0175de9923813b09e33c2b87", func := "argosy/argosylaw4.SealWays", spec := "sealWays", apart := false, narrowed := true }
def SealWaysUptoSaid : Prop := sealWaysUptoRow.holds Try.pinned (OpenSpec.upto sealWaysSpec)

end Rows
end Go.Proofs.Ytegfaecbealnhab
