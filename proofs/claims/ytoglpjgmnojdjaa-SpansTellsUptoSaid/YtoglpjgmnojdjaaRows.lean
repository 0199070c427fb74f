/-
  No cell of these rows narrows 'for every input' (looked for: loops, veiled, ifaces, maps, wideKeys, modest, calm, conditions, laid).
  DERIVED. THE GIVEN ROWS OF THIS SEAT. 4 by the template 'for every input the law returns true; each argument reads behind the call as it read before'; 0 by the template 'total and deterministic' (their statements: YtoglpjgmnojdjaaTotals.lean).
  GIVEN WITH THE SEED: the statements are not yours to turn. If you find one false, say at which input.
  Laid BY PROGRAM, IN A SANDBOX (cutbox-rows.mjs): the forced cells as the released guide's own fill.sh prints them over the translation 0cbee2896727bb54… (all of the seat's roots in one cut). By AI agents, Wed Nov 11 2026. No macro, syntax, notation, axiom, sorry.
-/
import Derived.Test.YtoglpjgmnojdjaaChecked
import GoSem.Claim
import GoSem.ClaimJoined
import GoSem.ClaimMapViews
import Derived.JoinedTies
import Derived.KernelRfl
namespace Go.Proofs.Ytoglpjgmnojdjaa
/- THE CELL 'sum', in the pinned program and in every row, IS THE sha256 OF THE DUMP (.gsa) THAT YtoglpjgmnojdjaaProg.lean LOADS. Nothing in Lean hashes anything: it is a label: what it is worth is what the hold of that sum in a sandbox is worth. -/
noncomputable def Try.pinned : Pinned := { name := "ytoglpjgmnojdjaa", sum := "0cbee2896727bb5461e5a6a0a1ed39b7fc82b24ddfdde9a5c565568bb9fa01a1", checked := Try.checked }
namespace Rows
def none {H : Type} : Left H := { results := [], args := [] }

/-- 'argosylaw3.SpansTells': WHATEVER THE INPUT: true; the input reads as it did. -/
def spansTellsSpec : ChangeSpec := { name := "spansTells", fn := fun _ => fun
  | [d1, d2, d3, d4, d5, d6] => { results := [.lit (.bool true)], args := [d1, d2, d3, d4, d5, d6] }
  | _ => none }
def spansTellsRow : OpenClaim := { program := "ytoglpjgmnojdjaa", sum := "0cbee2896727bb5461e5a6a0a1ed39b7fc82b24ddfdde9a5c565568bb9fa01a1", func := "argosy/argosylaw3.SpansTells", spec := "spansTells", unfollowed := true, recurses := true, apart := false }
def SpansTellsSaid : Prop := spansTellsRow.holds Try.pinned (OpenSpec.ofChange spansTellsSpec)

/-- ITS FALSE NEIGHBOUR: 'it returns false'. Refute it at one input. -/
def spansTellsWrong : ChangeSpec := { name := "spansTells", fn := fun _ => fun
  | [d1, d2, d3, d4, d5, d6] => { results := [.lit (.bool false)], args := [d1, d2, d3, d4, d5, d6] }
  | _ => none }
def SpansTellsWrongFalsely : Prop := spansTellsRow.holds Try.pinned (OpenSpec.ofChange spansTellsWrong)

/-- 'argosylaw7.AcksKnown': WHATEVER THE INPUT: true; the input reads as it did. -/
def acksKnownSpec : ChangeSpec := { name := "acksKnown", fn := fun _ => fun
  | [] => { results := [.lit (.bool true)], args := [] }
  | _ => none }
def acksKnownRow : OpenClaim := { program := "ytoglpjgmnojdjaa", sum := "0cbee2896727bb5461e5a6a0a1ed39b7fc82b24ddfdde9a5c565568bb9fa01a1", func := "argosy/argosylaw7.AcksKnown", spec := "acksKnown", apart := false }
def AcksKnownSaid : Prop := acksKnownRow.holds Try.pinned (OpenSpec.ofChange acksKnownSpec)

/-- ITS FALSE NEIGHBOUR: 'it returns false'. Refute it at one input. -/
def acksKnownWrong : ChangeSpec := { name := "acksKnown", fn := fun _ => fun
  | [] => { results := [.lit (.bool false)], args := [] }
  | _ => none }
def AcksKnownWrongFalsely : Prop := acksKnownRow.holds Try.pinned (OpenSpec.ofChange acksKnownWrong)

/-- 'argosylaw7.AcksTells': WHATEVER THE INPUT: true; the input reads as it did. -/
def acksTellsSpec : ChangeSpec := { name := "acksTells", fn := fun _ => fun
  | [d1, d2, d3] => { results := [.lit (.bool true)], args := [d1, d2, d3] }
  | _ => none }
def acksTellsRow : OpenClaim := { program := "ytoglpjgmnojdjaa", sum := "0cbee2896727bb5461e5a6a0a1ed39b7fc82b24ddfdde9a5c565568bb9fa01a1", func := "argosy/argosylaw7.AcksTells", spec := "acksTells", unfollowed := true, recurses := true, apart := false }
def AcksTellsSaid : Prop := acksTellsRow.holds Try.pinned (OpenSpec.ofChange acksTellsSpec)

/-- ITS FALSE NEIGHBOUR: 'it returns false'. Refute it at one input. -/
def acksTellsWrong : ChangeSpec := { name := "acksTells", fn := fun _ => fun
  | [d1, d2, d3] => { results := [.lit (.bool false)], args := [d1, d2, d3] }
  | _ => none }
def AcksTellsWrongFalsely : Prop := acksTellsRow.holds Try.pinned (OpenSpec.ofChange acksTellsWrong)

/-- 'argosylaw7.AcksOnce': WHATEVER THE INPUT: true; the input reads as it did. -/
def acksOnceSpec : ChangeSpec := { name := "acksOnce", fn := fun _ => fun
  | [d1, d2] => { results := [.lit (.bool true)], args := [d1, d2] }
  | _ => none }
def acksOnceRow : OpenClaim := { program := "ytoglpjgmnojdjaa", sum := "0cbee2896727bb5461e5a6a0a1ed39b7fc82b24ddfdde9a5c565568bb9fa01a1", func := "argosy/argosylaw7.AcksOnce", spec := "acksOnce", apart := false }
def AcksOnceSaid : Prop := acksOnceRow.holds Try.pinned (OpenSpec.ofChange acksOnceSpec)

/-- ITS FALSE NEIGHBOUR: 'it returns false'. Refute it at one input. -/
def acksOnceWrong : ChangeSpec := { name := "acksOnce", fn := fun _ => fun
  | [d1, d2] => { results := [.lit (.bool false)], args := [d1, d2] }
  | _ => none }
def AcksOnceWrongFalsely : Prop := acksOnceRow.holds Try.pinned (OpenSpec.ofChange acksOnceWrong)

/- THE SECOND FORM. 'bulk': how many values and letters a reading holds, each counted each time it is reached (what is shared counts as often as it is met; a slice's spare places count too). A statement '..UptoSaid' is the law's where the arguments, and the package variables that the reading takes, are together of bulk at most 1048576: NARROWER than '..Said'. Prove '..Said' where nothing that the law and all that it calls make is longer than what came in: it says more and counts as full. Else prove '..UptoSaid'. A law counts once. -/
mutual
def uptoBulk {H : Type} : DataW H → Nat
  | .lit (.string bytes) => bytes.length + 1
  | .lit _ => 1
  | .nil => 1
  | .ptr d => uptoBulk d + 1
  | .slice elems spare => uptoBulkAll elems + uptoBulkAll spare + 1
  | .agg parts => uptoBulkAll parts + 1
  | .iface _ d => uptoBulk d + 1
  | .map entries => uptoBulkEntries entries + 1
  | .held _ => 1
def uptoBulkAll {H : Type} : List (DataW H) → Nat
  | [] => 0
  | d :: r => uptoBulk d + uptoBulkAll r
def uptoBulkEntries {H : Type} : List (Lit × DataW H) → Nat
  | [] => 0
  | x :: r => uptoBulkEntry x + uptoBulkEntries r
def uptoBulkEntry {H : Type} : Lit × DataW H → Nat
  | (.string bytes, d) => bytes.length + uptoBulk d + 1
  | (_, d) => uptoBulk d + 1
 end
def uptoSmall : (H : Type) → List (DataW H) → Bool := fun _ ds => decide (uptoBulkAll ds ≤ 1048576)
def OpenSpec.upto (s : _root_.Go.ChangeSpec) : _root_.Go.OpenSpec := { _root_.Go.OpenSpec.ofChange s with cond := some uptoSmall }

/-- 'argosylaw3.SpansTells', WHERE WHAT IT READS IS OF BULK AT MOST 1048576: true; the input reads as it did. -/
def spansTellsUptoRow : OpenClaim := { program := "ytoglpjgmnojdjaa", sum := "0cbee2896727bb5461e5a6a0a1ed39b7fc82b24ddfdde9a5c565568bb9fa01a1", func := "argosy/argosylaw3.SpansTells", spec := "spansTells", unfollowed := true, recurses := true, apart := false, narrowed := true }
def SpansTellsUptoSaid : Prop := spansTellsUptoRow.holds Try.pinned (OpenSpec.upto spansTellsSpec)

/-- 'argosylaw7.AcksKnown', WHERE WHAT IT READS IS OF BULK AT MOST 1048576: true; the input reads as it did. -/
def acksKnownUptoRow : OpenClaim := { program := "ytoglpjgmnojdjaa", sum := "0cbee2896727bb5461e5a6a0a1ed39b7fc82b24ddfdde9a5c565568bb9fa01a1", func := "argosy/argosylaw7.AcksKnown", spec := "acksKnown", apart := false, narrowed := true }
def AcksKnownUptoSaid : Prop := acksKnownUptoRow.holds Try.pinned (OpenSpec.upto acksKnownSpec)

/-- 'argosylaw7.AcksTells', WHERE WHAT IT READS IS OF BULK AT MOST 1048576: true; the input reads as it did. -/
def acksTellsUptoRow : OpenClaim := { program := "ytoglpjgmnojdjaa", sum := "0cbee2896727bb5461e5a6a0a1ed39b7fc82b24ddfdde9a5c565568bb9fa01a1", func := "argosy/argosylaw7.AcksTells", spec := "acksTells", unfollowed := true, recurses := true, apart := false, narrowed := true }
def AcksTellsUptoSaid : Prop := acksTellsUptoRow.holds Try.pinned (OpenSpec.upto acksTellsSpec)

/-- 'argosylaw7.AcksOnce', WHERE WHAT IT READS IS OF BULK AT MOST 1048576: true; the input reads as it did. -/
def acksOnceUptoRow : OpenClaim := { program := "ytoglpjgmnojdjaa", sum := "0cbee2896727bb5461e5a6a0a1ed39b7fc82b24ddfdde9a5c565568bb9fa01a1", func := "argosy/argosylaw7.AcksOnce", spec := "acksOnce", apart := false, narrowed := true }
def AcksOnceUptoSaid : Prop := acksOnceUptoRow.holds Try.pinned (OpenSpec.upto acksOnceSpec)

end Rows
end Go.Proofs.Ytoglpjgmnojdjaa
