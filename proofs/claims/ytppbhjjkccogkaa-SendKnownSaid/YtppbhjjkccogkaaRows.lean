/-
  No cell of these rows narrows 'for every input' (looked for: loops, veiled, ifaces, maps, wideKeys, modest, calm, conditions, laid).
  DERIVED. THE GIVEN ROWS OF THIS SEAT. 5 by the template 'for every input the law returns true; each argument reads behind the call as it read before'; 0 by the template 'total and deterministic' (their statements: YtppbhjjkccogkaaTotals.lean).
  GIVEN WITH THE SEED: the statements are not yours to turn. If you find one false, say at which input.
  Laid BY PROGRAM, IN A SANDBOX (cutbox-rows.mjs): the forced cells as the released guide's own fill.sh prints them over the translation 93ce9c941c15cfc3… (all of the seat's roots in one cut). By AI agents, Wed Nov 11 2026. No macro, syntax, notation, axiom, sorry.
-/
import Derived.Test.YtppbhjjkccogkaaChecked
import GoSem.Claim
import GoSem.ClaimJoined
import GoSem.ClaimMapViews
import Derived.JoinedTies
import Derived.KernelRfl
namespace Go.Proofs.Ytppbhjjkccogkaa
/- THE CELL 'sum', in the pinned program and in every row, IS THE sha256 OF THE DUMP (.gsa) THAT YtppbhjjkccogkaaProg.lean LOADS. Nothing in Lean hashes anything: it is a label: what it is worth is what the hold of that sum in a sandbox is worth. -/
noncomputable def Try.pinned : Pinned := { name := "ytppbhjjkccogkaa", sum := "93ce9c941c15cfc33e73bfe9af305c812cde87f61542476367cf4c7af69c76cd", checked := Try.checked }
namespace Rows
def none {H : Type} : Left H := { results := [], args := [] }

/-- 'argosylaw13.SendKnown': WHATEVER THE INPUT: true; the input reads as it did. -/
def sendKnownSpec : ChangeSpec := { name := "sendKnown", fn := fun _ => fun
  | [] => { results := [.lit (.bool true)], args := [] }
  | _ => none }
def sendKnownRow : OpenClaim := { program := "ytppbhjjkccogkaa", sum := "93ce9c941c15cfc33e73bfe9af305c812cde87f61542476367cf4c7af69c76cd", func := "argosy/argosylaw13.SendKnown", spec := "sendKnown", apart := false }
def SendKnownSaid : Prop := sendKnownRow.holds Try.pinned (OpenSpec.ofChange sendKnownSpec)

/-- ITS FALSE NEIGHBOUR: 'it returns false'. Refute it at one input. -/
def sendKnownWrong : ChangeSpec := { name := "sendKnown", fn := fun _ => fun
  | [] => { results := [.lit (.bool false)], args := [] }
  | _ => none }
def SendKnownWrongFalsely : Prop := sendKnownRow.holds Try.pinned (OpenSpec.ofChange sendKnownWrong)

/-- 'argosylaw13.SendTells': WHATEVER THE INPUT: true; the input reads as it did. -/
def sendTellsSpec : ChangeSpec := { name := "sendTells", fn := fun _ => fun
  | [d1, d2] => { results := [.lit (.bool true)], args := [d1, d2] }
  | _ => none }
def sendTellsRow : OpenClaim := { program := "ytppbhjjkccogkaa", sum := "93ce9c941c15cfc33e73bfe9af305c812cde87f61542476367cf4c7af69c76cd", func := "argosy/argosylaw13.SendTells", spec := "sendTells", apart := false }
def SendTellsSaid : Prop := sendTellsRow.holds Try.pinned (OpenSpec.ofChange sendTellsSpec)

/-- ITS FALSE NEIGHBOUR: 'it returns false'. Refute it at one input. -/
def sendTellsWrong : ChangeSpec := { name := "sendTells", fn := fun _ => fun
  | [d1, d2] => { results := [.lit (.bool false)], args := [d1, d2] }
  | _ => none }
def SendTellsWrongFalsely : Prop := sendTellsRow.holds Try.pinned (OpenSpec.ofChange sendTellsWrong)

/-- 'argosylaw13.SendAll': WHATEVER THE INPUT: true; the input reads as it did. -/
def sendAllSpec : ChangeSpec := { name := "sendAll", fn := fun _ => fun
  | [d1, d2, d3] => { results := [.lit (.bool true)], args := [d1, d2, d3] }
  | _ => none }
def sendAllRow : OpenClaim := { program := "ytppbhjjkccogkaa", sum := "93ce9c941c15cfc33e73bfe9af305c812cde87f61542476367cf4c7af69c76cd", func := "argosy/argosylaw13.SendAll", spec := "sendAll", apart := false }
def SendAllSaid : Prop := sendAllRow.holds Try.pinned (OpenSpec.ofChange sendAllSpec)

/-- ITS FALSE NEIGHBOUR: 'it returns false'. Refute it at one input. -/
def sendAllWrong : ChangeSpec := { name := "sendAll", fn := fun _ => fun
  | [d1, d2, d3] => { results := [.lit (.bool false)], args := [d1, d2, d3] }
  | _ => none }
def SendAllWrongFalsely : Prop := sendAllRow.holds Try.pinned (OpenSpec.ofChange sendAllWrong)

/-- 'argosylaw13.SendSure': WHATEVER THE INPUT: true; the input reads as it did. -/
def sendSureSpec : ChangeSpec := { name := "sendSure", fn := fun _ => fun
  | [d1, d2, d3, d4, d5] => { results := [.lit (.bool true)], args := [d1, d2, d3, d4, d5] }
  | _ => none }
def sendSureRow : OpenClaim := { program := "ytppbhjjkccogkaa", sum := "93ce9c941c15cfc33e73bfe9af305c812cde87f61542476367cf4c7af69c76cd", func := "argosy/argosylaw13.SendSure", spec := "sendSure", apart := false }
def SendSureSaid : Prop := sendSureRow.holds Try.pinned (OpenSpec.ofChange sendSureSpec)

/-- ITS FALSE NEIGHBOUR: 'it returns false'. Refute it at one input. -/
def sendSureWrong : ChangeSpec := { name := "sendSure", fn := fun _ => fun
  | [d1, d2, d3, d4, d5] => { results := [.lit (.bool false)], args := [d1, d2, d3, d4, d5] }
  | _ => none }
def SendSureWrongFalsely : Prop := sendSureRow.holds Try.pinned (OpenSpec.ofChange sendSureWrong)

/-- 'argosylaw13.SendFresh': WHATEVER THE INPUT: true; the input reads as it did. -/
def sendFreshSpec : ChangeSpec := { name := "sendFresh", fn := fun _ => fun
  | [d1, d2] => { results := [.lit (.bool true)], args := [d1, d2] }
  | _ => none }
def sendFreshRow : OpenClaim := { program := "ytppbhjjkccogkaa", sum := "93ce9c941c15cfc33e73bfe9af305c812cde87f61542476367cf4c7af69c76cd", func := "argosy/argosylaw13.SendFresh", spec := "sendFresh", apart := false }
def SendFreshSaid : Prop := sendFreshRow.holds Try.pinned (OpenSpec.ofChange sendFreshSpec)

/-- ITS FALSE NEIGHBOUR: 'it returns false'. Refute it at one input. -/
def sendFreshWrong : ChangeSpec := { name := "sendFresh", fn := fun _ => fun
  | [d1, d2] => { results := [.lit (.bool false)], args := [d1, d2] }
  | _ => none }
def SendFreshWrongFalsely : Prop := sendFreshRow.holds Try.pinned (OpenSpec.ofChange sendFreshWrong)

/- THE SECOND FORM. 'bulk': how many values and letters a reading holds, each counted each time it is reached (what is shared counts as often as it is met; a slice's spare places count too). A statement '..UptoSaid' is the law's where the arguments, and the package variables that the reading takes, are together of bulk at most 1048576: NARROWER than '..Said'. Prove '..Said' where nothing that the law and all that it calls make is longer than what came in: it says more and counts as full. Else prove '..UptoSaid'. A law counts once. -/
mutual
def uptoBulk {H : Type} : DataW H → Nat
  | .lit (.string bytes) => bytes.length + 1
  | .lit _ => 1
  | .nil => 1
  | .ptr d => uptoBulk d + 1
  | .slice elems spare => uptoBulkAll elems + uptoBulkAll spare + 1
  | .agg parts => uptoBulkAll parts + 1
  | .iface _ d => uptoBulk d + 1
  | .map entries => uptoBulkEntries entries + 1
  | .held _ => 1
def uptoBulkAll {H : Type} : List (DataW H) → Nat
  | [] => 0
  | d :: r => uptoBulk d + uptoBulkAll r
def uptoBulkEntries {H : Type} : List (Lit × DataW H) → Nat
  | [] => 0
  | x :: r => uptoBulkEntry x + uptoBulkEntries r
def uptoBulkEntry {H : Type} : Lit × DataW H → Nat
  | (.string bytes, d) => bytes.length + uptoBulk d + 1
  | (_, d) => uptoBulk d + 1
 end
def uptoSmall : (H : Type) → List (DataW H) → Bool := fun _ ds => decide (uptoBulkAll ds ≤ 1048576)
def OpenSpec.upto (s : _root_.Go.ChangeSpec) : _root_.Go.OpenSpec := { _root_.Go.OpenSpec.ofChange s with cond := some uptoSmall }

/-- 'argosylaw13.SendKnown', WHERE WHAT IT READS IS OF BULK AT MOST 1048576: true; the input reads as it did. -/
def sendKnownUptoRow : OpenClaim := { program := "ytppbhjjkccogkaa", sum := "93ce9c941c15cfc33e73bfe9af305c812cde87f61542476367cf4c7af69c76cd", func := "argosy/argosylaw13.SendKnown", spec := "sendKnown", apart := false, narrowed := true }
def SendKnownUptoSaid : Prop := sendKnownUptoRow.holds Try.pinned (OpenSpec.upto sendKnownSpec)

/-- 'argosylaw13.SendTells', WHERE WHAT IT READS IS OF BULK AT MOST 1048576: true; the input reads as it did. -/
def sendTellsUptoRow : OpenClaim := { program := "ytppbhjjkccogkaa", sum := "93ce9c941c15cfc33e73bfe9af305c812cde87f61542476367cf4c7af69c76cd", func := "argosy/argosylaw13.SendTells", spec := "sendTells", apart := false, narrowed := true }
def SendTellsUptoSaid : Prop := sendTellsUptoRow.holds Try.pinned (OpenSpec.upto sendTellsSpec)

/-- 'argosylaw13.SendAll', WHERE WHAT IT READS IS OF BULK AT MOST 1048576: true; the input reads as it did. -/
def sendAllUptoRow : OpenClaim := { program := "ytppbhjjkccogkaa", sum := "93ce9c941c15cfc33e73bfe9af305c812cde87f61542476367cf4c7af69c76cd", func := "argosy/argosylaw13.SendAll", spec := "sendAll", apart := false, narrowed := true }
def SendAllUptoSaid : Prop := sendAllUptoRow.holds Try.pinned (OpenSpec.upto sendAllSpec)

/-- 'argosylaw13.SendSure', WHERE WHAT IT READS IS OF BULK AT MOST 1048576: true; the input reads as it did. -/
def sendSureUptoRow : OpenClaim := { program := "ytppbhjjkccogkaa", sum := "93ce9c941c15cfc33e73bfe9af305c812cde87f61542476367cf4c7af69c76cd", func := "argosy/argosylaw13.SendSure", spec := "sendSure", apart := false, narrowed := true }
def SendSureUptoSaid : Prop := sendSureUptoRow.holds Try.pinned (OpenSpec.upto sendSureSpec)

/-- 'argosylaw13.SendFresh', WHERE WHAT IT READS IS OF BULK AT MOST 1048576: true; the input reads as it did. -/
def sendFreshUptoRow : OpenClaim := { program := "ytppbhjjkccogkaa", sum := "93ce9c941c15cfc33e73bfe9af305c812cde87f61542476367cf4c7af69c76cd", func := "argosy/argosylaw13.SendFresh", spec := "sendFresh", apart := false, narrowed := true }
def SendFreshUptoSaid : Prop := sendFreshUptoRow.holds Try.pinned (OpenSpec.upto sendFreshSpec)

end Rows
end Go.Proofs.Ytppbhjjkccogkaa
