/-
  No cell of these rows narrows 'for every input' (looked for: loops, veiled, ifaces, maps, wideKeys, modest, calm, conditions, laid).
  DERIVED. THE GIVEN ROWS OF THIS SEAT. 4 by the template 'for every input the law returns true; each argument reads behind the call as it read before'; 0 by the template 'total and deterministic' (their statements: YtninmfobgjkekaaTotals.lean).
  GIVEN WITH THE SEED: the statements are not yours to turn. If you find one false, say at which input.
  Laid BY PROGRAM, IN A SANDBOX (cutbox-rows.mjs): the forced cells as the released guide's own fill.sh prints them over the translation 7d492a10f32c5975… (all of the seat's roots in one cut). By AI agents, Wed Nov 11 2026. No macro, syntax, notation, axiom, sorry.
-/
import Derived.Test.YtninmfobgjkekaaChecked
import GoSem.Claim
import GoSem.ClaimJoined
import GoSem.ClaimMapViews
import Derived.JoinedTies
import Derived.KernelRfl
namespace Go.Proofs.Ytninmfobgjkekaa
/- THE CELL 'sum', in the pinned program and in every row, IS THE sha256 OF THE DUMP (.gsa) THAT YtninmfobgjkekaaProg.lean LOADS. Nothing in Lean hashes anything: it is a label: what it is worth is what the hold of that sum in a sandbox is worth. -/
noncomputable def Try.pinned : Pinned := { name := "ytninmfobgjkekaa", sum := "7d492a10f32c59755a2dc69192ade9f2227f66310d5688235f74003193db051e", checked := Try.checked }
namespace Rows
def none {H : Type} : Left H := { results := [], args := [] }

/-- 'argosylaw12.CreditKnown': WHATEVER THE INPUT: true; the input reads as it did. -/
def creditKnownSpec : ChangeSpec := { name := "creditKnown", fn := fun _ => fun
  | [] => { results := [.lit (.bool true)], args := [] }
  | _ => none }
def creditKnownRow : OpenClaim := { program := "ytninmfobgjkekaa", sum := "7d492a10f32c59755a2dc69192ade9f2227f66310d5688235f74003193db051e", func := "argosy/argosylaw12.CreditKnown", spec := "creditKnown", apart := false }
def CreditKnownSaid : Prop := creditKnownRow.holds Try.pinned (OpenSpec.ofChange creditKnownSpec)

/-- ITS FALSE NEIGHBOUR: 'it returns false'. Refute it at one input. -/
def creditKnownWrong : ChangeSpec := { name := "creditKnown", fn := fun _ => fun
  | [] => { results := [.lit (.bool false)], args := [] }
  | _ => none }
def CreditKnownWrongFalsely : Prop := creditKnownRow.holds Try.pinned (OpenSpec.ofChange creditKnownWrong)

/-- 'argosylaw12.CreditTells': WHATEVER THE INPUT: true; the input reads as it did. -/
def creditTellsSpec : ChangeSpec := { name := "creditTells", fn := fun _ => fun
  | [d1, d2, d3] => { results := [.lit (.bool true)], args := [d1, d2, d3] }
  | _ => none }
def creditTellsRow : OpenClaim := { program := "ytninmfobgjkekaa", sum := "7d492a10f32c59755a2dc69192ade9f2227f66310d5688235f74003193db051e", func := "argosy/argosylaw12.CreditTells", spec := "creditTells", apart := false }
def CreditTellsSaid : Prop := creditTellsRow.holds Try.pinned (OpenSpec.ofChange creditTellsSpec)

/-- ITS FALSE NEIGHBOUR: 'it returns false'. Refute it at one input. -/
def creditTellsWrong : ChangeSpec := { name := "creditTells", fn := fun _ => fun
  | [d1, d2, d3] => { results := [.lit (.bool false)], args := [d1, d2, d3] }
  | _ => none }
def CreditTellsWrongFalsely : Prop := creditTellsRow.holds Try.pinned (OpenSpec.ofChange creditTellsWrong)

/-- 'argosylaw12.CreditKeeps': WHATEVER THE INPUT: true; the input reads as it did. -/
def creditKeepsSpec : ChangeSpec := { name := "creditKeeps", fn := fun _ => fun
  | [d1, d2] => { results := [.lit (.bool true)], args := [d1, d2] }
  | _ => none }
def creditKeepsRow : OpenClaim := { program := "ytninmfobgjkekaa", sum := "7d492a10f32c59755a2dc69192ade9f2227f66310d5688235f74003193db051e", func := "argosy/argosylaw12.CreditKeeps", spec := "creditKeeps", apart := false }
def CreditKeepsSaid : Prop := creditKeepsRow.holds Try.pinned (OpenSpec.ofChange creditKeepsSpec)

/-- ITS FALSE NEIGHBOUR: 'it returns false'. Refute it at one input. -/
def creditKeepsWrong : ChangeSpec := { name := "creditKeeps", fn := fun _ => fun
  | [d1, d2] => { results := [.lit (.bool false)], args := [d1, d2] }
  | _ => none }
def CreditKeepsWrongFalsely : Prop := creditKeepsRow.holds Try.pinned (OpenSpec.ofChange creditKeepsWrong)

/-- 'argosylaw12.CreditOnce': WHATEVER THE INPUT: true; the input reads as it did. -/
def creditOnceSpec : ChangeSpec := { name := "creditOnce", fn := fun _ => fun
  | [d1, d2] => { results := [.lit (.bool true)], args := [d1, d2] }
  | _ => none }
def creditOnceRow : OpenClaim := { program := "ytninmfobgjkekaa", sum := "7d492a10f32c59755a2dc69192ade9f2227f66310d5688235f74003193db051e", func := "argosy/argosylaw12.CreditOnce", spec := "creditOnce", apart := false }
def CreditOnceSaid : Prop := creditOnceRow.holds Try.pinned (OpenSpec.ofChange creditOnceSpec)

/-- ITS FALSE NEIGHBOUR: 'it returns false'. Refute it at one input. -/
def creditOnceWrong : ChangeSpec := { name := "creditOnce", fn := fun _ => fun
  | [d1, d2] => { results := [.lit (.bool false)], args := [d1, d2] }
  | _ => none }
def CreditOnceWrongFalsely : Prop := creditOnceRow.holds Try.pinned (OpenSpec.ofChange creditOnceWrong)

/- THE SECOND FORM. 'bulk': how many values and letters a reading holds, each counted each time it is reached (what is shared counts as often as it is met; a slice's spare places count too). A statement '..UptoSaid' is the law's where the arguments, and the package variables that the reading takes, are together of bulk at most 1048576: NARROWER than '..Said'. Prove '..Said' where nothing that the law and all that it calls make is longer than what came in: it says more and counts as full. Else prove '..UptoSaid'. A law counts once. -/
mutual
def uptoBulk {H : Type} : DataW H → Nat
  | .lit (.string bytes) => bytes.length + 1
  | .lit _ => 1
  | .nil => 1
  | .ptr d => uptoBulk d + 1
  | .slice elems spare => uptoBulkAll elems + uptoBulkAll spare + 1
  | .agg parts => uptoBulkAll parts + 1
  | .iface _ d => uptoBulk d + 1
  | .map entries => uptoBulkEntries entries + 1
  | .held _ => 1
def uptoBulkAll {H : Type} : List (DataW H) → Nat
  | [] => 0
  | d :: r => uptoBulk d + uptoBulkAll r
def uptoBulkEntries {H : Type} : List (Lit × DataW H) → Nat
  | [] => 0
  | x :: r => uptoBulkEntry x + uptoBulkEntries r
def uptoBulkEntry {H : Type} : Lit × DataW H → Nat
  | (.string bytes, d) => bytes.length + uptoBulk d + 1
  | (_, d) => uptoBulk d + 1
 end
def uptoSmall : (H : Type) → List (DataW H) → Bool := fun _ ds => decide (uptoBulkAll ds ≤ 1048576)
def OpenSpec.upto (s : _root_.Go.ChangeSpec) : _root_.Go.OpenSpec := { _root_.Go.OpenSpec.ofChange s with cond := some uptoSmall }

/-- 'argosylaw12.CreditKnown', WHERE WHAT IT READS IS OF BULK AT MOST 1048576: true; the input reads as it did. -/
def creditKnownUptoRow : OpenClaim := { program := "ytninmfobgjkekaa", sum := "7d492a10f32c59755a2dc69192ade9f2227f66310d5688235f74003193db051e", func := "argosy/argosylaw12.CreditKnown", spec := "creditKnown", apart := false, narrowed := true }
def CreditKnownUptoSaid : Prop := creditKnownUptoRow.holds Try.pinned (OpenSpec.upto creditKnownSpec)

/-- 'argosylaw12.CreditTells', WHERE WHAT IT READS IS OF BULK AT MOST 1048576: true; the input reads as it did. -/
def creditTellsUptoRow : OpenClaim := { program := "ytninmfobgjkekaa", sum := "7d492a10f32c59755a2dc69192ade9f2227f66310d5688235f74003193db051e", func := "argosy/argosylaw12.CreditTells", spec := "creditTells", apart := false, narrowed := true }
def CreditTellsUptoSaid : Prop := creditTellsUptoRow.holds Try.pinned (OpenSpec.upto creditTellsSpec)

/-- 'argosylaw12.CreditKeeps', WHERE WHAT IT READS IS OF BULK AT MOST 1048576: true; the input reads as it did. -/
def creditKeepsUptoRow : OpenClaim := { program := "ytninmfobgjkekaa", sum := "7d492a10f32c59755a2dc69192ade9f2227f66310d5688235f74003193db051e", func := "argosy/argosylaw12.CreditKeeps", spec := "creditKeeps", apart := false, narrowed := true }
def CreditKeepsUptoSaid : Prop := creditKeepsUptoRow.holds Try.pinned (OpenSpec.upto creditKeepsSpec)

/-- 'argosylaw12.CreditOnce', WHERE WHAT IT READS IS OF BULK AT MOST 1048576: true; the input reads as it did. -/
def creditOnceUptoRow : OpenClaim := { program := "ytninmfobgjkekaa", sum := "7d492a10f32c59755a2dc69192ade9f2227f66310d5688235f74003193db051e", func := "argosy/argosylaw12.CreditOnce", spec := "creditOnce", apart := false, narrowed := true }
def CreditOnceUptoSaid : Prop := creditOnceUptoRow.holds Try.pinned (OpenSpec.upto creditOnceSpec)

end Rows
end Go.Proofs.Ytninmfobgjkekaa
