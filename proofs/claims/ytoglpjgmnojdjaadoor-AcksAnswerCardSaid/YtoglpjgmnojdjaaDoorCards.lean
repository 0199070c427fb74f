/-
  DERIVED. GIVEN WITH THE SEED: THE CARDS: each row of YtoglpjgmnojdjaaDoorRows.lean that lists a variable, with what it lists TIED to the program's text (the seventh form; the later family's looks); each row that meets fmt, with fmt's text TOLD by the authors' own Lean function (tested against real Go, not proved from fmt's source: count such statements apart). THE CARD IS WHAT COUNTS. Prove the row's statement (the work); the ties are given (YtoglpjgmnojdjaaDoorTie.lean); close each card by the builder's one call (the guide's Derived/Test/ToyasCard.lean, 'card_holds'). Laid BY PROGRAM, IN A SANDBOX (cutbox-door.mjs). By AI agents, Wed Nov 11 2026. No macro, syntax, notation, axiom, sorry.
-/
import Derived.Test.YtoglpjgmnojdjaaDoorRows
import GoSem.ClaimSeven
namespace Go.Proofs.YtoglpjgmnojdjaaDoor
namespace Rows

/-- THE TIED CARD OF 'argosylaw6.PacketTells'. -/
def packetTellsCard : Claim7 := { stood := { row := packetTellsRow, standIns := [], harness := (true, "f4e73d7d0d157eb7646aaad9220b9f17edd50fb30337f9f97b12f4ad42b6a379"), looks := false }, kinds := [], alts := [], laidByText := true, laidKinds := [.data, .data], laidTests := true, laidLooks := .later }
def PacketTellsCardSaid : Prop := Claim7.holds Tryd.pinned (.plain (OpenSpec.ofChange packetTellsSpec)) packetTellsCard

/-- THE TIED CARD OF 'argosylaw7.AcksAnswer'. -/
def acksAnswerCard : Claim7 := { stood := { row := acksAnswerRow, standIns := [], harness := (true, "f4e73d7d0d157eb7646aaad9220b9f17edd50fb30337f9f97b12f4ad42b6a379"), looks := false }, kinds := [], alts := [], laidByText := true, laidKinds := [.data, .data], laidTests := true, laidLooks := .later }
def AcksAnswerCardSaid : Prop := Claim7.holds Tryd.pinned (.plain (OpenSpec.ofChange acksAnswerSpec)) acksAnswerCard

/-- THE SECOND FORM's CARD OF 'argosylaw6.PacketTells'. -/
def packetTellsUptoCard : Claim7 := { stood := { row := packetTellsUptoRow, standIns := [], harness := (true, "f4e73d7d0d157eb7646aaad9220b9f17edd50fb30337f9f97b12f4ad42b6a379"), looks := false }, kinds := [], alts := [], laidByText := true, laidKinds := [.data, .data], laidTests := true, laidLooks := .later }
def PacketTellsUptoCardSaid : Prop := Claim7.holds Tryd.pinned (.plain (OpenSpec.upto packetTellsSpec)) packetTellsUptoCard

/-- THE SECOND FORM's CARD OF 'argosylaw7.AcksAnswer'. -/
def acksAnswerUptoCard : Claim7 := { stood := { row := acksAnswerUptoRow, standIns := [], harness := (true, "f4e73d7d0d157eb7646aaad9220b9f17edd50fb30337f9f97b12f4ad42b6a379"), looks := false }, kinds := [], alts := [], laidByText := true, laidKinds := [.data, .data], laidTests := true, laidLooks := .later }
def AcksAnswerUptoCardSaid : Prop := Claim7.holds Tryd.pinned (.plain (OpenSpec.upto acksAnswerSpec)) acksAnswerUptoCard
end Rows
end Go.Proofs.YtoglpjgmnojdjaaDoor
