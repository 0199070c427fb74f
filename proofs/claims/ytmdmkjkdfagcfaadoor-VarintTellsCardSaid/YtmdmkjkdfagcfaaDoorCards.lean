/-
  DERIVED. GIVEN WITH THE SEED: THE CARDS: each row of YtmdmkjkdfagcfaaDoorRows.lean that lists a variable, with what it lists TIED to the program's text (the seventh form; the later family's looks); each row that meets fmt, with fmt's text TOLD by the authors' own Lean function (tested against real Go, not proved from fmt's source: count such statements apart). THE CARD IS WHAT COUNTS. Prove the row's statement (the work); the ties are given (YtmdmkjkdfagcfaaDoorTie.lean); close each card by the builder's one call (the guide's Derived/Test/ToyasCard.lean, 'card_holds'). Laid BY PROGRAM, IN A SANDBOX (cutbox-door.mjs). By AI agents, Wed Nov 11 2026. No macro, syntax, notation, axiom, sorry.
-/
import Derived.Test.YtmdmkjkdfagcfaaDoorRows
import GoSem.ClaimSeven
namespace Go.Proofs.YtmdmkjkdfagcfaaDoor
namespace Rows

/-- THE TIED CARD OF 'argosylaw1.VarintKnown'. -/
def varintKnownCard : Claim7 := { stood := { row := varintKnownRow, standIns := [], harness := (true, "5db14ad1f3228dd41058462ea23b5e53b36abaa9c95369f93a2279668d92265d"), looks := false }, kinds := [], alts := [], laidByText := true, laidKinds := [.data, .data], laidTests := true, laidLooks := .later }
def VarintKnownCardSaid : Prop := Claim7.holds Tryd.pinned (.plain (OpenSpec.ofChange varintKnownSpec)) varintKnownCard

/-- THE TIED CARD OF 'argosylaw1.VarintTells'. -/
def varintTellsCard : Claim7 := { stood := { row := varintTellsRow, standIns := [], harness := (true, "5db14ad1f3228dd41058462ea23b5e53b36abaa9c95369f93a2279668d92265d"), looks := false }, kinds := [], alts := [], laidByText := true, laidKinds := [.data, .data], laidTests := true, laidLooks := .later }
def VarintTellsCardSaid : Prop := Claim7.holds Tryd.pinned (.plain (OpenSpec.ofChange varintTellsSpec)) varintTellsCard

/-- THE TIED CARD OF 'argosylaw1.VarintBack'. -/
def varintBackCard : Claim7 := { stood := { row := varintBackRow, standIns := [], harness := (true, "5db14ad1f3228dd41058462ea23b5e53b36abaa9c95369f93a2279668d92265d"), looks := false }, kinds := [], alts := [], laidByText := true, laidKinds := [.data, .data], laidTests := true, laidLooks := .later }
def VarintBackCardSaid : Prop := Claim7.holds Tryd.pinned (.plain (OpenSpec.ofChange varintBackSpec)) varintBackCard

/-- THE TIED CARD OF 'argosylaw1.VarintShortest'. -/
def varintShortestCard : Claim7 := { stood := { row := varintShortestRow, standIns := [], harness := (true, "5db14ad1f3228dd41058462ea23b5e53b36abaa9c95369f93a2279668d92265d"), looks := false }, kinds := [], alts := [], laidByText := true, laidKinds := [.data, .data], laidTests := true, laidLooks := .later }
def VarintShortestCardSaid : Prop := Claim7.holds Tryd.pinned (.plain (OpenSpec.ofChange varintShortestSpec)) varintShortestCard

/-- THE TIED CARD OF 'argosylaw1.VarintLong'. -/
def varintLongCard : Claim7 := { stood := { row := varintLongRow, standIns := [], harness := (true, "5db14ad1f3228dd41058462ea23b5e53b36abaa9c95369f93a2279668d92265d"), looks := false }, kinds := [], alts := [], laidByText := true, laidKinds := [.data, .data], laidTests := true, laidLooks := .later }
def VarintLongCardSaid : Prop := Claim7.holds Tryd.pinned (.plain (OpenSpec.ofChange varintLongSpec)) varintLongCard

/-- THE TIED CARD OF 'argosylaw1.VarintNone'. -/
def varintNoneCard : Claim7 := { stood := { row := varintNoneRow, standIns := [], harness := (true, "5db14ad1f3228dd41058462ea23b5e53b36abaa9c95369f93a2279668d92265d"), looks := false }, kinds := [], alts := [], laidByText := true, laidKinds := [.data, .data], laidTests := true, laidLooks := .later }
def VarintNoneCardSaid : Prop := Claim7.holds Tryd.pinned (.plain (OpenSpec.ofChange varintNoneSpec)) varintNoneCard

/-- THE SECOND FORM's CARD OF 'argosylaw1.VarintKnown'. -/
def varintKnownUptoCard : Claim7 := { stood := { row := varintKnownUptoRow, standIns := [], harness := (true, "5db14ad1f3228dd41058462ea23b5e53b36abaa9c95369f93a2279668d92265d"), looks := false }, kinds := [], alts := [], laidByText := true, laidKinds := [.data, .data], laidTests := true, laidLooks := .later }
def VarintKnownUptoCardSaid : Prop := Claim7.holds Tryd.pinned (.plain (OpenSpec.upto varintKnownSpec)) varintKnownUptoCard

/-- THE SECOND FORM's CARD OF 'argosylaw1.VarintTells'. -/
def varintTellsUptoCard : Claim7 := { stood := { row := varintTellsUptoRow, standIns := [], harness := (true, "5db14ad1f3228dd41058462ea23b5e53b36abaa9c95369f93a2279668d92265d"), looks := false }, kinds := [], alts := [], laidByText := true, laidKinds := [.data, .data], laidTests := true, laidLooks := .later }
def VarintTellsUptoCardSaid : Prop := Claim7.holds Tryd.pinned (.plain (OpenSpec.upto varintTellsSpec)) varintTellsUptoCard

/-- THE SECOND FORM's CARD OF 'argosylaw1.VarintBack'. -/
def varintBackUptoCard : Claim7 := { stood := { row := varintBackUptoRow, standIns := [], harness := (true, "5db14ad1f3228dd41058462ea23b5e53b36abaa9c95369f93a2279668d92265d"), looks := false }, kinds := [], alts := [], laidByText := true, laidKinds := [.data, .data], laidTests := true, laidLooks := .later }
def VarintBackUptoCardSaid : Prop := Claim7.holds Tryd.pinned (.plain (OpenSpec.upto varintBackSpec)) varintBackUptoCard

/-- THE SECOND FORM's CARD OF 'argosylaw1.VarintShortest'. -/
def varintShortestUptoCard : Claim7 := { stood := { row := varintShortestUptoRow, standIns := [], harness := (true, "5db14ad1f3228dd41058462ea23b5e53b36abaa9c95369f93a2279668d92265d"), looks := false }, kinds := [], alts := [], laidByText := true, laidKinds := [.data, .data], laidTests := true, laidLooks := .later }
def VarintShortestUptoCardSaid : Prop := Claim7.holds Tryd.pinned (.plain (OpenSpec.upto varintShortestSpec)) varintShortestUptoCard

/-- THE SECOND FORM's CARD OF 'argosylaw1.VarintLong'. -/
def varintLongUptoCard : Claim7 := { stood := { row := varintLongUptoRow, standIns := [], harness := (true, "5db14ad1f3228dd41058462ea23b5e53b36abaa9c95369f93a2279668d92265d"), looks := false }, kinds := [], alts := [], laidByText := true, laidKinds := [.data, .data], laidTests := true, laidLooks := .later }
def VarintLongUptoCardSaid : Prop := Claim7.holds Tryd.pinned (.plain (OpenSpec.upto varintLongSpec)) varintLongUptoCard

/-- THE SECOND FORM's CARD OF 'argosylaw1.VarintNone'. -/
def varintNoneUptoCard : Claim7 := { stood := { row := varintNoneUptoRow, standIns := [], harness := (true, "5db14ad1f3228dd41058462ea23b5e53b36abaa9c95369f93a2279668d92265d"), looks := false }, kinds := [], alts := [], laidByText := true, laidKinds := [.data, .data], laidTests := true, laidLooks := .later }
def VarintNoneUptoCardSaid : Prop := Claim7.holds Tryd.pinned (.plain (OpenSpec.upto varintNoneSpec)) varintNoneUptoCard
end Rows
end Go.Proofs.YtmdmkjkdfagcfaaDoor
