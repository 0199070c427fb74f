/-
  DERIVED. GIVEN WITH THE SEED: THE CARDS: each row of YtkphmgfjlbdpgaaDoorRows.lean that lists a variable, with what it lists TIED to the program's text (the seventh form; the later family's looks); each row that meets fmt, with fmt's text TOLD by the authors' own Lean function (tested against real Go, not proved from fmt's source: count such statements apart). THE CARD IS WHAT COUNTS. Prove the row's statement (the work); the ties are given (YtkphmgfjlbdpgaaDoorTie.lean); close each card by the builder's one call (the guide's Derived/Test/ToyasCard.lean, 'card_holds'). Laid BY PROGRAM, IN A SANDBOX (cutbox-door.mjs). By AI agents, Wed Nov 11 2026. No macro, syntax, notation, axiom, sorry.
-/
import Derived.Test.YtkphmgfjlbdpgaaDoorRows
import GoSem.ClaimSeven
namespace Go.Proofs.YtkphmgfjlbdpgaaDoor
namespace Rows

/-- THE TIED CARD OF 'argosylaw5.FrameKnown'. -/
def frameKnownCard : Claim7 := { stood := { row := frameKnownRow, standIns := [], harness := (true, "aaaced5da63f18286f5d2400cc59f1174726890bb58cd332a604b8c0695a1b3c"), looks := false }, kinds := [], alts := [], laidByText := true, laidKinds := [.data, .data], laidTests := true, laidLooks := .later }
def FrameKnownCardSaid : Prop := Claim7.holds Tryd.pinned (.plain (OpenSpec.ofChange frameKnownSpec)) frameKnownCard

/-- THE TIED CARD OF 'argosylaw5.FrameBack'. -/
def frameBackCard : Claim7 := { stood := { row := frameBackRow, standIns := [], harness := (true, "aaaced5da63f18286f5d2400cc59f1174726890bb58cd332a604b8c0695a1b3c"), looks := false }, kinds := [], alts := [], laidByText := true, laidKinds := [.data, .data], laidTests := true, laidLooks := .later }
def FrameBackCardSaid : Prop := Claim7.holds Tryd.pinned (.plain (OpenSpec.ofChange frameBackSpec)) frameBackCard

/-- THE TIED CARD OF 'argosylaw5.FrameElicits'. -/
def frameElicitsCard : Claim7 := { stood := { row := frameElicitsRow, standIns := [], harness := (true, "aaaced5da63f18286f5d2400cc59f1174726890bb58cd332a604b8c0695a1b3c"), looks := false }, kinds := [], alts := [], laidByText := true, laidKinds := [.data, .data], laidTests := true, laidLooks := .later }
def FrameElicitsCardSaid : Prop := Claim7.holds Tryd.pinned (.plain (OpenSpec.ofChange frameElicitsSpec)) frameElicitsCard

/-- THE TIED CARD OF 'argosylaw5.FrameCut'. -/
def frameCutCard : Claim7 := { stood := { row := frameCutRow, standIns := [], harness := (true, "aaaced5da63f18286f5d2400cc59f1174726890bb58cd332a604b8c0695a1b3c"), looks := false }, kinds := [], alts := [], laidByText := true, laidKinds := [.data, .data], laidTests := true, laidLooks := .later }
def FrameCutCardSaid : Prop := Claim7.holds Tryd.pinned (.plain (OpenSpec.ofChange frameCutSpec)) frameCutCard

/-- THE TIED CARD OF 'argosylaw6.PacketKnown'. -/
def packetKnownCard : Claim7 := { stood := { row := packetKnownRow, standIns := [], harness := (true, "aaaced5da63f18286f5d2400cc59f1174726890bb58cd332a604b8c0695a1b3c"), looks := false }, kinds := [], alts := [], laidByText := true, laidKinds := [.data, .data], laidTests := true, laidLooks := .later }
def PacketKnownCardSaid : Prop := Claim7.holds Tryd.pinned (.plain (OpenSpec.ofChange packetKnownSpec)) packetKnownCard

/-- THE TIED CARD OF 'argosylaw6.PacketTells'. -/
def packetTellsCard : Claim7 := { stood := { row := packetTellsRow, standIns := [], harness := (true, "aaaced5da63f18286f5d2400cc59f1174726890bb58cd332a604b8c0695a1b3c"), looks := false }, kinds := [], alts := [], laidByText := true, laidKinds := [.data, .data], laidTests := true, laidLooks := .later }
def PacketTellsCardSaid : Prop := Claim7.holds Tryd.pinned (.plain (OpenSpec.ofChange packetTellsSpec)) packetTellsCard

/-- THE TIED CARD OF 'argosylaw6.PacketBack'. -/
def packetBackCard : Claim7 := { stood := { row := packetBackRow, standIns := [], harness := (true, "aaaced5da63f18286f5d2400cc59f1174726890bb58cd332a604b8c0695a1b3c"), looks := false }, kinds := [], alts := [], laidByText := true, laidKinds := [.data, .data], laidTests := true, laidLooks := .later }
def PacketBackCardSaid : Prop := Claim7.holds Tryd.pinned (.plain (OpenSpec.ofChange packetBackSpec)) packetBackCard

/-- THE TIED CARD OF 'argosylaw6.PacketRoom'. -/
def packetRoomCard : Claim7 := { stood := { row := packetRoomRow, standIns := [], harness := (true, "aaaced5da63f18286f5d2400cc59f1174726890bb58cd332a604b8c0695a1b3c"), looks := false }, kinds := [], alts := [], laidByText := true, laidKinds := [.data, .data], laidTests := true, laidLooks := .later }
def PacketRoomCardSaid : Prop := Claim7.holds Tryd.pinned (.plain (OpenSpec.ofChange packetRoomSpec)) packetRoomCard

/-- THE TIED CARD OF 'argosylaw6.PacketMany'. -/
def packetManyCard : Claim7 := { stood := { row := packetManyRow, standIns := [], harness := (true, "aaaced5da63f18286f5d2400cc59f1174726890bb58cd332a604b8c0695a1b3c"), looks := false }, kinds := [], alts := [], laidByText := true, laidKinds := [.data, .data], laidTests := true, laidLooks := .later }
def PacketManyCardSaid : Prop := Claim7.holds Tryd.pinned (.plain (OpenSpec.ofChange packetManySpec)) packetManyCard

/-- THE SECOND FORM's CARD OF 'argosylaw5.FrameKnown'. -/
def frameKnownUptoCard : Claim7 := { stood := { row := frameKnownUptoRow, standIns := [], harness := (true, "aaaced5da63f18286f5d2400cc59f1174726890bb58cd332a604b8c0695a1b3c"), looks := false }, kinds := [], alts := [], laidByText := true, laidKinds := [.data, .data], laidTests := true, laidLooks := .later }
def FrameKnownUptoCardSaid : Prop := Claim7.holds Tryd.pinned (.plain (OpenSpec.upto frameKnownSpec)) frameKnownUptoCard

/-- THE SECOND FORM's CARD OF 'argosylaw5.FrameBack'. -/
def frameBackUptoCard : Claim7 := { stood := { row := frameBackUptoRow, standIns := [], harness := (true, "aaaced5da63f18286f5d2400cc59f1174726890bb58cd332a604b8c0695a1b3c"), looks := false }, kinds := [], alts := [], laidByText := true, laidKinds := [.data, .data], laidTests := true, laidLooks := .later }
def FrameBackUptoCardSaid : Prop := Claim7.holds Tryd.pinned (.plain (OpenSpec.upto frameBackSpec)) frameBackUptoCard

/-- THE SECOND FORM's CARD OF 'argosylaw5.FrameElicits'. -/
def frameElicitsUptoCard : Claim7 := { stood := { row := frameElicitsUptoRow, standIns := [], harness := (true, "aaaced5da63f18286f5d2400cc59f1174726890bb58cd332a604b8c0695a1b3c"), looks := false }, kinds := [], alts := [], laidByText := true, laidKinds := [.data, .data], laidTests := true, laidLooks := .later }
def FrameElicitsUptoCardSaid : Prop := Claim7.holds Tryd.pinned (.plain (OpenSpec.upto frameElicitsSpec)) frameElicitsUptoCard

/-- THE SECOND FORM's CARD OF 'argosylaw5.FrameCut'. -/
def frameCutUptoCard : Claim7 := { stood := { row := frameCutUptoRow, standIns := [], harness := (true, "aaaced5da63f18286f5d2400cc59f1174726890bb58cd332a604b8c0695a1b3c"), looks := false }, kinds := [], alts := [], laidByText := true, laidKinds := [.data, .data], laidTests := true, laidLooks := .later }
def FrameCutUptoCardSaid : Prop := Claim7.holds Tryd.pinned (.plain (OpenSpec.upto frameCutSpec)) frameCutUptoCard

/-- THE SECOND FORM's CARD OF 'argosylaw6.PacketKnown'. -/
def packetKnownUptoCard : Claim7 := { stood := { row := packetKnownUptoRow, standIns := [], harness := (true, "aaaced5da63f18286f5d2400cc59f1174726890bb58cd332a604b8c0695a1b3c"), looks := false }, kinds := [], alts := [], laidByText := true, laidKinds := [.data, .data], laidTests := true, laidLooks := .later }
def PacketKnownUptoCardSaid : Prop := Claim7.holds Tryd.pinned (.plain (OpenSpec.upto packetKnownSpec)) packetKnownUptoCard

/-- THE SECOND FORM's CARD OF 'argosylaw6.PacketTells'. -/
def packetTellsUptoCard : Claim7 := { stood := { row := packetTellsUptoRow, standIns := [], harness := (true, "aaaced5da63f18286f5d2400cc59f1174726890bb58cd332a604b8c0695a1b3c"), looks := false }, kinds := [], alts := [], laidByText := true, laidKinds := [.data, .data], laidTests := true, laidLooks := .later }
def PacketTellsUptoCardSaid : Prop := Claim7.holds Tryd.pinned (.plain (OpenSpec.upto packetTellsSpec)) packetTellsUptoCard

/-- THE SECOND FORM's CARD OF 'argosylaw6.PacketBack'. -/
def packetBackUptoCard : Claim7 := { stood := { row := packetBackUptoRow, standIns := [], harness := (true, "aaaced5da63f18286f5d2400cc59f1174726890bb58cd332a604b8c0695a1b3c"), looks := false }, kinds := [], alts := [], laidByText := true, laidKinds := [.data, .data], laidTests := true, laidLooks := .later }
def PacketBackUptoCardSaid : Prop := Claim7.holds Tryd.pinned (.plain (OpenSpec.upto packetBackSpec)) packetBackUptoCard

/-- THE SECOND FORM's CARD OF 'argosylaw6.PacketRoom'. -/
def packetRoomUptoCard : Claim7 := { stood := { row := packetRoomUptoRow, standIns := [], harness := (true, "aaaced5da63f18286f5d2400cc59f1174726890bb58cd332a604b8c0695a1b3c"), looks := false }, kinds := [], alts := [], laidByText := true, laidKinds := [.data, .data], laidTests := true, laidLooks := .later }
def PacketRoomUptoCardSaid : Prop := Claim7.holds Tryd.pinned (.plain (OpenSpec.upto packetRoomSpec)) packetRoomUptoCard

/-- THE SECOND FORM's CARD OF 'argosylaw6.PacketMany'. -/
def packetManyUptoCard : Claim7 := { stood := { row := packetManyUptoRow, standIns := [], harness := (true, "aaaced5da63f18286f5d2400cc59f1174726890bb58cd332a604b8c0695a1b3c"), looks := false }, kinds := [], alts := [], laidByText := true, laidKinds := [.data, .data], laidTests := true, laidLooks := .later }
def PacketManyUptoCardSaid : Prop := Claim7.holds Tryd.pinned (.plain (OpenSpec.upto packetManySpec)) packetManyUptoCard
end Rows
end Go.Proofs.YtkphmgfjlbdpgaaDoor
