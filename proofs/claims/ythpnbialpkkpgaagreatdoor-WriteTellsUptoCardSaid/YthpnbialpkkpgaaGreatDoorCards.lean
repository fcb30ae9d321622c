/-
  DERIVED. GIVEN WITH THE SEED: THE CARDS: each row of YthpnbialpkkpgaaGreatDoorRows.lean that lists a variable, with what it lists TIED to the program's text (the seventh form; the later family's looks); each row that meets fmt, with fmt's text TOLD by the authors' own Lean function (tested against real Go, not proved from fmt's source: count such statements apart). THE CARD IS WHAT COUNTS. Prove the row's statement (the work); the ties are given (YthpnbialpkkpgaaGreatDoorTie.lean); close each card by the builder's one call (the guide's Derived/Test/ToyasCard.lean, 'card_holds'). Laid BY PROGRAM, IN A SANDBOX (cutbox-door.mjs). By AI agents, Wed Nov 11 2026. No macro, syntax, notation, axiom, sorry.
-/
import Derived.Test.YthpnbialpkkpgaaGreatDoorRows
import GoSem.ClaimSeven
namespace Go.Proofs.YthpnbialpkkpgaaGreatDoor
namespace Rows

/-- THE TIED CARD OF 'emendationlaw13.WriteTells'. -/
def writeTellsCard : Claim7 := { stood := { row := writeTellsRow, standIns := [], harness := (true, "673b8e02f12d89005f7bd42a9cae6f415c0e2b08b3cfc08f3cae794b6268713d"), looks := false }, kinds := [], alts := [], laidByText := true, laidKinds := [.data, .pinned], laidTests := true, laidLooks := .later }
def WriteTellsCardSaid : Prop := Claim7.holds Tryz.pinned (.plain (OpenSpec.ofChange writeTellsSpec)) writeTellsCard

/-- THE TIED CARD OF 'emendationlaw13.WriteBack'. -/
def writeBackCard : Claim7 := { stood := { row := writeBackRow, standIns := [], harness := (true, "673b8e02f12d89005f7bd42a9cae6f415c0e2b08b3cfc08f3cae794b6268713d"), looks := false }, kinds := [], alts := [], laidByText := true, laidKinds := [.data, .pinned], laidTests := true, laidLooks := .later }
def WriteBackCardSaid : Prop := Claim7.holds Tryz.pinned (.plain (OpenSpec.ofChange writeBackSpec)) writeBackCard

/-- THE TIED CARD OF 'emendationlaw13.WriteAgain'. -/
def writeAgainCard : Claim7 := { stood := { row := writeAgainRow, standIns := [], harness := (true, "673b8e02f12d89005f7bd42a9cae6f415c0e2b08b3cfc08f3cae794b6268713d"), looks := false }, kinds := [], alts := [], laidByText := true, laidKinds := [.data, .pinned], laidTests := true, laidLooks := .later }
def WriteAgainCardSaid : Prop := Claim7.holds Tryz.pinned (.plain (OpenSpec.ofChange writeAgainSpec)) writeAgainCard

/-- THE TIED CARD OF 'emendationlaw13.WriteParts'. -/
def writePartsCard : Claim7 := { stood := { row := writePartsRow, standIns := [], harness := (true, "673b8e02f12d89005f7bd42a9cae6f415c0e2b08b3cfc08f3cae794b6268713d"), looks := false }, kinds := [], alts := [], laidByText := true, laidKinds := [.data, .pinned], laidTests := true, laidLooks := .later }
def WritePartsCardSaid : Prop := Claim7.holds Tryz.pinned (.plain (OpenSpec.ofChange writePartsSpec)) writePartsCard

/-- THE TIED CARD OF 'emendationlaw13.WriteUnlike'. -/
def writeUnlikeCard : Claim7 := { stood := { row := writeUnlikeRow, standIns := [], harness := (true, "673b8e02f12d89005f7bd42a9cae6f415c0e2b08b3cfc08f3cae794b6268713d"), looks := false }, kinds := [], alts := [], laidByText := true, laidKinds := [.data, .pinned], laidTests := true, laidLooks := .later }
def WriteUnlikeCardSaid : Prop := Claim7.holds Tryz.pinned (.plain (OpenSpec.ofChange writeUnlikeSpec)) writeUnlikeCard

/-- THE TIED CARD OF 'emendationlaw13.WriteLines'. -/
def writeLinesCard : Claim7 := { stood := { row := writeLinesRow, standIns := [], harness := (true, "673b8e02f12d89005f7bd42a9cae6f415c0e2b08b3cfc08f3cae794b6268713d"), looks := false }, kinds := [], alts := [], laidByText := true, laidKinds := [.data, .pinned], laidTests := true, laidLooks := .later }
def WriteLinesCardSaid : Prop := Claim7.holds Tryz.pinned (.plain (OpenSpec.ofChange writeLinesSpec)) writeLinesCard

/-- THE TIED CARD OF 'emendationlaw13.WriteCodes'. -/
def writeCodesCard : Claim7 := { stood := { row := writeCodesRow, standIns := [], harness := (true, "673b8e02f12d89005f7bd42a9cae6f415c0e2b08b3cfc08f3cae794b6268713d"), looks := false }, kinds := [], alts := [], laidByText := true, laidKinds := [.data, .pinned], laidTests := true, laidLooks := .later }
def WriteCodesCardSaid : Prop := Claim7.holds Tryz.pinned (.plain (OpenSpec.ofChange writeCodesSpec)) writeCodesCard

/-- THE TIED CARD OF 'emendationlaw13.WriteKinds'. -/
def writeKindsCard : Claim7 := { stood := { row := writeKindsRow, standIns := [], harness := (true, "673b8e02f12d89005f7bd42a9cae6f415c0e2b08b3cfc08f3cae794b6268713d"), looks := false }, kinds := [], alts := [], laidByText := true, laidKinds := [.data, .pinned], laidTests := true, laidLooks := .later }
def WriteKindsCardSaid : Prop := Claim7.holds Tryz.pinned (.plain (OpenSpec.ofChange writeKindsSpec)) writeKindsCard

/-- THE SECOND FORM's CARD OF 'emendationlaw13.WriteTells'. -/
def writeTellsUptoCard : Claim7 := { stood := { row := writeTellsUptoRow, standIns := [], harness := (true, "673b8e02f12d89005f7bd42a9cae6f415c0e2b08b3cfc08f3cae794b6268713d"), looks := false }, kinds := [], alts := [], laidByText := true, laidKinds := [.data, .pinned], laidTests := true, laidLooks := .later }
def WriteTellsUptoCardSaid : Prop := Claim7.holds Tryz.pinned (.plain (OpenSpec.upto writeTellsSpec)) writeTellsUptoCard

/-- THE SECOND FORM's CARD OF 'emendationlaw13.WriteBack'. -/
def writeBackUptoCard : Claim7 := { stood := { row := writeBackUptoRow, standIns := [], harness := (true, "673b8e02f12d89005f7bd42a9cae6f415c0e2b08b3cfc08f3cae794b6268713d"), looks := false }, kinds := [], alts := [], laidByText := true, laidKinds := [.data, .pinned], laidTests := true, laidLooks := .later }
def WriteBackUptoCardSaid : Prop := Claim7.holds Tryz.pinned (.plain (OpenSpec.upto writeBackSpec)) writeBackUptoCard

/-- THE SECOND FORM's CARD OF 'emendationlaw13.WriteAgain'. -/
def writeAgainUptoCard : Claim7 := { stood := { row := writeAgainUptoRow, standIns := [], harness := (true, "673b8e02f12d89005f7bd42a9cae6f415c0e2b08b3cfc08f3cae794b6268713d"), looks := false }, kinds := [], alts := [], laidByText := true, laidKinds := [.data, .pinned], laidTests := true, laidLooks := .later }
def WriteAgainUptoCardSaid : Prop := Claim7.holds Tryz.pinned (.plain (OpenSpec.upto writeAgainSpec)) writeAgainUptoCard

/-- THE SECOND FORM's CARD OF 'emendationlaw13.WriteParts'. -/
def writePartsUptoCard : Claim7 := { stood := { row := writePartsUptoRow, standIns := [], harness := (true, "673b8e02f12d89005f7bd42a9cae6f415c0e2b08b3cfc08f3cae794b6268713d"), looks := false }, kinds := [], alts := [], laidByText := true, laidKinds := [.data, .pinned], laidTests := true, laidLooks := .later }
def WritePartsUptoCardSaid : Prop := Claim7.holds Tryz.pinned (.plain (OpenSpec.upto writePartsSpec)) writePartsUptoCard

/-- THE SECOND FORM's CARD OF 'emendationlaw13.WriteUnlike'. -/
def writeUnlikeUptoCard : Claim7 := { stood := { row := writeUnlikeUptoRow, standIns := [], harness := (true, "673b8e02f12d89005f7bd42a9cae6f415c0e2b08b3cfc08f3cae794b6268713d"), looks := false }, kinds := [], alts := [], laidByText := true, laidKinds := [.data, .pinned], laidTests := true, laidLooks := .later }
def WriteUnlikeUptoCardSaid : Prop := Claim7.holds Tryz.pinned (.plain (OpenSpec.upto writeUnlikeSpec)) writeUnlikeUptoCard

/-- THE SECOND FORM's CARD OF 'emendationlaw13.WriteLines'. -/
def writeLinesUptoCard : Claim7 := { stood := { row := writeLinesUptoRow, standIns := [], harness := (true, "673b8e02f12d89005f7bd42a9cae6f415c0e2b08b3cfc08f3cae794b6268713d"), looks := false }, kinds := [], alts := [], laidByText := true, laidKinds := [.data, .pinned], laidTests := true, laidLooks := .later }
def WriteLinesUptoCardSaid : Prop := Claim7.holds Tryz.pinned (.plain (OpenSpec.upto writeLinesSpec)) writeLinesUptoCard

/-- THE SECOND FORM's CARD OF 'emendationlaw13.WriteCodes'. -/
def writeCodesUptoCard : Claim7 := { stood := { row := writeCodesUptoRow, standIns := [], harness := (true, "673b8e02f12d89005f7bd42a9cae6f415c0e2b08b3cfc08f3cae794b6268713d"), looks := false }, kinds := [], alts := [], laidByText := true, laidKinds := [.data, .pinned], laidTests := true, laidLooks := .later }
def WriteCodesUptoCardSaid : Prop := Claim7.holds Tryz.pinned (.plain (OpenSpec.upto writeCodesSpec)) writeCodesUptoCard

/-- THE SECOND FORM's CARD OF 'emendationlaw13.WriteKinds'. -/
def writeKindsUptoCard : Claim7 := { stood := { row := writeKindsUptoRow, standIns := [], harness := (true, "673b8e02f12d89005f7bd42a9cae6f415c0e2b08b3cfc08f3cae794b6268713d"), looks := false }, kinds := [], alts := [], laidByText := true, laidKinds := [.data, .pinned], laidTests := true, laidLooks := .later }
def WriteKindsUptoCardSaid : Prop := Claim7.holds Tryz.pinned (.plain (OpenSpec.upto writeKindsSpec)) writeKindsUptoCard
end Rows
end Go.Proofs.YthpnbialpkkpgaaGreatDoor
