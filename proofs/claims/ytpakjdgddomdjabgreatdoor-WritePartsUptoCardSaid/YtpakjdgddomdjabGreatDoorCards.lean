/-
  DERIVED. GIVEN WITH THE SEED: THE CARDS: each row of YtpakjdgddomdjabGreatDoorRows.lean that lists a variable, with what it lists TIED to the program's text (the seventh form; the later family's looks); each row that meets fmt, with fmt's text TOLD by the authors' own Lean function (tested against real Go, not proved from fmt's source: count such statements apart). THE CARD IS WHAT COUNTS. Prove the row's statement (the work); the ties are given (YtpakjdgddomdjabGreatDoorTie.lean); close each card by the builder's one call (the guide's Derived/Test/ToyasCard.lean, 'card_holds'). Laid BY PROGRAM, IN A SANDBOX (cutbox-door.mjs). By AI agents, Wed Nov 11 2026. No macro, syntax, notation, axiom, sorry.
-/
import Derived.Test.YtpakjdgddomdjabGreatDoorRows
import GoSem.ClaimSeven
namespace Go.Proofs.YtpakjdgddomdjabGreatDoor
namespace Rows

/-- THE TIED CARD OF 'emendationlaw13.WriteBack'. -/
def writeBackCard : Claim7 := { stood := { row := writeBackRow, standIns := [], harness := (true, "603a504c428f1cc14d9bd631fed718861be801037f03e215ff8a905c992ded74"), looks := false }, kinds := [], alts := [], laidByText := true, laidKinds := [.data, .pinned], laidTests := true, laidLooks := .later }
def WriteBackCardSaid : Prop := Claim7.holds Tryz.pinned (.plain (OpenSpec.ofChange writeBackSpec)) writeBackCard

/-- THE TIED CARD OF 'emendationlaw13.WriteParts'. -/
def writePartsCard : Claim7 := { stood := { row := writePartsRow, standIns := [], harness := (true, "603a504c428f1cc14d9bd631fed718861be801037f03e215ff8a905c992ded74"), looks := false }, kinds := [], alts := [], laidByText := true, laidKinds := [.data, .pinned], laidTests := true, laidLooks := .later }
def WritePartsCardSaid : Prop := Claim7.holds Tryz.pinned (.plain (OpenSpec.ofChange writePartsSpec)) writePartsCard

/-- THE TIED CARD OF 'emendationlaw13.WriteCodes'. -/
def writeCodesCard : Claim7 := { stood := { row := writeCodesRow, standIns := [], harness := (true, "603a504c428f1cc14d9bd631fed718861be801037f03e215ff8a905c992ded74"), looks := false }, kinds := [], alts := [], laidByText := true, laidKinds := [.data, .pinned], laidTests := true, laidLooks := .later }
def WriteCodesCardSaid : Prop := Claim7.holds Tryz.pinned (.plain (OpenSpec.ofChange writeCodesSpec)) writeCodesCard

/-- THE SECOND FORM's CARD OF 'emendationlaw13.WriteBack'. -/
def writeBackUptoCard : Claim7 := { stood := { row := writeBackUptoRow, standIns := [], harness := (true, "603a504c428f1cc14d9bd631fed718861be801037f03e215ff8a905c992ded74"), looks := false }, kinds := [], alts := [], laidByText := true, laidKinds := [.data, .pinned], laidTests := true, laidLooks := .later }
def WriteBackUptoCardSaid : Prop := Claim7.holds Tryz.pinned (.plain (OpenSpec.upto writeBackSpec)) writeBackUptoCard

/-- THE SECOND FORM's CARD OF 'emendationlaw13.WriteParts'. -/
def writePartsUptoCard : Claim7 := { stood := { row := writePartsUptoRow, standIns := [], harness := (true, "603a504c428f1cc14d9bd631fed718861be801037f03e215ff8a905c992ded74"), looks := false }, kinds := [], alts := [], laidByText := true, laidKinds := [.data, .pinned], laidTests := true, laidLooks := .later }
def WritePartsUptoCardSaid : Prop := Claim7.holds Tryz.pinned (.plain (OpenSpec.upto writePartsSpec)) writePartsUptoCard

/-- THE SECOND FORM's CARD OF 'emendationlaw13.WriteCodes'. -/
def writeCodesUptoCard : Claim7 := { stood := { row := writeCodesUptoRow, standIns := [], harness := (true, "603a504c428f1cc14d9bd631fed718861be801037f03e215ff8a905c992ded74"), looks := false }, kinds := [], alts := [], laidByText := true, laidKinds := [.data, .pinned], laidTests := true, laidLooks := .later }
def WriteCodesUptoCardSaid : Prop := Claim7.holds Tryz.pinned (.plain (OpenSpec.upto writeCodesSpec)) writeCodesUptoCard
end Rows
end Go.Proofs.YtpakjdgddomdjabGreatDoor
