/-
  DERIVED. GIVEN WITH THE SEED: THE CARDS: each row of YtldllbmbcnipoabGreatDoorRows.lean that lists a variable, with what it lists TIED to the program's text (the seventh form; the later family's looks); each row that meets fmt, with fmt's text TOLD by the authors' own Lean function (tested against real Go, not proved from fmt's source: count such statements apart). THE CARD IS WHAT COUNTS. Prove the row's statement (the work); the ties are given (YtldllbmbcnipoabGreatDoorTie.lean); close each card by the builder's one call (the guide's Derived/Test/ToyasCard.lean, 'card_holds'). Laid BY PROGRAM, IN A SANDBOX (cutbox-door.mjs). By AI agents, Wed Nov 11 2026. No macro, syntax, notation, axiom, sorry.
-/
import Derived.Test.YtldllbmbcnipoabGreatDoorRows
import GoSem.ClaimSeven
namespace Go.Proofs.YtldllbmbcnipoabGreatDoor
namespace Rows

/-- THE TIED CARD OF 'emendationlaw15.NumberWritten'. -/
def numberWrittenCard : Claim7 := { stood := { row := numberWrittenRow, standIns := [], harness := (true, "db87dd2651689cb8b5bcac365818afd251aca0a3601b546d7c75cf786e5c6395"), looks := false }, kinds := [], alts := [], laidByText := true, laidKinds := [.data, .data, .data, .data, .pinned], laidTests := true, laidLooks := .later }
def NumberWrittenCardSaid : Prop := Claim7.holds Tryz.pinned (.plain (OpenSpec.ofChange numberWrittenSpec)) numberWrittenCard

/-- THE SECOND FORM's CARD OF 'emendationlaw15.NumberWritten'. -/
def numberWrittenUptoCard : Claim7 := { stood := { row := numberWrittenUptoRow, standIns := [], harness := (true, "db87dd2651689cb8b5bcac365818afd251aca0a3601b546d7c75cf786e5c6395"), looks := false }, kinds := [], alts := [], laidByText := true, laidKinds := [.data, .data, .data, .data, .pinned], laidTests := true, laidLooks := .later }
def NumberWrittenUptoCardSaid : Prop := Claim7.holds Tryz.pinned (.plain (OpenSpec.upto numberWrittenSpec)) numberWrittenUptoCard
end Rows
end Go.Proofs.YtldllbmbcnipoabGreatDoor
