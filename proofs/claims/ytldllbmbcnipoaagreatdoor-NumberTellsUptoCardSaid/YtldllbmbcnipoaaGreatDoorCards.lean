/-
  DERIVED. GIVEN WITH THE SEED: THE CARDS: each row of YtldllbmbcnipoaaGreatDoorRows.lean that lists a variable, with what it lists TIED to the program's text (the seventh form; the later family's looks); each row that meets fmt, with fmt's text TOLD by the authors' own Lean function (tested against real Go, not proved from fmt's source: count such statements apart). THE CARD IS WHAT COUNTS. Prove the row's statement (the work); the ties are given (YtldllbmbcnipoaaGreatDoorTie.lean); close each card by the builder's one call (the guide's Derived/Test/ToyasCard.lean, 'card_holds'). Laid BY PROGRAM, IN A SANDBOX (cutbox-door.mjs). By AI agents, Wed Nov 11 2026. No macro, syntax, notation, axiom, sorry.
-/
import Derived.Test.YtldllbmbcnipoaaGreatDoorRows
import GoSem.ClaimSeven
namespace Go.Proofs.YtldllbmbcnipoaaGreatDoor
namespace Rows

/-- THE TIED CARD OF 'emendationlaw15.NumberTells'. -/
def numberTellsCard : Claim7 := { stood := { row := numberTellsRow, standIns := [], harness := (true, "8f8020b1a4deb9089a99bb050e09965f2dd5565c30bb672d793aa61fc3e0a0c9"), looks := false }, kinds := [], alts := [], laidByText := true, laidKinds := [.data, .data, .data], laidTests := true, laidLooks := .later }
def NumberTellsCardSaid : Prop := Claim7.holds Tryz.pinned (.plain (OpenSpec.ofChange numberTellsSpec)) numberTellsCard

/-- THE SECOND FORM's CARD OF 'emendationlaw15.NumberTells'. -/
def numberTellsUptoCard : Claim7 := { stood := { row := numberTellsUptoRow, standIns := [], harness := (true, "8f8020b1a4deb9089a99bb050e09965f2dd5565c30bb672d793aa61fc3e0a0c9"), looks := false }, kinds := [], alts := [], laidByText := true, laidKinds := [.data, .data, .data], laidTests := true, laidLooks := .later }
def NumberTellsUptoCardSaid : Prop := Claim7.holds Tryz.pinned (.plain (OpenSpec.upto numberTellsSpec)) numberTellsUptoCard
end Rows
end Go.Proofs.YtldllbmbcnipoaaGreatDoor
