/-
  DERIVED. GIVEN WITH THE SEED: THE CARDS: each row of YtldllbmbcnipoaaDoorRows.lean that lists a variable, with what it lists TIED to the program's text (the seventh form; the later family's looks); each row that meets fmt, with fmt's text TOLD by the authors' own Lean function (tested against real Go, not proved from fmt's source: count such statements apart). THE CARD IS WHAT COUNTS. Prove the row's statement (the work); the ties are given (YtldllbmbcnipoaaDoorTie.lean); close each card by the builder's one call (the guide's Derived/Test/ToyasCard.lean, 'card_holds'). Laid BY PROGRAM, IN A SANDBOX (cutbox-door.mjs). By AI agents, Wed Nov 11 2026. No macro, syntax, notation, axiom, sorry.
-/
import Derived.Test.YtldllbmbcnipoaaDoorRows
import GoSem.ClaimSeven
namespace Go.Proofs.YtldllbmbcnipoaaDoor
namespace Rows

/-- THE TIED CARD OF 'emendationlaw15.NumberSame'. -/
def numberSameCard : Claim7 := { stood := { row := numberSameRow, standIns := [], harness := (true, "92864ed137bd4747d308e0199a62def82ccb30003f21531200426a96a0fadf9f"), looks := false }, kinds := [], alts := [], laidByText := true, laidKinds := [.data, .data, .data], laidTests := true, laidLooks := .later }
def NumberSameCardSaid : Prop := Claim7.holds Tryd.pinned (.plain (OpenSpec.ofChange numberSameSpec)) numberSameCard

/-- THE TIED CARD OF 'emendationlaw15.NumberAlike'. -/
def numberAlikeCard : Claim7 := { stood := { row := numberAlikeRow, standIns := [], harness := (true, "92864ed137bd4747d308e0199a62def82ccb30003f21531200426a96a0fadf9f"), looks := false }, kinds := [], alts := [], laidByText := true, laidKinds := [.data, .data, .data], laidTests := true, laidLooks := .later }
def NumberAlikeCardSaid : Prop := Claim7.holds Tryd.pinned (.plain (OpenSpec.ofChange numberAlikeSpec)) numberAlikeCard

/-- THE TIED CARD OF 'emendationlaw15.NumberOrder'. -/
def numberOrderCard : Claim7 := { stood := { row := numberOrderRow, standIns := [], harness := (true, "92864ed137bd4747d308e0199a62def82ccb30003f21531200426a96a0fadf9f"), looks := false }, kinds := [], alts := [], laidByText := true, laidKinds := [.data, .data, .data], laidTests := true, laidLooks := .later }
def NumberOrderCardSaid : Prop := Claim7.holds Tryd.pinned (.plain (OpenSpec.ofChange numberOrderSpec)) numberOrderCard

/-- THE TIED CARD OF 'emendationlaw15.NumberParts'. -/
def numberPartsCard : Claim7 := { stood := { row := numberPartsRow, standIns := [], harness := (true, "92864ed137bd4747d308e0199a62def82ccb30003f21531200426a96a0fadf9f"), looks := false }, kinds := [], alts := [], laidByText := true, laidKinds := [.data, .data, .data], laidTests := true, laidLooks := .later }
def NumberPartsCardSaid : Prop := Claim7.holds Tryd.pinned (.plain (OpenSpec.ofChange numberPartsSpec)) numberPartsCard

/-- THE SECOND FORM's CARD OF 'emendationlaw15.NumberSame'. -/
def numberSameUptoCard : Claim7 := { stood := { row := numberSameUptoRow, standIns := [], harness := (true, "92864ed137bd4747d308e0199a62def82ccb30003f21531200426a96a0fadf9f"), looks := false }, kinds := [], alts := [], laidByText := true, laidKinds := [.data, .data, .data], laidTests := true, laidLooks := .later }
def NumberSameUptoCardSaid : Prop := Claim7.holds Tryd.pinned (.plain (OpenSpec.upto numberSameSpec)) numberSameUptoCard

/-- THE SECOND FORM's CARD OF 'emendationlaw15.NumberAlike'. -/
def numberAlikeUptoCard : Claim7 := { stood := { row := numberAlikeUptoRow, standIns := [], harness := (true, "92864ed137bd4747d308e0199a62def82ccb30003f21531200426a96a0fadf9f"), looks := false }, kinds := [], alts := [], laidByText := true, laidKinds := [.data, .data, .data], laidTests := true, laidLooks := .later }
def NumberAlikeUptoCardSaid : Prop := Claim7.holds Tryd.pinned (.plain (OpenSpec.upto numberAlikeSpec)) numberAlikeUptoCard

/-- THE SECOND FORM's CARD OF 'emendationlaw15.NumberOrder'. -/
def numberOrderUptoCard : Claim7 := { stood := { row := numberOrderUptoRow, standIns := [], harness := (true, "92864ed137bd4747d308e0199a62def82ccb30003f21531200426a96a0fadf9f"), looks := false }, kinds := [], alts := [], laidByText := true, laidKinds := [.data, .data, .data], laidTests := true, laidLooks := .later }
def NumberOrderUptoCardSaid : Prop := Claim7.holds Tryd.pinned (.plain (OpenSpec.upto numberOrderSpec)) numberOrderUptoCard

/-- THE SECOND FORM's CARD OF 'emendationlaw15.NumberParts'. -/
def numberPartsUptoCard : Claim7 := { stood := { row := numberPartsUptoRow, standIns := [], harness := (true, "92864ed137bd4747d308e0199a62def82ccb30003f21531200426a96a0fadf9f"), looks := false }, kinds := [], alts := [], laidByText := true, laidKinds := [.data, .data, .data], laidTests := true, laidLooks := .later }
def NumberPartsUptoCardSaid : Prop := Claim7.holds Tryd.pinned (.plain (OpenSpec.upto numberPartsSpec)) numberPartsUptoCard
end Rows
end Go.Proofs.YtldllbmbcnipoaaDoor
