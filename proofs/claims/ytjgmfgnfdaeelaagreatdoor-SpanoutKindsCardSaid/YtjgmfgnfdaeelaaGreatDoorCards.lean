/-
  DERIVED. GIVEN WITH THE SEED: THE CARDS: each row of YtjgmfgnfdaeelaaGreatDoorRows.lean that lists a variable, with what it lists TIED to the program's text (the seventh form; the later family's looks); each row that meets fmt, with fmt's text TOLD by the authors' own Lean function (tested against real Go, not proved from fmt's source: count such statements apart). THE CARD IS WHAT COUNTS. Prove the row's statement (the work); the ties are given (YtjgmfgnfdaeelaaGreatDoorTie.lean); close each card by the builder's one call (the guide's Derived/Test/ToyasCard.lean, 'card_holds'). Laid BY PROGRAM, IN A SANDBOX (cutbox-door.mjs). By AI agents, Wed Nov 11 2026. No macro, syntax, notation, axiom, sorry.
-/
import Derived.Test.YtjgmfgnfdaeelaaGreatDoorRows
import GoSem.ClaimSeven
namespace Go.Proofs.YtjgmfgnfdaeelaaGreatDoor
namespace Rows

/-- THE TIED CARD OF 'emendationlaw08.SpaninReads'. -/
def spaninReadsCard : Claim7 := { stood := { row := spaninReadsRow, standIns := [], harness := (true, "c1e23ae2847a2c30b18fad4d302fcaadee81625406fc1c143829be331fb24703"), looks := false }, kinds := [], alts := [], laidByText := true, laidKinds := [.data, .pinned], laidTests := true, laidLooks := .later }
def SpaninReadsCardSaid : Prop := Claim7.holds Tryz.pinned (.plain (OpenSpec.ofChange spaninReadsSpec)) spaninReadsCard

/-- THE TIED CARD OF 'emendationlaw08.SpaninNormal'. -/
def spaninNormalCard : Claim7 := { stood := { row := spaninNormalRow, standIns := [], harness := (true, "c1e23ae2847a2c30b18fad4d302fcaadee81625406fc1c143829be331fb24703"), looks := false }, kinds := [], alts := [], laidByText := true, laidKinds := [.data, .pinned], laidTests := true, laidLooks := .later }
def SpaninNormalCardSaid : Prop := Claim7.holds Tryz.pinned (.plain (OpenSpec.ofChange spaninNormalSpec)) spaninNormalCard

/-- THE TIED CARD OF 'emendationlaw08.SpaninPlain'. -/
def spaninPlainCard : Claim7 := { stood := { row := spaninPlainRow, standIns := [], harness := (true, "c1e23ae2847a2c30b18fad4d302fcaadee81625406fc1c143829be331fb24703"), looks := false }, kinds := [], alts := [], laidByText := true, laidKinds := [.data, .pinned], laidTests := true, laidLooks := .later }
def SpaninPlainCardSaid : Prop := Claim7.holds Tryz.pinned (.plain (OpenSpec.ofChange spaninPlainSpec)) spaninPlainCard

/-- THE TIED CARD OF 'emendationlaw08.SpaninShort'. -/
def spaninShortCard : Claim7 := { stood := { row := spaninShortRow, standIns := [], harness := (true, "c1e23ae2847a2c30b18fad4d302fcaadee81625406fc1c143829be331fb24703"), looks := false }, kinds := [], alts := [], laidByText := true, laidKinds := [.data, .pinned], laidTests := true, laidLooks := .later }
def SpaninShortCardSaid : Prop := Claim7.holds Tryz.pinned (.plain (OpenSpec.ofChange spaninShortSpec)) spaninShortCard

/-- THE TIED CARD OF 'emendationlaw08.SpaninLinks'. -/
def spaninLinksCard : Claim7 := { stood := { row := spaninLinksRow, standIns := [], harness := (true, "c1e23ae2847a2c30b18fad4d302fcaadee81625406fc1c143829be331fb24703"), looks := false }, kinds := [], alts := [], laidByText := true, laidKinds := [.data, .pinned], laidTests := true, laidLooks := .later }
def SpaninLinksCardSaid : Prop := Claim7.holds Tryz.pinned (.plain (OpenSpec.ofChange spaninLinksSpec)) spaninLinksCard

/-- THE TIED CARD OF 'emendationlaw08.SpaninCodes'. -/
def spaninCodesCard : Claim7 := { stood := { row := spaninCodesRow, standIns := [], harness := (true, "c1e23ae2847a2c30b18fad4d302fcaadee81625406fc1c143829be331fb24703"), looks := false }, kinds := [], alts := [], laidByText := true, laidKinds := [.data, .pinned], laidTests := true, laidLooks := .later }
def SpaninCodesCardSaid : Prop := Claim7.holds Tryz.pinned (.plain (OpenSpec.ofChange spaninCodesSpec)) spaninCodesCard

/-- THE TIED CARD OF 'emendationlaw09.SpanoutBack'. -/
def spanoutBackCard : Claim7 := { stood := { row := spanoutBackRow, standIns := [], harness := (true, "c1e23ae2847a2c30b18fad4d302fcaadee81625406fc1c143829be331fb24703"), looks := false }, kinds := [], alts := [], laidByText := true, laidKinds := [.data, .pinned], laidTests := true, laidLooks := .later }
def SpanoutBackCardSaid : Prop := Claim7.holds Tryz.pinned (.plain (OpenSpec.ofChange spanoutBackSpec)) spanoutBackCard

/-- THE TIED CARD OF 'emendationlaw09.SpanoutAgain'. -/
def spanoutAgainCard : Claim7 := { stood := { row := spanoutAgainRow, standIns := [], harness := (true, "c1e23ae2847a2c30b18fad4d302fcaadee81625406fc1c143829be331fb24703"), looks := false }, kinds := [], alts := [], laidByText := true, laidKinds := [.data, .pinned], laidTests := true, laidLooks := .later }
def SpanoutAgainCardSaid : Prop := Claim7.holds Tryz.pinned (.plain (OpenSpec.ofChange spanoutAgainSpec)) spanoutAgainCard

/-- THE TIED CARD OF 'emendationlaw09.SpanoutEscapes'. -/
def spanoutEscapesCard : Claim7 := { stood := { row := spanoutEscapesRow, standIns := [], harness := (true, "c1e23ae2847a2c30b18fad4d302fcaadee81625406fc1c143829be331fb24703"), looks := false }, kinds := [], alts := [], laidByText := true, laidKinds := [.data, .pinned], laidTests := true, laidLooks := .later }
def SpanoutEscapesCardSaid : Prop := Claim7.holds Tryz.pinned (.plain (OpenSpec.ofChange spanoutEscapesSpec)) spanoutEscapesCard

/-- THE TIED CARD OF 'emendationlaw09.SpanoutKinds'. -/
def spanoutKindsCard : Claim7 := { stood := { row := spanoutKindsRow, standIns := [], harness := (true, "c1e23ae2847a2c30b18fad4d302fcaadee81625406fc1c143829be331fb24703"), looks := false }, kinds := [], alts := [], laidByText := true, laidKinds := [.data, .pinned], laidTests := true, laidLooks := .later }
def SpanoutKindsCardSaid : Prop := Claim7.holds Tryz.pinned (.plain (OpenSpec.ofChange spanoutKindsSpec)) spanoutKindsCard

/-- THE SECOND FORM's CARD OF 'emendationlaw08.SpaninReads'. -/
def spaninReadsUptoCard : Claim7 := { stood := { row := spaninReadsUptoRow, standIns := [], harness := (true, "c1e23ae2847a2c30b18fad4d302fcaadee81625406fc1c143829be331fb24703"), looks := false }, kinds := [], alts := [], laidByText := true, laidKinds := [.data, .pinned], laidTests := true, laidLooks := .later }
def SpaninReadsUptoCardSaid : Prop := Claim7.holds Tryz.pinned (.plain (OpenSpec.upto spaninReadsSpec)) spaninReadsUptoCard

/-- THE SECOND FORM's CARD OF 'emendationlaw08.SpaninNormal'. -/
def spaninNormalUptoCard : Claim7 := { stood := { row := spaninNormalUptoRow, standIns := [], harness := (true, "c1e23ae2847a2c30b18fad4d302fcaadee81625406fc1c143829be331fb24703"), looks := false }, kinds := [], alts := [], laidByText := true, laidKinds := [.data, .pinned], laidTests := true, laidLooks := .later }
def SpaninNormalUptoCardSaid : Prop := Claim7.holds Tryz.pinned (.plain (OpenSpec.upto spaninNormalSpec)) spaninNormalUptoCard

/-- THE SECOND FORM's CARD OF 'emendationlaw08.SpaninPlain'. -/
def spaninPlainUptoCard : Claim7 := { stood := { row := spaninPlainUptoRow, standIns := [], harness := (true, "c1e23ae2847a2c30b18fad4d302fcaadee81625406fc1c143829be331fb24703"), looks := false }, kinds := [], alts := [], laidByText := true, laidKinds := [.data, .pinned], laidTests := true, laidLooks := .later }
def SpaninPlainUptoCardSaid : Prop := Claim7.holds Tryz.pinned (.plain (OpenSpec.upto spaninPlainSpec)) spaninPlainUptoCard

/-- THE SECOND FORM's CARD OF 'emendationlaw08.SpaninShort'. -/
def spaninShortUptoCard : Claim7 := { stood := { row := spaninShortUptoRow, standIns := [], harness := (true, "c1e23ae2847a2c30b18fad4d302fcaadee81625406fc1c143829be331fb24703"), looks := false }, kinds := [], alts := [], laidByText := true, laidKinds := [.data, .pinned], laidTests := true, laidLooks := .later }
def SpaninShortUptoCardSaid : Prop := Claim7.holds Tryz.pinned (.plain (OpenSpec.upto spaninShortSpec)) spaninShortUptoCard

/-- THE SECOND FORM's CARD OF 'emendationlaw08.SpaninLinks'. -/
def spaninLinksUptoCard : Claim7 := { stood := { row := spaninLinksUptoRow, standIns := [], harness := (true, "c1e23ae2847a2c30b18fad4d302fcaadee81625406fc1c143829be331fb24703"), looks := false }, kinds := [], alts := [], laidByText := true, laidKinds := [.data, .pinned], laidTests := true, laidLooks := .later }
def SpaninLinksUptoCardSaid : Prop := Claim7.holds Tryz.pinned (.plain (OpenSpec.upto spaninLinksSpec)) spaninLinksUptoCard

/-- THE SECOND FORM's CARD OF 'emendationlaw08.SpaninCodes'. -/
def spaninCodesUptoCard : Claim7 := { stood := { row := spaninCodesUptoRow, standIns := [], harness := (true, "c1e23ae2847a2c30b18fad4d302fcaadee81625406fc1c143829be331fb24703"), looks := false }, kinds := [], alts := [], laidByText := true, laidKinds := [.data, .pinned], laidTests := true, laidLooks := .later }
def SpaninCodesUptoCardSaid : Prop := Claim7.holds Tryz.pinned (.plain (OpenSpec.upto spaninCodesSpec)) spaninCodesUptoCard

/-- THE SECOND FORM's CARD OF 'emendationlaw09.SpanoutBack'. -/
def spanoutBackUptoCard : Claim7 := { stood := { row := spanoutBackUptoRow, standIns := [], harness := (true, "c1e23ae2847a2c30b18fad4d302fcaadee81625406fc1c143829be331fb24703"), looks := false }, kinds := [], alts := [], laidByText := true, laidKinds := [.data, .pinned], laidTests := true, laidLooks := .later }
def SpanoutBackUptoCardSaid : Prop := Claim7.holds Tryz.pinned (.plain (OpenSpec.upto spanoutBackSpec)) spanoutBackUptoCard

/-- THE SECOND FORM's CARD OF 'emendationlaw09.SpanoutAgain'. -/
def spanoutAgainUptoCard : Claim7 := { stood := { row := spanoutAgainUptoRow, standIns := [], harness := (true, "c1e23ae2847a2c30b18fad4d302fcaadee81625406fc1c143829be331fb24703"), looks := false }, kinds := [], alts := [], laidByText := true, laidKinds := [.data, .pinned], laidTests := true, laidLooks := .later }
def SpanoutAgainUptoCardSaid : Prop := Claim7.holds Tryz.pinned (.plain (OpenSpec.upto spanoutAgainSpec)) spanoutAgainUptoCard

/-- THE SECOND FORM's CARD OF 'emendationlaw09.SpanoutEscapes'. -/
def spanoutEscapesUptoCard : Claim7 := { stood := { row := spanoutEscapesUptoRow, standIns := [], harness := (true, "c1e23ae2847a2c30b18fad4d302fcaadee81625406fc1c143829be331fb24703"), looks := false }, kinds := [], alts := [], laidByText := true, laidKinds := [.data, .pinned], laidTests := true, laidLooks := .later }
def SpanoutEscapesUptoCardSaid : Prop := Claim7.holds Tryz.pinned (.plain (OpenSpec.upto spanoutEscapesSpec)) spanoutEscapesUptoCard

/-- THE SECOND FORM's CARD OF 'emendationlaw09.SpanoutKinds'. -/
def spanoutKindsUptoCard : Claim7 := { stood := { row := spanoutKindsUptoRow, standIns := [], harness := (true, "c1e23ae2847a2c30b18fad4d302fcaadee81625406fc1c143829be331fb24703"), looks := false }, kinds := [], alts := [], laidByText := true, laidKinds := [.data, .pinned], laidTests := true, laidLooks := .later }
def SpanoutKindsUptoCardSaid : Prop := Claim7.holds Tryz.pinned (.plain (OpenSpec.upto spanoutKindsSpec)) spanoutKindsUptoCard
end Rows
end Go.Proofs.YtjgmfgnfdaeelaaGreatDoor
