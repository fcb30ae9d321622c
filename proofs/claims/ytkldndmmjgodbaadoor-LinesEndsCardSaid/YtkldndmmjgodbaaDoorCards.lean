/-
  DERIVED. GIVEN WITH THE SEED: THE CARDS: each row of YtkldndmmjgodbaaDoorRows.lean that lists a variable, with what it lists TIED to the program's text (the seventh form; the later family's looks); each row that meets fmt, with fmt's text TOLD by the authors' own Lean function (tested against real Go, not proved from fmt's source: count such statements apart). THE CARD IS WHAT COUNTS. Prove the row's statement (the work); the ties are given (YtkldndmmjgodbaaDoorTie.lean); close each card by the builder's one call (the guide's Derived/Test/ToyasCard.lean, 'card_holds'). Laid BY PROGRAM, IN A SANDBOX (cutbox-door.mjs). By AI agents, Wed Nov 11 2026. No macro, syntax, notation, axiom, sorry.
-/
import Derived.Test.YtkldndmmjgodbaaDoorRows
import GoSem.ClaimSeven
namespace Go.Proofs.YtkldndmmjgodbaaDoor
namespace Rows

/-- THE TIED CARD OF 'emendationlaw02.LinesSplit'. -/
def linesSplitCard : Claim7 := { stood := { row := linesSplitRow, standIns := [], harness := (true, "38a96f4d14c0807f9989cb62cba6e2eeb1c044a6920b8d8d494086acfa419b82"), looks := false }, kinds := [], alts := [], laidByText := true, laidKinds := [.data, .pinned], laidTests := true, laidLooks := .later }
def LinesSplitCardSaid : Prop := Claim7.holds Tryd.pinned (.plain (OpenSpec.ofChange linesSplitSpec)) linesSplitCard

/-- THE TIED CARD OF 'emendationlaw02.LinesTells'. -/
def linesTellsCard : Claim7 := { stood := { row := linesTellsRow, standIns := [], harness := (true, "38a96f4d14c0807f9989cb62cba6e2eeb1c044a6920b8d8d494086acfa419b82"), looks := false }, kinds := [], alts := [], laidByText := true, laidKinds := [.data, .pinned], laidTests := true, laidLooks := .later }
def LinesTellsCardSaid : Prop := Claim7.holds Tryd.pinned (.plain (OpenSpec.ofChange linesTellsSpec)) linesTellsCard

/-- THE TIED CARD OF 'emendationlaw02.LinesBack'. -/
def linesBackCard : Claim7 := { stood := { row := linesBackRow, standIns := [], harness := (true, "38a96f4d14c0807f9989cb62cba6e2eeb1c044a6920b8d8d494086acfa419b82"), looks := false }, kinds := [], alts := [], laidByText := true, laidKinds := [.data, .pinned], laidTests := true, laidLooks := .later }
def LinesBackCardSaid : Prop := Claim7.holds Tryd.pinned (.plain (OpenSpec.ofChange linesBackSpec)) linesBackCard

/-- THE TIED CARD OF 'emendationlaw02.LinesEnds'. -/
def linesEndsCard : Claim7 := { stood := { row := linesEndsRow, standIns := [], harness := (true, "38a96f4d14c0807f9989cb62cba6e2eeb1c044a6920b8d8d494086acfa419b82"), looks := false }, kinds := [], alts := [], laidByText := true, laidKinds := [.data, .pinned], laidTests := true, laidLooks := .later }
def LinesEndsCardSaid : Prop := Claim7.holds Tryd.pinned (.plain (OpenSpec.ofChange linesEndsSpec)) linesEndsCard

/-- THE TIED CARD OF 'emendationlaw02.LinesTrims'. -/
def linesTrimsCard : Claim7 := { stood := { row := linesTrimsRow, standIns := [], harness := (true, "38a96f4d14c0807f9989cb62cba6e2eeb1c044a6920b8d8d494086acfa419b82"), looks := false }, kinds := [], alts := [], laidByText := true, laidKinds := [.data, .pinned], laidTests := true, laidLooks := .later }
def LinesTrimsCardSaid : Prop := Claim7.holds Tryd.pinned (.plain (OpenSpec.ofChange linesTrimsSpec)) linesTrimsCard

/-- THE TIED CARD OF 'emendationlaw02.LinesRuns'. -/
def linesRunsCard : Claim7 := { stood := { row := linesRunsRow, standIns := [], harness := (true, "38a96f4d14c0807f9989cb62cba6e2eeb1c044a6920b8d8d494086acfa419b82"), looks := false }, kinds := [], alts := [], laidByText := true, laidKinds := [.data, .pinned], laidTests := true, laidLooks := .later }
def LinesRunsCardSaid : Prop := Claim7.holds Tryd.pinned (.plain (OpenSpec.ofChange linesRunsSpec)) linesRunsCard

/-- THE TIED CARD OF 'emendationlaw02.LinesParts'. -/
def linesPartsCard : Claim7 := { stood := { row := linesPartsRow, standIns := [], harness := (true, "38a96f4d14c0807f9989cb62cba6e2eeb1c044a6920b8d8d494086acfa419b82"), looks := false }, kinds := [], alts := [], laidByText := true, laidKinds := [.data, .pinned], laidTests := true, laidLooks := .later }
def LinesPartsCardSaid : Prop := Claim7.holds Tryd.pinned (.plain (OpenSpec.ofChange linesPartsSpec)) linesPartsCard

/-- THE SECOND FORM's CARD OF 'emendationlaw02.LinesSplit'. -/
def linesSplitUptoCard : Claim7 := { stood := { row := linesSplitUptoRow, standIns := [], harness := (true, "38a96f4d14c0807f9989cb62cba6e2eeb1c044a6920b8d8d494086acfa419b82"), looks := false }, kinds := [], alts := [], laidByText := true, laidKinds := [.data, .pinned], laidTests := true, laidLooks := .later }
def LinesSplitUptoCardSaid : Prop := Claim7.holds Tryd.pinned (.plain (OpenSpec.upto linesSplitSpec)) linesSplitUptoCard

/-- THE SECOND FORM's CARD OF 'emendationlaw02.LinesTells'. -/
def linesTellsUptoCard : Claim7 := { stood := { row := linesTellsUptoRow, standIns := [], harness := (true, "38a96f4d14c0807f9989cb62cba6e2eeb1c044a6920b8d8d494086acfa419b82"), looks := false }, kinds := [], alts := [], laidByText := true, laidKinds := [.data, .pinned], laidTests := true, laidLooks := .later }
def LinesTellsUptoCardSaid : Prop := Claim7.holds Tryd.pinned (.plain (OpenSpec.upto linesTellsSpec)) linesTellsUptoCard

/-- THE SECOND FORM's CARD OF 'emendationlaw02.LinesBack'. -/
def linesBackUptoCard : Claim7 := { stood := { row := linesBackUptoRow, standIns := [], harness := (true, "38a96f4d14c0807f9989cb62cba6e2eeb1c044a6920b8d8d494086acfa419b82"), looks := false }, kinds := [], alts := [], laidByText := true, laidKinds := [.data, .pinned], laidTests := true, laidLooks := .later }
def LinesBackUptoCardSaid : Prop := Claim7.holds Tryd.pinned (.plain (OpenSpec.upto linesBackSpec)) linesBackUptoCard

/-- THE SECOND FORM's CARD OF 'emendationlaw02.LinesEnds'. -/
def linesEndsUptoCard : Claim7 := { stood := { row := linesEndsUptoRow, standIns := [], harness := (true, "38a96f4d14c0807f9989cb62cba6e2eeb1c044a6920b8d8d494086acfa419b82"), looks := false }, kinds := [], alts := [], laidByText := true, laidKinds := [.data, .pinned], laidTests := true, laidLooks := .later }
def LinesEndsUptoCardSaid : Prop := Claim7.holds Tryd.pinned (.plain (OpenSpec.upto linesEndsSpec)) linesEndsUptoCard

/-- THE SECOND FORM's CARD OF 'emendationlaw02.LinesTrims'. -/
def linesTrimsUptoCard : Claim7 := { stood := { row := linesTrimsUptoRow, standIns := [], harness := (true, "38a96f4d14c0807f9989cb62cba6e2eeb1c044a6920b8d8d494086acfa419b82"), looks := false }, kinds := [], alts := [], laidByText := true, laidKinds := [.data, .pinned], laidTests := true, laidLooks := .later }
def LinesTrimsUptoCardSaid : Prop := Claim7.holds Tryd.pinned (.plain (OpenSpec.upto linesTrimsSpec)) linesTrimsUptoCard

/-- THE SECOND FORM's CARD OF 'emendationlaw02.LinesRuns'. -/
def linesRunsUptoCard : Claim7 := { stood := { row := linesRunsUptoRow, standIns := [], harness := (true, "38a96f4d14c0807f9989cb62cba6e2eeb1c044a6920b8d8d494086acfa419b82"), looks := false }, kinds := [], alts := [], laidByText := true, laidKinds := [.data, .pinned], laidTests := true, laidLooks := .later }
def LinesRunsUptoCardSaid : Prop := Claim7.holds Tryd.pinned (.plain (OpenSpec.upto linesRunsSpec)) linesRunsUptoCard

/-- THE SECOND FORM's CARD OF 'emendationlaw02.LinesParts'. -/
def linesPartsUptoCard : Claim7 := { stood := { row := linesPartsUptoRow, standIns := [], harness := (true, "38a96f4d14c0807f9989cb62cba6e2eeb1c044a6920b8d8d494086acfa419b82"), looks := false }, kinds := [], alts := [], laidByText := true, laidKinds := [.data, .pinned], laidTests := true, laidLooks := .later }
def LinesPartsUptoCardSaid : Prop := Claim7.holds Tryd.pinned (.plain (OpenSpec.upto linesPartsSpec)) linesPartsUptoCard
end Rows
end Go.Proofs.YtkldndmmjgodbaaDoor
