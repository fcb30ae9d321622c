/-
  DERIVED. GIVEN WITH THE SEED: THE CARDS: each row of YtpenjdnbnacebaaDoorRows.lean that lists a variable, with what it lists TIED to the program's text (the seventh form; the later family's looks); each row that meets fmt, with fmt's text TOLD by the authors' own Lean function (tested against real Go, not proved from fmt's source: count such statements apart). THE CARD IS WHAT COUNTS. Prove the row's statement (the work); the ties are given (YtpenjdnbnacebaaDoorTie.lean); close each card by the builder's one call (the guide's Derived/Test/ToyasCard.lean, 'card_holds'). Laid BY PROGRAM, IN A SANDBOX (cutbox-door.mjs). By AI agents, Wed Nov 11 2026. No macro, syntax, notation, axiom, sorry.
-/
import Derived.Test.YtpenjdnbnacebaaDoorRows
import GoSem.ClaimSeven
namespace Go.Proofs.YtpenjdnbnacebaaDoor
namespace Rows

/-- THE TIED CARD OF 'emendationlaw11.KindTells'. -/
def kindTellsCard : Claim7 := { stood := { row := kindTellsRow, standIns := [], harness := (true, "4cf4d8ca8a6005982a6ddc8b04c3698b2ceb9dc3ecc802dd7a10c5ec95317298"), looks := false }, kinds := [], alts := [], laidByText := true, laidKinds := [.data, .pinned], laidTests := true, laidLooks := .later }
def KindTellsCardSaid : Prop := Claim7.holds Tryd.pinned (.plain (OpenSpec.ofChange kindTellsSpec)) kindTellsCard

/-- THE TIED CARD OF 'emendationlaw11.KindMarks'. -/
def kindMarksCard : Claim7 := { stood := { row := kindMarksRow, standIns := [], harness := (true, "4cf4d8ca8a6005982a6ddc8b04c3698b2ceb9dc3ecc802dd7a10c5ec95317298"), looks := false }, kinds := [], alts := [], laidByText := true, laidKinds := [.data, .pinned], laidTests := true, laidLooks := .later }
def KindMarksCardSaid : Prop := Claim7.holds Tryd.pinned (.plain (OpenSpec.ofChange kindMarksSpec)) kindMarksCard

/-- THE TIED CARD OF 'emendationlaw11.KindHeads'. -/
def kindHeadsCard : Claim7 := { stood := { row := kindHeadsRow, standIns := [], harness := (true, "4cf4d8ca8a6005982a6ddc8b04c3698b2ceb9dc3ecc802dd7a10c5ec95317298"), looks := false }, kinds := [], alts := [], laidByText := true, laidKinds := [.data, .pinned], laidTests := true, laidLooks := .later }
def KindHeadsCardSaid : Prop := Claim7.holds Tryd.pinned (.plain (OpenSpec.ofChange kindHeadsSpec)) kindHeadsCard

/-- THE TIED CARD OF 'emendationlaw11.KindFences'. -/
def kindFencesCard : Claim7 := { stood := { row := kindFencesRow, standIns := [], harness := (true, "4cf4d8ca8a6005982a6ddc8b04c3698b2ceb9dc3ecc802dd7a10c5ec95317298"), looks := false }, kinds := [], alts := [], laidByText := true, laidKinds := [.data, .pinned], laidTests := true, laidLooks := .later }
def KindFencesCardSaid : Prop := Claim7.holds Tryd.pinned (.plain (OpenSpec.ofChange kindFencesSpec)) kindFencesCard

/-- THE TIED CARD OF 'emendationlaw11.KindPlain'. -/
def kindPlainCard : Claim7 := { stood := { row := kindPlainRow, standIns := [], harness := (true, "4cf4d8ca8a6005982a6ddc8b04c3698b2ceb9dc3ecc802dd7a10c5ec95317298"), looks := false }, kinds := [], alts := [], laidByText := true, laidKinds := [.data, .pinned], laidTests := true, laidLooks := .later }
def KindPlainCardSaid : Prop := Claim7.holds Tryd.pinned (.plain (OpenSpec.ofChange kindPlainSpec)) kindPlainCard

/-- THE SECOND FORM's CARD OF 'emendationlaw11.KindTells'. -/
def kindTellsUptoCard : Claim7 := { stood := { row := kindTellsUptoRow, standIns := [], harness := (true, "4cf4d8ca8a6005982a6ddc8b04c3698b2ceb9dc3ecc802dd7a10c5ec95317298"), looks := false }, kinds := [], alts := [], laidByText := true, laidKinds := [.data, .pinned], laidTests := true, laidLooks := .later }
def KindTellsUptoCardSaid : Prop := Claim7.holds Tryd.pinned (.plain (OpenSpec.upto kindTellsSpec)) kindTellsUptoCard

/-- THE SECOND FORM's CARD OF 'emendationlaw11.KindMarks'. -/
def kindMarksUptoCard : Claim7 := { stood := { row := kindMarksUptoRow, standIns := [], harness := (true, "4cf4d8ca8a6005982a6ddc8b04c3698b2ceb9dc3ecc802dd7a10c5ec95317298"), looks := false }, kinds := [], alts := [], laidByText := true, laidKinds := [.data, .pinned], laidTests := true, laidLooks := .later }
def KindMarksUptoCardSaid : Prop := Claim7.holds Tryd.pinned (.plain (OpenSpec.upto kindMarksSpec)) kindMarksUptoCard

/-- THE SECOND FORM's CARD OF 'emendationlaw11.KindHeads'. -/
def kindHeadsUptoCard : Claim7 := { stood := { row := kindHeadsUptoRow, standIns := [], harness := (true, "4cf4d8ca8a6005982a6ddc8b04c3698b2ceb9dc3ecc802dd7a10c5ec95317298"), looks := false }, kinds := [], alts := [], laidByText := true, laidKinds := [.data, .pinned], laidTests := true, laidLooks := .later }
def KindHeadsUptoCardSaid : Prop := Claim7.holds Tryd.pinned (.plain (OpenSpec.upto kindHeadsSpec)) kindHeadsUptoCard

/-- THE SECOND FORM's CARD OF 'emendationlaw11.KindFences'. -/
def kindFencesUptoCard : Claim7 := { stood := { row := kindFencesUptoRow, standIns := [], harness := (true, "4cf4d8ca8a6005982a6ddc8b04c3698b2ceb9dc3ecc802dd7a10c5ec95317298"), looks := false }, kinds := [], alts := [], laidByText := true, laidKinds := [.data, .pinned], laidTests := true, laidLooks := .later }
def KindFencesUptoCardSaid : Prop := Claim7.holds Tryd.pinned (.plain (OpenSpec.upto kindFencesSpec)) kindFencesUptoCard

/-- THE SECOND FORM's CARD OF 'emendationlaw11.KindPlain'. -/
def kindPlainUptoCard : Claim7 := { stood := { row := kindPlainUptoRow, standIns := [], harness := (true, "4cf4d8ca8a6005982a6ddc8b04c3698b2ceb9dc3ecc802dd7a10c5ec95317298"), looks := false }, kinds := [], alts := [], laidByText := true, laidKinds := [.data, .pinned], laidTests := true, laidLooks := .later }
def KindPlainUptoCardSaid : Prop := Claim7.holds Tryd.pinned (.plain (OpenSpec.upto kindPlainSpec)) kindPlainUptoCard
end Rows
end Go.Proofs.YtpenjdnbnacebaaDoor
