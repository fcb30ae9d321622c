/-
  DERIVED. GIVEN WITH THE SEED: THE CARDS: each row of YtjgmfgnfdaeelaaDoorRows.lean that lists a variable, with what it lists TIED to the program's text (the seventh form; the later family's looks); each row that meets fmt, with fmt's text TOLD by the authors' own Lean function (tested against real Go, not proved from fmt's source: count such statements apart). THE CARD IS WHAT COUNTS. Prove the row's statement (the work); the ties are given (YtjgmfgnfdaeelaaDoorTie.lean); close each card by the builder's one call (the guide's Derived/Test/ToyasCard.lean, 'card_holds'). Laid BY PROGRAM, IN A SANDBOX (cutbox-door.mjs). By AI agents, Wed Nov 11 2026. No macro, syntax, notation, axiom, sorry.
-/
import Derived.Test.YtjgmfgnfdaeelaaDoorRows
import GoSem.ClaimSeven
namespace Go.Proofs.YtjgmfgnfdaeelaaDoor
namespace Rows

/-- THE TIED CARD OF 'emendationlaw09.SpanoutWrites'. -/
def spanoutWritesCard : Claim7 := { stood := { row := spanoutWritesRow, standIns := [], harness := (true, "f90ddb98ea4866c111fe960e10a7cf9f661f9c53c7cae13ed4210d628052c38c"), looks := false }, kinds := [], alts := [], laidByText := true, laidKinds := [.data, .pinned], laidTests := true, laidLooks := .later }
def SpanoutWritesCardSaid : Prop := Claim7.holds Tryd.pinned (.plain (OpenSpec.ofChange spanoutWritesSpec)) spanoutWritesCard

/-- THE TIED CARD OF 'emendationlaw09.SpanoutUnlike'. -/
def spanoutUnlikeCard : Claim7 := { stood := { row := spanoutUnlikeRow, standIns := [], harness := (true, "f90ddb98ea4866c111fe960e10a7cf9f661f9c53c7cae13ed4210d628052c38c"), looks := false }, kinds := [], alts := [], laidByText := true, laidKinds := [.data, .pinned], laidTests := true, laidLooks := .later }
def SpanoutUnlikeCardSaid : Prop := Claim7.holds Tryd.pinned (.plain (OpenSpec.ofChange spanoutUnlikeSpec)) spanoutUnlikeCard

/-- THE TIED CARD OF 'emendationlaw09.SpanoutJoins'. -/
def spanoutJoinsCard : Claim7 := { stood := { row := spanoutJoinsRow, standIns := [], harness := (true, "f90ddb98ea4866c111fe960e10a7cf9f661f9c53c7cae13ed4210d628052c38c"), looks := false }, kinds := [], alts := [], laidByText := true, laidKinds := [.data, .pinned], laidTests := true, laidLooks := .later }
def SpanoutJoinsCardSaid : Prop := Claim7.holds Tryd.pinned (.plain (OpenSpec.ofChange spanoutJoinsSpec)) spanoutJoinsCard

/-- THE SECOND FORM's CARD OF 'emendationlaw09.SpanoutWrites'. -/
def spanoutWritesUptoCard : Claim7 := { stood := { row := spanoutWritesUptoRow, standIns := [], harness := (true, "f90ddb98ea4866c111fe960e10a7cf9f661f9c53c7cae13ed4210d628052c38c"), looks := false }, kinds := [], alts := [], laidByText := true, laidKinds := [.data, .pinned], laidTests := true, laidLooks := .later }
def SpanoutWritesUptoCardSaid : Prop := Claim7.holds Tryd.pinned (.plain (OpenSpec.upto spanoutWritesSpec)) spanoutWritesUptoCard

/-- THE SECOND FORM's CARD OF 'emendationlaw09.SpanoutUnlike'. -/
def spanoutUnlikeUptoCard : Claim7 := { stood := { row := spanoutUnlikeUptoRow, standIns := [], harness := (true, "f90ddb98ea4866c111fe960e10a7cf9f661f9c53c7cae13ed4210d628052c38c"), looks := false }, kinds := [], alts := [], laidByText := true, laidKinds := [.data, .pinned], laidTests := true, laidLooks := .later }
def SpanoutUnlikeUptoCardSaid : Prop := Claim7.holds Tryd.pinned (.plain (OpenSpec.upto spanoutUnlikeSpec)) spanoutUnlikeUptoCard

/-- THE SECOND FORM's CARD OF 'emendationlaw09.SpanoutJoins'. -/
def spanoutJoinsUptoCard : Claim7 := { stood := { row := spanoutJoinsUptoRow, standIns := [], harness := (true, "f90ddb98ea4866c111fe960e10a7cf9f661f9c53c7cae13ed4210d628052c38c"), looks := false }, kinds := [], alts := [], laidByText := true, laidKinds := [.data, .pinned], laidTests := true, laidLooks := .later }
def SpanoutJoinsUptoCardSaid : Prop := Claim7.holds Tryd.pinned (.plain (OpenSpec.upto spanoutJoinsSpec)) spanoutJoinsUptoCard
end Rows
end Go.Proofs.YtjgmfgnfdaeelaaDoor
