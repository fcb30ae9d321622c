/-
  DERIVED. GIVEN WITH THE SEED: THE CARDS: each row of YtpakjdgddomdjaaDoorRows.lean that lists a variable, with what it lists TIED to the program's text (the seventh form; the later family's looks); each row that meets fmt, with fmt's text TOLD by the authors' own Lean function (tested against real Go, not proved from fmt's source: count such statements apart). THE CARD IS WHAT COUNTS. Prove the row's statement (the work); the ties are given (YtpakjdgddomdjaaDoorTie.lean); close each card by the builder's one call (the guide's Derived/Test/ToyasCard.lean, 'card_holds'). Laid BY PROGRAM, IN A SANDBOX (cutbox-door.mjs). By AI agents, Wed Nov 11 2026. No macro, syntax, notation, axiom, sorry.
-/
import Derived.Test.YtpakjdgddomdjaaDoorRows
import GoSem.ClaimSeven
namespace Go.Proofs.YtpakjdgddomdjaaDoor
namespace Rows

/-- THE TIED CARD OF 'emendationlaw14.HtmlShows'. -/
def htmlShowsCard : Claim7 := { stood := { row := htmlShowsRow, standIns := [], harness := (true, "96192f5964a3790a06685c921c7672ce44bbdfc5ce49d3547ad1762552d53eae"), looks := false }, kinds := [], alts := [], laidByText := true, laidKinds := [.data, .data, .data], laidTests := true, laidLooks := .later }
def HtmlShowsCardSaid : Prop := Claim7.holds Tryd.pinned (.plain (OpenSpec.ofChange htmlShowsSpec)) htmlShowsCard

/-- THE TIED CARD OF 'emendationlaw14.HtmlJoins'. -/
def htmlJoinsCard : Claim7 := { stood := { row := htmlJoinsRow, standIns := [], harness := (true, "96192f5964a3790a06685c921c7672ce44bbdfc5ce49d3547ad1762552d53eae"), looks := false }, kinds := [], alts := [], laidByText := true, laidKinds := [.data, .data, .data], laidTests := true, laidLooks := .later }
def HtmlJoinsCardSaid : Prop := Claim7.holds Tryd.pinned (.plain (OpenSpec.ofChange htmlJoinsSpec)) htmlJoinsCard

/-- THE TIED CARD OF 'emendationlaw14.HtmlMarks'. -/
def htmlMarksCard : Claim7 := { stood := { row := htmlMarksRow, standIns := [], harness := (true, "96192f5964a3790a06685c921c7672ce44bbdfc5ce49d3547ad1762552d53eae"), looks := false }, kinds := [], alts := [], laidByText := true, laidKinds := [.data, .data, .data], laidTests := true, laidLooks := .later }
def HtmlMarksCardSaid : Prop := Claim7.holds Tryd.pinned (.plain (OpenSpec.ofChange htmlMarksSpec)) htmlMarksCard

/-- THE TIED CARD OF 'emendationlaw14.HtmlWraps'. -/
def htmlWrapsCard : Claim7 := { stood := { row := htmlWrapsRow, standIns := [], harness := (true, "96192f5964a3790a06685c921c7672ce44bbdfc5ce49d3547ad1762552d53eae"), looks := false }, kinds := [], alts := [], laidByText := true, laidKinds := [.data, .data, .data], laidTests := true, laidLooks := .later }
def HtmlWrapsCardSaid : Prop := Claim7.holds Tryd.pinned (.plain (OpenSpec.ofChange htmlWrapsSpec)) htmlWrapsCard

/-- THE TIED CARD OF 'emendationlaw14.HtmlPlain'. -/
def htmlPlainCard : Claim7 := { stood := { row := htmlPlainRow, standIns := [], harness := (true, "96192f5964a3790a06685c921c7672ce44bbdfc5ce49d3547ad1762552d53eae"), looks := false }, kinds := [], alts := [], laidByText := true, laidKinds := [.data, .data, .data], laidTests := true, laidLooks := .later }
def HtmlPlainCardSaid : Prop := Claim7.holds Tryd.pinned (.plain (OpenSpec.ofChange htmlPlainSpec)) htmlPlainCard

/-- THE SECOND FORM's CARD OF 'emendationlaw14.HtmlShows'. -/
def htmlShowsUptoCard : Claim7 := { stood := { row := htmlShowsUptoRow, standIns := [], harness := (true, "96192f5964a3790a06685c921c7672ce44bbdfc5ce49d3547ad1762552d53eae"), looks := false }, kinds := [], alts := [], laidByText := true, laidKinds := [.data, .data, .data], laidTests := true, laidLooks := .later }
def HtmlShowsUptoCardSaid : Prop := Claim7.holds Tryd.pinned (.plain (OpenSpec.upto htmlShowsSpec)) htmlShowsUptoCard

/-- THE SECOND FORM's CARD OF 'emendationlaw14.HtmlJoins'. -/
def htmlJoinsUptoCard : Claim7 := { stood := { row := htmlJoinsUptoRow, standIns := [], harness := (true, "96192f5964a3790a06685c921c7672ce44bbdfc5ce49d3547ad1762552d53eae"), looks := false }, kinds := [], alts := [], laidByText := true, laidKinds := [.data, .data, .data], laidTests := true, laidLooks := .later }
def HtmlJoinsUptoCardSaid : Prop := Claim7.holds Tryd.pinned (.plain (OpenSpec.upto htmlJoinsSpec)) htmlJoinsUptoCard

/-- THE SECOND FORM's CARD OF 'emendationlaw14.HtmlMarks'. -/
def htmlMarksUptoCard : Claim7 := { stood := { row := htmlMarksUptoRow, standIns := [], harness := (true, "96192f5964a3790a06685c921c7672ce44bbdfc5ce49d3547ad1762552d53eae"), looks := false }, kinds := [], alts := [], laidByText := true, laidKinds := [.data, .data, .data], laidTests := true, laidLooks := .later }
def HtmlMarksUptoCardSaid : Prop := Claim7.holds Tryd.pinned (.plain (OpenSpec.upto htmlMarksSpec)) htmlMarksUptoCard

/-- THE SECOND FORM's CARD OF 'emendationlaw14.HtmlWraps'. -/
def htmlWrapsUptoCard : Claim7 := { stood := { row := htmlWrapsUptoRow, standIns := [], harness := (true, "96192f5964a3790a06685c921c7672ce44bbdfc5ce49d3547ad1762552d53eae"), looks := false }, kinds := [], alts := [], laidByText := true, laidKinds := [.data, .data, .data], laidTests := true, laidLooks := .later }
def HtmlWrapsUptoCardSaid : Prop := Claim7.holds Tryd.pinned (.plain (OpenSpec.upto htmlWrapsSpec)) htmlWrapsUptoCard

/-- THE SECOND FORM's CARD OF 'emendationlaw14.HtmlPlain'. -/
def htmlPlainUptoCard : Claim7 := { stood := { row := htmlPlainUptoRow, standIns := [], harness := (true, "96192f5964a3790a06685c921c7672ce44bbdfc5ce49d3547ad1762552d53eae"), looks := false }, kinds := [], alts := [], laidByText := true, laidKinds := [.data, .data, .data], laidTests := true, laidLooks := .later }
def HtmlPlainUptoCardSaid : Prop := Claim7.holds Tryd.pinned (.plain (OpenSpec.upto htmlPlainSpec)) htmlPlainUptoCard
end Rows
end Go.Proofs.YtpakjdgddomdjaaDoor
