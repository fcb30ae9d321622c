/-
  DERIVED. GIVEN WITH THE SEED: THE CARDS: each row of YtihihgfcklkkhaaGreatDoorRows.lean that lists a variable, with what it lists TIED to the program's text (the seventh form; the later family's looks); each row that meets fmt, with fmt's text TOLD by the authors' own Lean function (tested against real Go, not proved from fmt's source: count such statements apart). THE CARD IS WHAT COUNTS. Prove the row's statement (the work); the ties are given (YtihihgfcklkkhaaGreatDoorTie.lean); close each card by the builder's one call (the guide's Derived/Test/ToyasCard.lean, 'card_holds'). Laid BY PROGRAM, IN A SANDBOX (cutbox-door.mjs). By AI agents, Wed Nov 11 2026. No macro, syntax, notation, axiom, sorry.
-/
import Derived.Test.YtihihgfcklkkhaaGreatDoorRows
import GoSem.ClaimSeven
namespace Go.Proofs.YtihihgfcklkkhaaGreatDoor
namespace Rows

/-- THE TIED CARD OF 'emendationlaw12.ParseReads'. -/
def parseReadsCard : Claim7 := { stood := { row := parseReadsRow, standIns := [], harness := (true, "c510e0ce7dac0152af48876187de5e4785d0428ffededc7ec355352fe33250c5"), looks := false }, kinds := [], alts := [], laidByText := true, laidKinds := [.data, .pinned], laidTests := true, laidLooks := .later }
def ParseReadsCardSaid : Prop := Claim7.holds Tryz.pinned (.plain (OpenSpec.ofChange parseReadsSpec)) parseReadsCard

/-- THE TIED CARD OF 'emendationlaw12.ParseNormal'. -/
def parseNormalCard : Claim7 := { stood := { row := parseNormalRow, standIns := [], harness := (true, "c510e0ce7dac0152af48876187de5e4785d0428ffededc7ec355352fe33250c5"), looks := false }, kinds := [], alts := [], laidByText := true, laidKinds := [.data, .pinned], laidTests := true, laidLooks := .later }
def ParseNormalCardSaid : Prop := Claim7.holds Tryz.pinned (.plain (OpenSpec.ofChange parseNormalSpec)) parseNormalCard

/-- THE TIED CARD OF 'emendationlaw12.ParseSpreads'. -/
def parseSpreadsCard : Claim7 := { stood := { row := parseSpreadsRow, standIns := [], harness := (true, "c510e0ce7dac0152af48876187de5e4785d0428ffededc7ec355352fe33250c5"), looks := false }, kinds := [], alts := [], laidByText := true, laidKinds := [.data, .pinned], laidTests := true, laidLooks := .later }
def ParseSpreadsCardSaid : Prop := Claim7.holds Tryz.pinned (.plain (OpenSpec.ofChange parseSpreadsSpec)) parseSpreadsCard

/-- THE TIED CARD OF 'emendationlaw12.ParseQuotes'. -/
def parseQuotesCard : Claim7 := { stood := { row := parseQuotesRow, standIns := [], harness := (true, "c510e0ce7dac0152af48876187de5e4785d0428ffededc7ec355352fe33250c5"), looks := false }, kinds := [], alts := [], laidByText := true, laidKinds := [.data, .pinned], laidTests := true, laidLooks := .later }
def ParseQuotesCardSaid : Prop := Claim7.holds Tryz.pinned (.plain (OpenSpec.ofChange parseQuotesSpec)) parseQuotesCard

/-- THE TIED CARD OF 'emendationlaw12.ParseJoins'. -/
def parseJoinsCard : Claim7 := { stood := { row := parseJoinsRow, standIns := [], harness := (true, "c510e0ce7dac0152af48876187de5e4785d0428ffededc7ec355352fe33250c5"), looks := false }, kinds := [], alts := [], laidByText := true, laidKinds := [.data, .pinned], laidTests := true, laidLooks := .later }
def ParseJoinsCardSaid : Prop := Claim7.holds Tryz.pinned (.plain (OpenSpec.ofChange parseJoinsSpec)) parseJoinsCard

/-- THE TIED CARD OF 'emendationlaw12.ParseEnds'. -/
def parseEndsCard : Claim7 := { stood := { row := parseEndsRow, standIns := [], harness := (true, "c510e0ce7dac0152af48876187de5e4785d0428ffededc7ec355352fe33250c5"), looks := false }, kinds := [], alts := [], laidByText := true, laidKinds := [.data, .pinned], laidTests := true, laidLooks := .later }
def ParseEndsCardSaid : Prop := Claim7.holds Tryz.pinned (.plain (OpenSpec.ofChange parseEndsSpec)) parseEndsCard

/-- THE TIED CARD OF 'emendationlaw12.ParseDeep'. -/
def parseDeepCard : Claim7 := { stood := { row := parseDeepRow, standIns := [], harness := (true, "c510e0ce7dac0152af48876187de5e4785d0428ffededc7ec355352fe33250c5"), looks := false }, kinds := [], alts := [], laidByText := true, laidKinds := [.data, .pinned], laidTests := true, laidLooks := .later }
def ParseDeepCardSaid : Prop := Claim7.holds Tryz.pinned (.plain (OpenSpec.ofChange parseDeepSpec)) parseDeepCard

/-- THE TIED CARD OF 'emendationlaw12.ParseParas'. -/
def parseParasCard : Claim7 := { stood := { row := parseParasRow, standIns := [], harness := (true, "c510e0ce7dac0152af48876187de5e4785d0428ffededc7ec355352fe33250c5"), looks := false }, kinds := [], alts := [], laidByText := true, laidKinds := [.data, .pinned], laidTests := true, laidLooks := .later }
def ParseParasCardSaid : Prop := Claim7.holds Tryz.pinned (.plain (OpenSpec.ofChange parseParasSpec)) parseParasCard

/-- THE TIED CARD OF 'emendationlaw12.ParseLines'. -/
def parseLinesCard : Claim7 := { stood := { row := parseLinesRow, standIns := [], harness := (true, "c510e0ce7dac0152af48876187de5e4785d0428ffededc7ec355352fe33250c5"), looks := false }, kinds := [], alts := [], laidByText := true, laidKinds := [.data, .pinned], laidTests := true, laidLooks := .later }
def ParseLinesCardSaid : Prop := Claim7.holds Tryz.pinned (.plain (OpenSpec.ofChange parseLinesSpec)) parseLinesCard

/-- THE SECOND FORM's CARD OF 'emendationlaw12.ParseReads'. -/
def parseReadsUptoCard : Claim7 := { stood := { row := parseReadsUptoRow, standIns := [], harness := (true, "c510e0ce7dac0152af48876187de5e4785d0428ffededc7ec355352fe33250c5"), looks := false }, kinds := [], alts := [], laidByText := true, laidKinds := [.data, .pinned], laidTests := true, laidLooks := .later }
def ParseReadsUptoCardSaid : Prop := Claim7.holds Tryz.pinned (.plain (OpenSpec.upto parseReadsSpec)) parseReadsUptoCard

/-- THE SECOND FORM's CARD OF 'emendationlaw12.ParseNormal'. -/
def parseNormalUptoCard : Claim7 := { stood := { row := parseNormalUptoRow, standIns := [], harness := (true, "c510e0ce7dac0152af48876187de5e4785d0428ffededc7ec355352fe33250c5"), looks := false }, kinds := [], alts := [], laidByText := true, laidKinds := [.data, .pinned], laidTests := true, laidLooks := .later }
def ParseNormalUptoCardSaid : Prop := Claim7.holds Tryz.pinned (.plain (OpenSpec.upto parseNormalSpec)) parseNormalUptoCard

/-- THE SECOND FORM's CARD OF 'emendationlaw12.ParseSpreads'. -/
def parseSpreadsUptoCard : Claim7 := { stood := { row := parseSpreadsUptoRow, standIns := [], harness := (true, "c510e0ce7dac0152af48876187de5e4785d0428ffededc7ec355352fe33250c5"), looks := false }, kinds := [], alts := [], laidByText := true, laidKinds := [.data, .pinned], laidTests := true, laidLooks := .later }
def ParseSpreadsUptoCardSaid : Prop := Claim7.holds Tryz.pinned (.plain (OpenSpec.upto parseSpreadsSpec)) parseSpreadsUptoCard

/-- THE SECOND FORM's CARD OF 'emendationlaw12.ParseQuotes'. -/
def parseQuotesUptoCard : Claim7 := { stood := { row := parseQuotesUptoRow, standIns := [], harness := (true, "c510e0ce7dac0152af48876187de5e4785d0428ffededc7ec355352fe33250c5"), looks := false }, kinds := [], alts := [], laidByText := true, laidKinds := [.data, .pinned], laidTests := true, laidLooks := .later }
def ParseQuotesUptoCardSaid : Prop := Claim7.holds Tryz.pinned (.plain (OpenSpec.upto parseQuotesSpec)) parseQuotesUptoCard

/-- THE SECOND FORM's CARD OF 'emendationlaw12.ParseJoins'. -/
def parseJoinsUptoCard : Claim7 := { stood := { row := parseJoinsUptoRow, standIns := [], harness := (true, "c510e0ce7dac0152af48876187de5e4785d0428ffededc7ec355352fe33250c5"), looks := false }, kinds := [], alts := [], laidByText := true, laidKinds := [.data, .pinned], laidTests := true, laidLooks := .later }
def ParseJoinsUptoCardSaid : Prop := Claim7.holds Tryz.pinned (.plain (OpenSpec.upto parseJoinsSpec)) parseJoinsUptoCard

/-- THE SECOND FORM's CARD OF 'emendationlaw12.ParseEnds'. -/
def parseEndsUptoCard : Claim7 := { stood := { row := parseEndsUptoRow, standIns := [], harness := (true, "c510e0ce7dac0152af48876187de5e4785d0428ffededc7ec355352fe33250c5"), looks := false }, kinds := [], alts := [], laidByText := true, laidKinds := [.data, .pinned], laidTests := true, laidLooks := .later }
def ParseEndsUptoCardSaid : Prop := Claim7.holds Tryz.pinned (.plain (OpenSpec.upto parseEndsSpec)) parseEndsUptoCard

/-- THE SECOND FORM's CARD OF 'emendationlaw12.ParseDeep'. -/
def parseDeepUptoCard : Claim7 := { stood := { row := parseDeepUptoRow, standIns := [], harness := (true, "c510e0ce7dac0152af48876187de5e4785d0428ffededc7ec355352fe33250c5"), looks := false }, kinds := [], alts := [], laidByText := true, laidKinds := [.data, .pinned], laidTests := true, laidLooks := .later }
def ParseDeepUptoCardSaid : Prop := Claim7.holds Tryz.pinned (.plain (OpenSpec.upto parseDeepSpec)) parseDeepUptoCard

/-- THE SECOND FORM's CARD OF 'emendationlaw12.ParseParas'. -/
def parseParasUptoCard : Claim7 := { stood := { row := parseParasUptoRow, standIns := [], harness := (true, "c510e0ce7dac0152af48876187de5e4785d0428ffededc7ec355352fe33250c5"), looks := false }, kinds := [], alts := [], laidByText := true, laidKinds := [.data, .pinned], laidTests := true, laidLooks := .later }
def ParseParasUptoCardSaid : Prop := Claim7.holds Tryz.pinned (.plain (OpenSpec.upto parseParasSpec)) parseParasUptoCard

/-- THE SECOND FORM's CARD OF 'emendationlaw12.ParseLines'. -/
def parseLinesUptoCard : Claim7 := { stood := { row := parseLinesUptoRow, standIns := [], harness := (true, "c510e0ce7dac0152af48876187de5e4785d0428ffededc7ec355352fe33250c5"), looks := false }, kinds := [], alts := [], laidByText := true, laidKinds := [.data, .pinned], laidTests := true, laidLooks := .later }
def ParseLinesUptoCardSaid : Prop := Claim7.holds Tryz.pinned (.plain (OpenSpec.upto parseLinesSpec)) parseLinesUptoCard
end Rows
end Go.Proofs.YtihihgfcklkkhaaGreatDoor
