/-
  NARROWER THAN 'FOR EVERY INPUT', by the rows' own cells (each row's printed sentence says how): SpaninReads: laid · SpaninNormal: laid · SpaninPlain: laid · SpaninShort: laid · SpaninLinks: laid · SpaninCodes: laid · SpanoutBack: loops, laid · SpanoutAgain: laid · SpanoutEscapes: laid · SpanoutKinds: laid.
  DERIVED. THE GIVEN ROWS OF THIS SEAT. 10 by the template 'for every input the law returns true; each argument reads behind the call as it read before'; 0 by the template 'total and deterministic' (their statements: YtjgmfgnfdaeelaaGreatDoorTotals.lean).
  GIVEN WITH THE SEED: the statements are not yours to turn. If you find one false, say at which input.
  Laid BY PROGRAM, IN A SANDBOX (cutbox-rows.mjs): the forced cells as the released guide's own fill.sh prints them over the translation aa716191cffc341b… (all of the seat's roots in one cut). By AI agents, Wed Nov 11 2026. No macro, syntax, notation, axiom, sorry.
-/
import Derived.Test.YtjgmfgnfdaeelaaGreatDoorChecked
import GoSem.PinnedTables
import GoSem.Claim
import GoSem.ClaimJoined
import GoSem.ClaimMapViews
import Derived.JoinedTies
import Derived.KernelRfl
namespace Go.Proofs.YtjgmfgnfdaeelaaGreatDoor
/- THE CELL 'sum', in the pinned program and in every row, IS THE sha256 OF THE DUMP (.gsa) THAT YtjgmfgnfdaeelaaGreatDoorProg.lean LOADS. Nothing in Lean hashes anything: it is a label: what it is worth is what the hold of that sum in a sandbox is worth. -/
noncomputable def Tryz.pinned : Pinned := { name := "ytjgmfgnfdaeelaagreatdoor", sum := "aa716191cffc341b37ade97721de70fbe7c6c98f7ccbc6a05d785165b2878b25", checked := Tryz.checked }
namespace Rows
def none {H : Type} : Left H := { results := [], args := [] }

/- WHAT THE LISTED PACKAGE-LEVEL VARIABLES READ AS WHEN THE CALL BEGINS. Each datum BY PROGRAM (the guide's laid-datum.mjs) off the statement by which the dump's own 'gosem.cut.vars' lays the variable. In a bare row this is a premise. The card (YtjgmfgnfdaeelaaGreatDoorCards.lean) ties it to the program's text. -/
def laid_unicode_utf8_acceptRanges {H : Type} : DataW H := .agg [.agg [.lit (.int .u8 128), .lit (.int .u8 191)], .agg [.lit (.int .u8 160), .lit (.int .u8 191)], .agg [.lit (.int .u8 128), .lit (.int .u8 159)], .agg [.lit (.int .u8 144), .lit (.int .u8 191)], .agg [.lit (.int .u8 128), .lit (.int .u8 143)], .agg [.lit (.int .u8 0), .lit (.int .u8 0)], .agg [.lit (.int .u8 0), .lit (.int .u8 0)], .agg [.lit (.int .u8 0), .lit (.int .u8 0)], .agg [.lit (.int .u8 0), .lit (.int .u8 0)], .agg [.lit (.int .u8 0), .lit (.int .u8 0)], .agg [.lit (.int .u8 0), .lit (.int .u8 0)], .agg [.lit (.int .u8 0), .lit (.int .u8 0)], .agg [.lit (.int .u8 0), .lit (.int .u8 0)], .agg [.lit (.int .u8 0), .lit (.int .u8 0)], .agg [.lit (.int .u8 0), .lit (.int .u8 0)], .agg [.lit (.int .u8 0), .lit (.int .u8 0)]]
/-- One of Go's own tables, pinned by name: the form's constant. -/
def laid_unicode_utf8_first : DataW Unit := Go.Pinned.utf8First

/-- 'emendationlaw08.SpaninReads': WHATEVER THE INPUT: true; the input reads as it did. -/
def spaninReadsSpec : ChangeSpec := { name := "spaninReads", fn := fun _ => fun
  | [d1, d2] => { results := [.lit (.bool true)], args := [d1, d2] }
  | _ => none }
def spaninReadsRow : OpenClaim := { program := "ytjgmfgnfdaeelaagreatdoor", sum := "aa716191cffc341b37ade97721de70fbe7c6c98f7ccbc6a05d785165b2878b25", func := "emendation/emendationlaw08.SpaninReads", spec := "spaninReads", inPlace := ["internal/bytealg.IndexByteString", "internal/bytealg.IndexString", "internal/bytealg.IndexByte", "internal/abi.NoEscape"], unfollowed := true, recurses := true, named := ["unicode/utf8.first", "unicode/utf8.acceptRanges", "internal/bytealg.MaxLen"], apart := false, laid := [("unicode/utf8.acceptRanges", laid_unicode_utf8_acceptRanges), ("unicode/utf8.first", laid_unicode_utf8_first)] }
def SpaninReadsSaid : Prop := spaninReadsRow.holds Tryz.pinned (OpenSpec.ofChange spaninReadsSpec)

/-- ITS FALSE NEIGHBOUR: 'it returns false'. Refute it at one input. -/
def spaninReadsWrong : ChangeSpec := { name := "spaninReads", fn := fun _ => fun
  | [d1, d2] => { results := [.lit (.bool false)], args := [d1, d2] }
  | _ => none }
def SpaninReadsWrongFalsely : Prop := spaninReadsRow.holds Tryz.pinned (OpenSpec.ofChange spaninReadsWrong)

/-- 'emendationlaw08.SpaninNormal': WHATEVER THE INPUT: true; the input reads as it did. -/
def spaninNormalSpec : ChangeSpec := { name := "spaninNormal", fn := fun _ => fun
  | [d] => { results := [.lit (.bool true)], args := [d] }
  | _ => none }
def spaninNormalRow : OpenClaim := { program := "ytjgmfgnfdaeelaagreatdoor", sum := "aa716191cffc341b37ade97721de70fbe7c6c98f7ccbc6a05d785165b2878b25", func := "emendation/emendationlaw08.SpaninNormal", spec := "spaninNormal", inPlace := ["internal/bytealg.IndexByteString", "internal/bytealg.IndexString", "internal/bytealg.IndexByte", "internal/abi.NoEscape"], unfollowed := true, recurses := true, named := ["unicode/utf8.first", "unicode/utf8.acceptRanges", "internal/bytealg.MaxLen"], apart := false, laid := [("unicode/utf8.acceptRanges", laid_unicode_utf8_acceptRanges), ("unicode/utf8.first", laid_unicode_utf8_first)] }
def SpaninNormalSaid : Prop := spaninNormalRow.holds Tryz.pinned (OpenSpec.ofChange spaninNormalSpec)

/-- ITS FALSE NEIGHBOUR: 'it returns false'. Refute it at one input. -/
def spaninNormalWrong : ChangeSpec := { name := "spaninNormal", fn := fun _ => fun
  | [d] => { results := [.lit (.bool false)], args := [d] }
  | _ => none }
def SpaninNormalWrongFalsely : Prop := spaninNormalRow.holds Tryz.pinned (OpenSpec.ofChange spaninNormalWrong)

/-- 'emendationlaw08.SpaninPlain': WHATEVER THE INPUT: true; the input reads as it did. -/
def spaninPlainSpec : ChangeSpec := { name := "spaninPlain", fn := fun _ => fun
  | [d] => { results := [.lit (.bool true)], args := [d] }
  | _ => none }
def spaninPlainRow : OpenClaim := { program := "ytjgmfgnfdaeelaagreatdoor", sum := "aa716191cffc341b37ade97721de70fbe7c6c98f7ccbc6a05d785165b2878b25", func := "emendation/emendationlaw08.SpaninPlain", spec := "spaninPlain", inPlace := ["internal/bytealg.IndexByteString", "internal/bytealg.IndexString", "internal/bytealg.IndexByte", "internal/abi.NoEscape"], unfollowed := true, recurses := true, named := ["unicode/utf8.first", "unicode/utf8.acceptRanges", "internal/bytealg.MaxLen"], apart := false, laid := [("unicode/utf8.acceptRanges", laid_unicode_utf8_acceptRanges), ("unicode/utf8.first", laid_unicode_utf8_first)] }
def SpaninPlainSaid : Prop := spaninPlainRow.holds Tryz.pinned (OpenSpec.ofChange spaninPlainSpec)

/-- ITS FALSE NEIGHBOUR: 'it returns false'. Refute it at one input. -/
def spaninPlainWrong : ChangeSpec := { name := "spaninPlain", fn := fun _ => fun
  | [d] => { results := [.lit (.bool false)], args := [d] }
  | _ => none }
def SpaninPlainWrongFalsely : Prop := spaninPlainRow.holds Tryz.pinned (OpenSpec.ofChange spaninPlainWrong)

/-- 'emendationlaw08.SpaninShort': WHATEVER THE INPUT: true; the input reads as it did. -/
def spaninShortSpec : ChangeSpec := { name := "spaninShort", fn := fun _ => fun
  | [d] => { results := [.lit (.bool true)], args := [d] }
  | _ => none }
def spaninShortRow : OpenClaim := { program := "ytjgmfgnfdaeelaagreatdoor", sum := "aa716191cffc341b37ade97721de70fbe7c6c98f7ccbc6a05d785165b2878b25", func := "emendation/emendationlaw08.SpaninShort", spec := "spaninShort", inPlace := ["internal/bytealg.IndexByteString", "internal/bytealg.IndexString", "internal/bytealg.IndexByte", "internal/abi.NoEscape"], unfollowed := true, recurses := true, named := ["unicode/utf8.first", "unicode/utf8.acceptRanges", "internal/bytealg.MaxLen"], apart := false, laid := [("unicode/utf8.acceptRanges", laid_unicode_utf8_acceptRanges), ("unicode/utf8.first", laid_unicode_utf8_first)] }
def SpaninShortSaid : Prop := spaninShortRow.holds Tryz.pinned (OpenSpec.ofChange spaninShortSpec)

/-- ITS FALSE NEIGHBOUR: 'it returns false'. Refute it at one input. -/
def spaninShortWrong : ChangeSpec := { name := "spaninShort", fn := fun _ => fun
  | [d] => { results := [.lit (.bool false)], args := [d] }
  | _ => none }
def SpaninShortWrongFalsely : Prop := spaninShortRow.holds Tryz.pinned (OpenSpec.ofChange spaninShortWrong)

/-- 'emendationlaw08.SpaninLinks': WHATEVER THE INPUT: true; the input reads as it did. -/
def spaninLinksSpec : ChangeSpec := { name := "spaninLinks", fn := fun _ => fun
  | [d1, d2] => { results := [.lit (.bool true)], args := [d1, d2] }
  | _ => none }
def spaninLinksRow : OpenClaim := { program := "ytjgmfgnfdaeelaagreatdoor", sum := "aa716191cffc341b37ade97721de70fbe7c6c98f7ccbc6a05d785165b2878b25", func := "emendation/emendationlaw08.SpaninLinks", spec := "spaninLinks", inPlace := ["internal/bytealg.IndexByteString", "internal/bytealg.IndexString", "internal/bytealg.IndexByte", "internal/abi.NoEscape"], unfollowed := true, recurses := true, named := ["unicode/utf8.first", "unicode/utf8.acceptRanges", "internal/bytealg.MaxLen"], apart := false, laid := [("unicode/utf8.acceptRanges", laid_unicode_utf8_acceptRanges), ("unicode/utf8.first", laid_unicode_utf8_first)] }
def SpaninLinksSaid : Prop := spaninLinksRow.holds Tryz.pinned (OpenSpec.ofChange spaninLinksSpec)

/-- ITS FALSE NEIGHBOUR: 'it returns false'. Refute it at one input. -/
def spaninLinksWrong : ChangeSpec := { name := "spaninLinks", fn := fun _ => fun
  | [d1, d2] => { results := [.lit (.bool false)], args := [d1, d2] }
  | _ => none }
def SpaninLinksWrongFalsely : Prop := spaninLinksRow.holds Tryz.pinned (OpenSpec.ofChange spaninLinksWrong)

/-- 'emendationlaw08.SpaninCodes': WHATEVER THE INPUT: true; the input reads as it did. -/
def spaninCodesSpec : ChangeSpec := { name := "spaninCodes", fn := fun _ => fun
  | [d] => { results := [.lit (.bool true)], args := [d] }
  | _ => none }
def spaninCodesRow : OpenClaim := { program := "ytjgmfgnfdaeelaagreatdoor", sum := "aa716191cffc341b37ade97721de70fbe7c6c98f7ccbc6a05d785165b2878b25", func := "emendation/emendationlaw08.SpaninCodes", spec := "spaninCodes", inPlace := ["internal/bytealg.IndexByteString", "internal/bytealg.IndexString", "internal/bytealg.IndexByte", "internal/abi.NoEscape"], unfollowed := true, recurses := true, named := ["unicode/utf8.first", "unicode/utf8.acceptRanges", "internal/bytealg.MaxLen"], apart := false, laid := [("unicode/utf8.acceptRanges", laid_unicode_utf8_acceptRanges), ("unicode/utf8.first", laid_unicode_utf8_first)] }
def SpaninCodesSaid : Prop := spaninCodesRow.holds Tryz.pinned (OpenSpec.ofChange spaninCodesSpec)

/-- ITS FALSE NEIGHBOUR: 'it returns false'. Refute it at one input. -/
def spaninCodesWrong : ChangeSpec := { name := "spaninCodes", fn := fun _ => fun
  | [d] => { results := [.lit (.bool false)], args := [d] }
  | _ => none }
def SpaninCodesWrongFalsely : Prop := spaninCodesRow.holds Tryz.pinned (OpenSpec.ofChange spaninCodesWrong)

/-- 'emendationlaw09.SpanoutBack': WHATEVER THE INPUT: true; the input reads as it did. -/
def spanoutBackSpec : ChangeSpec := { name := "spanoutBack", fn := fun _ => fun
  | [d] => { results := [.lit (.bool true)], args := [d] }
  | _ => none }
def spanoutBackRow : OpenClaim := { program := "ytjgmfgnfdaeelaagreatdoor", sum := "aa716191cffc341b37ade97721de70fbe7c6c98f7ccbc6a05d785165b2878b25", func := "emendation/emendationlaw09.SpanoutBack", spec := "spanoutBack", inPlace := ["internal/bytealg.IndexByte", "internal/bytealg.IndexByteString", "internal/bytealg.IndexString", "internal/abi.NoEscape", "internal/bytealg.MakeNoZero"], unfollowed := true, recurses := true, named := ["unicode/utf8.first", "unicode/utf8.acceptRanges", "internal/bytealg.MaxLen"], loops := true, apart := false, laid := [("unicode/utf8.acceptRanges", laid_unicode_utf8_acceptRanges), ("unicode/utf8.first", laid_unicode_utf8_first)] }
def SpanoutBackSaid : Prop := spanoutBackRow.holds Tryz.pinned (OpenSpec.ofChange spanoutBackSpec)

/-- ITS FALSE NEIGHBOUR: 'it returns false'. Refute it at one input. -/
def spanoutBackWrong : ChangeSpec := { name := "spanoutBack", fn := fun _ => fun
  | [d] => { results := [.lit (.bool false)], args := [d] }
  | _ => none }
def SpanoutBackWrongFalsely : Prop := spanoutBackRow.holds Tryz.pinned (OpenSpec.ofChange spanoutBackWrong)

/-- 'emendationlaw09.SpanoutAgain': WHATEVER THE INPUT: true; the input reads as it did. -/
def spanoutAgainSpec : ChangeSpec := { name := "spanoutAgain", fn := fun _ => fun
  | [d] => { results := [.lit (.bool true)], args := [d] }
  | _ => none }
def spanoutAgainRow : OpenClaim := { program := "ytjgmfgnfdaeelaagreatdoor", sum := "aa716191cffc341b37ade97721de70fbe7c6c98f7ccbc6a05d785165b2878b25", func := "emendation/emendationlaw09.SpanoutAgain", spec := "spanoutAgain", inPlace := ["internal/bytealg.IndexByte", "internal/bytealg.IndexByteString", "internal/bytealg.IndexString", "internal/abi.NoEscape", "internal/bytealg.MakeNoZero"], unfollowed := true, recurses := true, named := ["unicode/utf8.first", "unicode/utf8.acceptRanges", "internal/bytealg.MaxLen"], apart := false, laid := [("unicode/utf8.acceptRanges", laid_unicode_utf8_acceptRanges), ("unicode/utf8.first", laid_unicode_utf8_first)] }
def SpanoutAgainSaid : Prop := spanoutAgainRow.holds Tryz.pinned (OpenSpec.ofChange spanoutAgainSpec)

/-- ITS FALSE NEIGHBOUR: 'it returns false'. Refute it at one input. -/
def spanoutAgainWrong : ChangeSpec := { name := "spanoutAgain", fn := fun _ => fun
  | [d] => { results := [.lit (.bool false)], args := [d] }
  | _ => none }
def SpanoutAgainWrongFalsely : Prop := spanoutAgainRow.holds Tryz.pinned (OpenSpec.ofChange spanoutAgainWrong)

/-- 'emendationlaw09.SpanoutEscapes': WHATEVER THE INPUT: true; the input reads as it did. -/
def spanoutEscapesSpec : ChangeSpec := { name := "spanoutEscapes", fn := fun _ => fun
  | [d1, d2] => { results := [.lit (.bool true)], args := [d1, d2] }
  | _ => none }
def spanoutEscapesRow : OpenClaim := { program := "ytjgmfgnfdaeelaagreatdoor", sum := "aa716191cffc341b37ade97721de70fbe7c6c98f7ccbc6a05d785165b2878b25", func := "emendation/emendationlaw09.SpanoutEscapes", spec := "spanoutEscapes", inPlace := ["internal/bytealg.IndexByte", "internal/bytealg.IndexByteString", "internal/bytealg.IndexString", "internal/abi.NoEscape", "internal/bytealg.MakeNoZero"], unfollowed := true, recurses := true, named := ["unicode/utf8.first", "unicode/utf8.acceptRanges", "internal/bytealg.MaxLen"], apart := false, laid := [("unicode/utf8.acceptRanges", laid_unicode_utf8_acceptRanges), ("unicode/utf8.first", laid_unicode_utf8_first)] }
def SpanoutEscapesSaid : Prop := spanoutEscapesRow.holds Tryz.pinned (OpenSpec.ofChange spanoutEscapesSpec)

/-- ITS FALSE NEIGHBOUR: 'it returns false'. Refute it at one input. -/
def spanoutEscapesWrong : ChangeSpec := { name := "spanoutEscapes", fn := fun _ => fun
  | [d1, d2] => { results := [.lit (.bool false)], args := [d1, d2] }
  | _ => none }
def SpanoutEscapesWrongFalsely : Prop := spanoutEscapesRow.holds Tryz.pinned (OpenSpec.ofChange spanoutEscapesWrong)

/-- 'emendationlaw09.SpanoutKinds': WHATEVER THE INPUT: true; the input reads as it did. -/
def spanoutKindsSpec : ChangeSpec := { name := "spanoutKinds", fn := fun _ => fun
  | [d1, d2] => { results := [.lit (.bool true)], args := [d1, d2] }
  | _ => none }
def spanoutKindsRow : OpenClaim := { program := "ytjgmfgnfdaeelaagreatdoor", sum := "aa716191cffc341b37ade97721de70fbe7c6c98f7ccbc6a05d785165b2878b25", func := "emendation/emendationlaw09.SpanoutKinds", spec := "spanoutKinds", inPlace := ["internal/bytealg.IndexByte", "internal/bytealg.IndexByteString", "internal/bytealg.IndexString", "internal/abi.NoEscape", "internal/bytealg.MakeNoZero"], unfollowed := true, recurses := true, named := ["unicode/utf8.first", "unicode/utf8.acceptRanges", "internal/bytealg.MaxLen"], apart := false, laid := [("unicode/utf8.acceptRanges", laid_unicode_utf8_acceptRanges), ("unicode/utf8.first", laid_unicode_utf8_first)] }
def SpanoutKindsSaid : Prop := spanoutKindsRow.holds Tryz.pinned (OpenSpec.ofChange spanoutKindsSpec)

/-- ITS FALSE NEIGHBOUR: 'it returns false'. Refute it at one input. -/
def spanoutKindsWrong : ChangeSpec := { name := "spanoutKinds", fn := fun _ => fun
  | [d1, d2] => { results := [.lit (.bool false)], args := [d1, d2] }
  | _ => none }
def SpanoutKindsWrongFalsely : Prop := spanoutKindsRow.holds Tryz.pinned (OpenSpec.ofChange spanoutKindsWrong)

/- THE SECOND FORM. 'bulk': how many values and letters a reading holds, each counted each time it is reached (what is shared counts as often as it is met; a slice's spare places count too). A statement '..UptoSaid' is the law's where the arguments, and the package variables that the reading takes, are together of bulk at most 1048576: NARROWER than '..Said'. Prove '..Said' where nothing that the law and all that it calls make is longer than what came in: it says more and counts as full. Else prove '..UptoSaid'. A law counts once. -/
mutual
def uptoBulk {H : Type} : DataW H → Nat
  | .lit (.string bytes) => bytes.length + 1
  | .lit _ => 1
  | .nil => 1
  | .ptr d => uptoBulk d + 1
  | .slice elems spare => uptoBulkAll elems + uptoBulkAll spare + 1
  | .agg parts => uptoBulkAll parts + 1
  | .iface _ d => uptoBulk d + 1
  | .map entries => uptoBulkEntries entries + 1
  | .held _ => 1
def uptoBulkAll {H : Type} : List (DataW H) → Nat
  | [] => 0
  | d :: r => uptoBulk d + uptoBulkAll r
def uptoBulkEntries {H : Type} : List (Lit × DataW H) → Nat
  | [] => 0
  | x :: r => uptoBulkEntry x + uptoBulkEntries r
def uptoBulkEntry {H : Type} : Lit × DataW H → Nat
  | (.string bytes, d) => bytes.length + uptoBulk d + 1
  | (_, d) => uptoBulk d + 1
 end
def uptoSmall : (H : Type) → List (DataW H) → Bool := fun _ ds => decide (uptoBulkAll ds ≤ 1048576)
def OpenSpec.upto (s : _root_.Go.ChangeSpec) : _root_.Go.OpenSpec := { _root_.Go.OpenSpec.ofChange s with cond := some uptoSmall }

/-- 'emendationlaw08.SpaninReads', WHERE WHAT IT READS IS OF BULK AT MOST 1048576: true; the input reads as it did. -/
def spaninReadsUptoRow : OpenClaim := { program := "ytjgmfgnfdaeelaagreatdoor", sum := "aa716191cffc341b37ade97721de70fbe7c6c98f7ccbc6a05d785165b2878b25", func := "emendation/emendationlaw08.SpaninReads", spec := "spaninReads", inPlace := ["internal/bytealg.IndexByteString", "internal/bytealg.IndexString", "internal/bytealg.IndexByte", "internal/abi.NoEscape"], unfollowed := true, recurses := true, named := ["unicode/utf8.first", "unicode/utf8.acceptRanges", "internal/bytealg.MaxLen"], apart := false, laid := [("unicode/utf8.acceptRanges", laid_unicode_utf8_acceptRanges), ("unicode/utf8.first", laid_unicode_utf8_first)], narrowed := true }
def SpaninReadsUptoSaid : Prop := spaninReadsUptoRow.holds Tryz.pinned (OpenSpec.upto spaninReadsSpec)

/-- 'emendationlaw08.SpaninNormal', WHERE WHAT IT READS IS OF BULK AT MOST 1048576: true; the input reads as it did. -/
def spaninNormalUptoRow : OpenClaim := { program := "ytjgmfgnfdaeelaagreatdoor", sum := "aa716191cffc341b37ade97721de70fbe7c6c98f7ccbc6a05d785165b2878b25", func := "emendation/emendationlaw08.SpaninNormal", spec := "spaninNormal", inPlace := ["internal/bytealg.IndexByteString", "internal/bytealg.IndexString", "internal/bytealg.IndexByte", "internal/abi.NoEscape"], unfollowed := true, recurses := true, named := ["unicode/utf8.first", "unicode/utf8.acceptRanges", "internal/bytealg.MaxLen"], apart := false, laid := [("unicode/utf8.acceptRanges", laid_unicode_utf8_acceptRanges), ("unicode/utf8.first", laid_unicode_utf8_first)], narrowed := true }
def SpaninNormalUptoSaid : Prop := spaninNormalUptoRow.holds Tryz.pinned (OpenSpec.upto spaninNormalSpec)

/-- 'emendationlaw08.SpaninPlain', WHERE WHAT IT READS IS OF BULK AT MOST 1048576: true; the input reads as it did. -/
def spaninPlainUptoRow : OpenClaim := { program := "ytjgmfgnfdaeelaagreatdoor", sum := "aa716191cffc341b37ade97721de70fbe7c6c98f7ccbc6a05d785165b2878b25", func := "emendation/emendationlaw08.SpaninPlain", spec := "spaninPlain", inPlace := ["internal/bytealg.IndexByteString", "internal/bytealg.IndexString", "internal/bytealg.IndexByte", "internal/abi.NoEscape"], unfollowed := true, recurses := true, named := ["unicode/utf8.first", "unicode/utf8.acceptRanges", "internal/bytealg.MaxLen"], apart := false, laid := [("unicode/utf8.acceptRanges", laid_unicode_utf8_acceptRanges), ("unicode/utf8.first", laid_unicode_utf8_first)], narrowed := true }
def SpaninPlainUptoSaid : Prop := spaninPlainUptoRow.holds Tryz.pinned (OpenSpec.upto spaninPlainSpec)

/-- 'emendationlaw08.SpaninShort', WHERE WHAT IT READS IS OF BULK AT MOST 1048576: true; the input reads as it did. -/
def spaninShortUptoRow : OpenClaim := { program := "ytjgmfgnfdaeelaagreatdoor", sum := "aa716191cffc341b37ade97721de70fbe7c6c98f7ccbc6a05d785165b2878b25", func := "emendation/emendationlaw08.SpaninShort", spec := "spaninShort", inPlace := ["internal/bytealg.IndexByteString", "internal/bytealg.IndexString", "internal/bytealg.IndexByte", "internal/abi.NoEscape"], unfollowed := true, recurses := true, named := ["unicode/utf8.first", "unicode/utf8.acceptRanges", "internal/bytealg.MaxLen"], apart := false, laid := [("unicode/utf8.acceptRanges", laid_unicode_utf8_acceptRanges), ("unicode/utf8.first", laid_unicode_utf8_first)], narrowed := true }
def SpaninShortUptoSaid : Prop := spaninShortUptoRow.holds Tryz.pinned (OpenSpec.upto spaninShortSpec)

/-- 'emendationlaw08.SpaninLinks', WHERE WHAT IT READS IS OF BULK AT MOST 1048576: true; the input reads as it did. -/
def spaninLinksUptoRow : OpenClaim := { program := "ytjgmfgnfdaeelaagreatdoor", sum := "aa716191cffc341b37ade97721de70fbe7c6c98f7ccbc6a05d785165b2878b25", func := "emendation/emendationlaw08.SpaninLinks", spec := "spaninLinks", inPlace := ["internal/bytealg.IndexByteString", "internal/bytealg.IndexString", "internal/bytealg.IndexByte", "internal/abi.NoEscape"], unfollowed := true, recurses := true, named := ["unicode/utf8.first", "unicode/utf8.acceptRanges", "internal/bytealg.MaxLen"], apart := false, laid := [("unicode/utf8.acceptRanges", laid_unicode_utf8_acceptRanges), ("unicode/utf8.first", laid_unicode_utf8_first)], narrowed := true }
def SpaninLinksUptoSaid : Prop := spaninLinksUptoRow.holds Tryz.pinned (OpenSpec.upto spaninLinksSpec)

/-- 'emendationlaw08.SpaninCodes', WHERE WHAT IT READS IS OF BULK AT MOST 1048576: true; the input reads as it did. -/
def spaninCodesUptoRow : OpenClaim := { program := "ytjgmfgnfdaeelaagreatdoor", sum := "aa716191cffc341b37ade97721de70fbe7c6c98f7ccbc6a05d785165b2878b25", func := "emendation/emendationlaw08.SpaninCodes", spec := "spaninCodes", inPlace := ["internal/bytealg.IndexByteString", "internal/bytealg.IndexString", "internal/bytealg.IndexByte", "internal/abi.NoEscape"], unfollowed := true, recurses := true, named := ["unicode/utf8.first", "unicode/utf8.acceptRanges", "internal/bytealg.MaxLen"], apart := false, laid := [("unicode/utf8.acceptRanges", laid_unicode_utf8_acceptRanges), ("unicode/utf8.first", laid_unicode_utf8_first)], narrowed := true }
def SpaninCodesUptoSaid : Prop := spaninCodesUptoRow.holds Tryz.pinned (OpenSpec.upto spaninCodesSpec)

/-- 'emendationlaw09.SpanoutBack', WHERE WHAT IT READS IS OF BULK AT MOST 1048576: true; the input reads as it did. -/
def spanoutBackUptoRow : OpenClaim := { program := "ytjgmfgnfdaeelaagreatdoor", sum := "aa716191cffc341b37ade97721de70fbe7c6c98f7ccbc6a05d785165b2878b25", func := "emendation/emendationlaw09.SpanoutBack", spec := "spanoutBack", inPlace := ["internal/bytealg.IndexByte", "internal/bytealg.IndexByteString", "internal/bytealg.IndexString", "internal/abi.NoEscape", "internal/bytealg.MakeNoZero"], unfollowed := true, recurses := true, named := ["unicode/utf8.first", "unicode/utf8.acceptRanges", "internal/bytealg.MaxLen"], loops := true, apart := false, laid := [("unicode/utf8.acceptRanges", laid_unicode_utf8_acceptRanges), ("unicode/utf8.first", laid_unicode_utf8_first)], narrowed := true }
def SpanoutBackUptoSaid : Prop := spanoutBackUptoRow.holds Tryz.pinned (OpenSpec.upto spanoutBackSpec)

/-- 'emendationlaw09.SpanoutAgain', WHERE WHAT IT READS IS OF BULK AT MOST 1048576: true; the input reads as it did. -/
def spanoutAgainUptoRow : OpenClaim := { program := "ytjgmfgnfdaeelaagreatdoor", sum := "aa716191cffc341b37ade97721de70fbe7c6c98f7ccbc6a05d785165b2878b25", func := "emendation/emendationlaw09.SpanoutAgain", spec := "spanoutAgain", inPlace := ["internal/bytealg.IndexByte", "internal/bytealg.IndexByteString", "internal/bytealg.IndexString", "internal/abi.NoEscape", "internal/bytealg.MakeNoZero"], unfollowed := true, recurses := true, named := ["unicode/utf8.first", "unicode/utf8.acceptRanges", "internal/bytealg.MaxLen"], apart := false, laid := [("unicode/utf8.acceptRanges", laid_unicode_utf8_acceptRanges), ("unicode/utf8.first", laid_unicode_utf8_first)], narrowed := true }
def SpanoutAgainUptoSaid : Prop := spanoutAgainUptoRow.holds Tryz.pinned (OpenSpec.upto spanoutAgainSpec)

/-- 'emendationlaw09.SpanoutEscapes', WHERE WHAT IT READS IS OF BULK AT MOST 1048576: true; the input reads as it did. -/
def spanoutEscapesUptoRow : OpenClaim := { program := "ytjgmfgnfdaeelaagreatdoor", sum := "aa716191cffc341b37ade97721de70fbe7c6c98f7ccbc6a05d785165b2878b25", func := "emendation/emendationlaw09.SpanoutEscapes", spec := "spanoutEscapes", inPlace := ["internal/bytealg.IndexByte", "internal/bytealg.IndexByteString", "internal/bytealg.IndexString", "internal/abi.NoEscape", "internal/bytealg.MakeNoZero"], unfollowed := true, recurses := true, named := ["unicode/utf8.first", "unicode/utf8.acceptRanges", "internal/bytealg.MaxLen"], apart := false, laid := [("unicode/utf8.acceptRanges", laid_unicode_utf8_acceptRanges), ("unicode/utf8.first", laid_unicode_utf8_first)], narrowed := true }
def SpanoutEscapesUptoSaid : Prop := spanoutEscapesUptoRow.holds Tryz.pinned (OpenSpec.upto spanoutEscapesSpec)

/-- 'emendationlaw09.SpanoutKinds', WHERE WHAT IT READS IS OF BULK AT MOST 1048576: true; the input reads as it did. -/
def spanoutKindsUptoRow : OpenClaim := { program := "ytjgmfgnfdaeelaagreatdoor", sum := "aa716191cffc341b37ade97721de70fbe7c6c98f7ccbc6a05d785165b2878b25", func := "emendation/emendationlaw09.SpanoutKinds", spec := "spanoutKinds", inPlace := ["internal/bytealg.IndexByte", "internal/bytealg.IndexByteString", "internal/bytealg.IndexString", "internal/abi.NoEscape", "internal/bytealg.MakeNoZero"], unfollowed := true, recurses := true, named := ["unicode/utf8.first", "unicode/utf8.acceptRanges", "internal/bytealg.MaxLen"], apart := false, laid := [("unicode/utf8.acceptRanges", laid_unicode_utf8_acceptRanges), ("unicode/utf8.first", laid_unicode_utf8_first)], narrowed := true }
def SpanoutKindsUptoSaid : Prop := spanoutKindsUptoRow.holds Tryz.pinned (OpenSpec.upto spanoutKindsSpec)

end Rows
end Go.Proofs.YtjgmfgnfdaeelaaGreatDoor
