/-
  NARROWER THAN 'FOR EVERY INPUT', by the rows' own cells (each row's printed sentence says how): SpanoutWrites: loops, laid · SpanoutUnlike: loops, laid · SpanoutJoins: loops, laid.
  DERIVED. THE GIVEN ROWS OF THIS SEAT. 3 by the template 'for every input the law returns true; each argument reads behind the call as it read before'; 0 by the template 'total and deterministic' (their statements: YtjgmfgnfdaeelaaDoorTotals.lean).
  GIVEN WITH THE SEED: the statements are not yours to turn. If you find one false, say at which input.
  Laid BY PROGRAM, IN A SANDBOX (cutbox-rows.mjs): the forced cells as the released guide's own fill.sh prints them over the translation c5c24449c1922ead… (all of the seat's roots in one cut). By AI agents, Wed Nov 11 2026. No macro, syntax, notation, axiom, sorry.
-/
import Derived.Test.YtjgmfgnfdaeelaaDoorChecked
import GoSem.PinnedTables
import GoSem.Claim
import GoSem.ClaimJoined
import GoSem.ClaimMapViews
import Derived.JoinedTies
import Derived.KernelRfl
namespace Go.Proofs.YtjgmfgnfdaeelaaDoor
/- THE CELL 'sum', in the pinned program and in every row, IS THE sha256 OF THE DUMP (.gsa) THAT YtjgmfgnfdaeelaaDoorProg.lean LOADS. Nothing in Lean hashes anything: it is a label: what it is worth is what the hold of that sum in a sandbox is worth. -/
noncomputable def Tryd.pinned : Pinned := { name := "ytjgmfgnfdaeelaadoor", sum := "c5c24449c1922ead5fee2afa2c7c03fd11a346ee4977cfa30d76dc3378e8396d", checked := Tryd.checked }
namespace Rows
def none {H : Type} : Left H := { results := [], args := [] }

/- WHAT THE LISTED PACKAGE-LEVEL VARIABLES READ AS WHEN THE CALL BEGINS. Each datum BY PROGRAM (the guide's laid-datum.mjs) off the statement by which the dump's own 'gosem.cut.vars' lays the variable. In a bare row this is a premise. The card (YtjgmfgnfdaeelaaDoorCards.lean) ties it to the program's text. -/
def laid_unicode_utf8_acceptRanges {H : Type} : DataW H := .agg [.agg [.lit (.int .u8 128), .lit (.int .u8 191)], .agg [.lit (.int .u8 160), .lit (.int .u8 191)], .agg [.lit (.int .u8 128), .lit (.int .u8 159)], .agg [.lit (.int .u8 144), .lit (.int .u8 191)], .agg [.lit (.int .u8 128), .lit (.int .u8 143)], .agg [.lit (.int .u8 0), .lit (.int .u8 0)], .agg [.lit (.int .u8 0), .lit (.int .u8 0)], .agg [.lit (.int .u8 0), .lit (.int .u8 0)], .agg [.lit (.int .u8 0), .lit (.int .u8 0)], .agg [.lit (.int .u8 0), .lit (.int .u8 0)], .agg [.lit (.int .u8 0), .lit (.int .u8 0)], .agg [.lit (.int .u8 0), .lit (.int .u8 0)], .agg [.lit (.int .u8 0), .lit (.int .u8 0)], .agg [.lit (.int .u8 0), .lit (.int .u8 0)], .agg [.lit (.int .u8 0), .lit (.int .u8 0)], .agg [.lit (.int .u8 0), .lit (.int .u8 0)]]
/-- One of Go's own tables, pinned by name: the form's constant. -/
def laid_unicode_utf8_first : DataW Unit := Go.Pinned.utf8First

/-- 'emendationlaw09.SpanoutWrites': WHATEVER THE INPUT: true; the input reads as it did. -/
def spanoutWritesSpec : ChangeSpec := { name := "spanoutWrites", fn := fun _ => fun
  | [d1, d2] => { results := [.lit (.bool true)], args := [d1, d2] }
  | _ => none }
def spanoutWritesRow : OpenClaim := { program := "ytjgmfgnfdaeelaadoor", sum := "c5c24449c1922ead5fee2afa2c7c03fd11a346ee4977cfa30d76dc3378e8396d", func := "emendation/emendationlaw09.SpanoutWrites", spec := "spanoutWrites", inPlace := ["internal/bytealg.IndexByte", "internal/bytealg.IndexByteString", "internal/bytealg.IndexString", "internal/abi.NoEscape", "internal/bytealg.MakeNoZero"], recurses := true, named := ["unicode/utf8.first", "unicode/utf8.acceptRanges", "internal/bytealg.MaxLen"], loops := true, apart := false, laid := [("unicode/utf8.acceptRanges", laid_unicode_utf8_acceptRanges), ("unicode/utf8.first", laid_unicode_utf8_first)] }
def SpanoutWritesSaid : Prop := spanoutWritesRow.holds Tryd.pinned (OpenSpec.ofChange spanoutWritesSpec)

/-- ITS FALSE NEIGHBOUR: 'it returns false'. Refute it at one input. -/
def spanoutWritesWrong : ChangeSpec := { name := "spanoutWrites", fn := fun _ => fun
  | [d1, d2] => { results := [.lit (.bool false)], args := [d1, d2] }
  | _ => none }
def SpanoutWritesWrongFalsely : Prop := spanoutWritesRow.holds Tryd.pinned (OpenSpec.ofChange spanoutWritesWrong)

/-- 'emendationlaw09.SpanoutUnlike': WHATEVER THE INPUT: true; the input reads as it did. -/
def spanoutUnlikeSpec : ChangeSpec := { name := "spanoutUnlike", fn := fun _ => fun
  | [d1, d2] => { results := [.lit (.bool true)], args := [d1, d2] }
  | _ => none }
def spanoutUnlikeRow : OpenClaim := { program := "ytjgmfgnfdaeelaadoor", sum := "c5c24449c1922ead5fee2afa2c7c03fd11a346ee4977cfa30d76dc3378e8396d", func := "emendation/emendationlaw09.SpanoutUnlike", spec := "spanoutUnlike", inPlace := ["internal/bytealg.IndexByte", "internal/bytealg.IndexByteString", "internal/bytealg.IndexString", "internal/abi.NoEscape", "internal/bytealg.MakeNoZero"], recurses := true, named := ["unicode/utf8.first", "unicode/utf8.acceptRanges", "internal/bytealg.MaxLen"], loops := true, apart := false, laid := [("unicode/utf8.acceptRanges", laid_unicode_utf8_acceptRanges), ("unicode/utf8.first", laid_unicode_utf8_first)] }
def SpanoutUnlikeSaid : Prop := spanoutUnlikeRow.holds Tryd.pinned (OpenSpec.ofChange spanoutUnlikeSpec)

/-- ITS FALSE NEIGHBOUR: 'it returns false'. Refute it at one input. -/
def spanoutUnlikeWrong : ChangeSpec := { name := "spanoutUnlike", fn := fun _ => fun
  | [d1, d2] => { results := [.lit (.bool false)], args := [d1, d2] }
  | _ => none }
def SpanoutUnlikeWrongFalsely : Prop := spanoutUnlikeRow.holds Tryd.pinned (OpenSpec.ofChange spanoutUnlikeWrong)

/-- 'emendationlaw09.SpanoutJoins': WHATEVER THE INPUT: true; the input reads as it did. -/
def spanoutJoinsSpec : ChangeSpec := { name := "spanoutJoins", fn := fun _ => fun
  | [d1, d2] => { results := [.lit (.bool true)], args := [d1, d2] }
  | _ => none }
def spanoutJoinsRow : OpenClaim := { program := "ytjgmfgnfdaeelaadoor", sum := "c5c24449c1922ead5fee2afa2c7c03fd11a346ee4977cfa30d76dc3378e8396d", func := "emendation/emendationlaw09.SpanoutJoins", spec := "spanoutJoins", inPlace := ["internal/bytealg.IndexByte", "internal/bytealg.IndexByteString", "internal/bytealg.IndexString", "internal/abi.NoEscape", "internal/bytealg.MakeNoZero"], recurses := true, named := ["unicode/utf8.first", "unicode/utf8.acceptRanges", "internal/bytealg.MaxLen"], loops := true, apart := false, laid := [("unicode/utf8.acceptRanges", laid_unicode_utf8_acceptRanges), ("unicode/utf8.first", laid_unicode_utf8_first)] }
def SpanoutJoinsSaid : Prop := spanoutJoinsRow.holds Tryd.pinned (OpenSpec.ofChange spanoutJoinsSpec)

/-- ITS FALSE NEIGHBOUR: 'it returns false'. Refute it at one input. -/
def spanoutJoinsWrong : ChangeSpec := { name := "spanoutJoins", fn := fun _ => fun
  | [d1, d2] => { results := [.lit (.bool false)], args := [d1, d2] }
  | _ => none }
def SpanoutJoinsWrongFalsely : Prop := spanoutJoinsRow.holds Tryd.pinned (OpenSpec.ofChange spanoutJoinsWrong)

/- THE SECOND FORM. 'bulk': how many values and letters a reading holds, each counted each time it is reached (what is shared counts as often as it is met; a slice's spare places count too). A statement '..UptoSaid' is the law's where the arguments, and the package variables that the reading takes, are together of bulk at most 1048576: NARROWER than '..Said'. Prove '..Said' where nothing that the law and all that it calls make is longer than what came in: it says more and counts as full. Else prove '..UptoSaid'. A law counts once. -/
mutual
def uptoBulk {H : Type} : DataW H → Nat
  | .lit (.string bytes) => bytes.length + 1
  | .lit _ => 1
  | .nil => 1
  | .ptr d => uptoBulk d + 1
  | .slice elems spare => uptoBulkAll elems + uptoBulkAll spare + 1
  | .agg parts => uptoBulkAll parts + 1
  | .iface _ d => uptoBulk d + 1
  | .map entries => uptoBulkEntries entries + 1
  | .held _ => 1
def uptoBulkAll {H : Type} : List (DataW H) → Nat
  | [] => 0
  | d :: r => uptoBulk d + uptoBulkAll r
def uptoBulkEntries {H : Type} : List (Lit × DataW H) → Nat
  | [] => 0
  | x :: r => uptoBulkEntry x + uptoBulkEntries r
def uptoBulkEntry {H : Type} : Lit × DataW H → Nat
  | (.string bytes, d) => bytes.length + uptoBulk d + 1
  | (_, d) => uptoBulk d + 1
 end
def uptoSmall : (H : Type) → List (DataW H) → Bool := fun _ ds => decide (uptoBulkAll ds ≤ 1048576)
def OpenSpec.upto (s : _root_.Go.ChangeSpec) : _root_.Go.OpenSpec := { _root_.Go.OpenSpec.ofChange s with cond := some uptoSmall }

/-- 'emendationlaw09.SpanoutWrites', WHERE WHAT IT READS IS OF BULK AT MOST 1048576: true; the input reads as it did. -/
def spanoutWritesUptoRow : OpenClaim := { program := "ytjgmfgnfdaeelaadoor", sum := "c5c24449c1922ead5fee2afa2c7c03fd11a346ee4977cfa30d76dc3378e8396d", func := "emendation/emendationlaw09.SpanoutWrites", spec := "spanoutWrites", inPlace := ["internal/bytealg.IndexByte", "internal/bytealg.IndexByteString", "internal/bytealg.IndexString", "internal/abi.NoEscape", "internal/bytealg.MakeNoZero"], recurses := true, named := ["unicode/utf8.first", "unicode/utf8.acceptRanges", "internal/bytealg.MaxLen"], loops := true, apart := false, laid := [("unicode/utf8.acceptRanges", laid_unicode_utf8_acceptRanges), ("unicode/utf8.first", laid_unicode_utf8_first)], narrowed := true }
def SpanoutWritesUptoSaid : Prop := spanoutWritesUptoRow.holds Tryd.pinned (OpenSpec.upto spanoutWritesSpec)

/-- 'emendationlaw09.SpanoutUnlike', WHERE WHAT IT READS IS OF BULK AT MOST 1048576: true; the input reads as it did. -/
def spanoutUnlikeUptoRow : OpenClaim := { program := "ytjgmfgnfdaeelaadoor", sum := "c5c24449c1922ead5fee2afa2c7c03fd11a346ee4977cfa30d76dc3378e8396d", func := "emendation/emendationlaw09.SpanoutUnlike", spec := "spanoutUnlike", inPlace := ["internal/bytealg.IndexByte", "internal/bytealg.IndexByteString", "internal/bytealg.IndexString", "internal/abi.NoEscape", "internal/bytealg.MakeNoZero"], recurses := true, named := ["unicode/utf8.first", "unicode/utf8.acceptRanges", "internal/bytealg.MaxLen"], loops := true, apart := false, laid := [("unicode/utf8.acceptRanges", laid_unicode_utf8_acceptRanges), ("unicode/utf8.first", laid_unicode_utf8_first)], narrowed := true }
def SpanoutUnlikeUptoSaid : Prop := spanoutUnlikeUptoRow.holds Tryd.pinned (OpenSpec.upto spanoutUnlikeSpec)

/-- 'emendationlaw09.SpanoutJoins', WHERE WHAT IT READS IS OF BULK AT MOST 1048576: true; the input reads as it did. -/
def spanoutJoinsUptoRow : OpenClaim := { program := "ytjgmfgnfdaeelaadoor", sum := "c5c24449c1922ead5fee2afa2c7c03fd11a346ee4977cfa30d76dc3378e8396d", func := "emendation/emendationlaw09.SpanoutJoins", spec := "spanoutJoins", inPlace := ["internal/bytealg.IndexByte", "internal/bytealg.IndexByteString", "internal/bytealg.IndexString", "internal/abi.NoEscape", "internal/bytealg.MakeNoZero"], recurses := true, named := ["unicode/utf8.first", "unicode/utf8.acceptRanges", "internal/bytealg.MaxLen"], loops := true, apart := false, laid := [("unicode/utf8.acceptRanges", laid_unicode_utf8_acceptRanges), ("unicode/utf8.first", laid_unicode_utf8_first)], narrowed := true }
def SpanoutJoinsUptoSaid : Prop := spanoutJoinsUptoRow.holds Tryd.pinned (OpenSpec.upto spanoutJoinsSpec)

end Rows
end Go.Proofs.YtjgmfgnfdaeelaaDoor
