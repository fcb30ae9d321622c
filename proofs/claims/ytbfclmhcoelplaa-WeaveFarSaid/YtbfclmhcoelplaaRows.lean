/-
  No cell of these rows narrows 'for every input' (looked for: loops, veiled, ifaces, maps, wideKeys, modest, calm, conditions, laid).
  DERIVED. THE GIVEN ROWS OF THIS SEAT. 7 by the template 'for every input the law returns true; each argument reads behind the call as it read before'; 0 by the template 'total and deterministic' (their statements: YtbfclmhcoelplaaTotals.lean).
  GIVEN WITH THE SEED: the statements are not yours to turn. If you find one false, say at which input.
  Laid BY PROGRAM, IN A SANDBOX (cutbox-rows.mjs): the forced cells as the released guide's own fill.sh prints them over the translation d658ab3633b6c0d4… (all of the seat's roots in one cut). By AI agents, Wed Nov 11 2026. No macro, syntax, notation, axiom, sorry.
-/
import Derived.Test.YtbfclmhcoelplaaChecked
import GoSem.Claim
import GoSem.ClaimJoined
import GoSem.ClaimMapViews
import Derived.JoinedTies
import Derived.KernelRfl
namespace Go.Proofs.Ytbfclmhcoelplaa
/- THE CELL 'sum', in the pinned program and in every row, IS THE sha256 OF THE DUMP (.gsa) THAT YtbfclmhcoelplaaProg.lean LOADS. Nothing in Lean hashes anything: it is a label: what it is worth is what the hold of that sum in a sandbox is worth. -/
noncomputable def Try.pinned : Pinned := { name := "ytbfclmhcoelplaa", sum := "d658ab3633b6c0d4ab7c24c1b2ca98a173be8f141062bd7ec527b67e4e802d5b", checked := Try.checked }
namespace Rows
def none {H : Type} : Left H := { results := [], args := [] }

/-- 'emendationlaw05.WeaveTells': WHATEVER THE INPUT: true; the input reads as it did. -/
def weaveTellsSpec : ChangeSpec := { name := "weaveTells", fn := fun _ => fun
  | [d1, d2, d3] => { results := [.lit (.bool true)], args := [d1, d2, d3] }
  | _ => none }
def weaveTellsRow : OpenClaim := { program := "ytbfclmhcoelplaa", sum := "d658ab3633b6c0d4ab7c24c1b2ca98a173be8f141062bd7ec527b67e4e802d5b", func := "emendation/emendationlaw05.WeaveTells", spec := "weaveTells", inPlace := ["math/bits.Sub64"], unfollowed := true, recurses := true, apart := false }
def WeaveTellsSaid : Prop := weaveTellsRow.holds Try.pinned (OpenSpec.ofChange weaveTellsSpec)

/-- ITS FALSE NEIGHBOUR: 'it returns false'. Refute it at one input. -/
def weaveTellsWrong : ChangeSpec := { name := "weaveTells", fn := fun _ => fun
  | [d1, d2, d3] => { results := [.lit (.bool false)], args := [d1, d2, d3] }
  | _ => none }
def WeaveTellsWrongFalsely : Prop := weaveTellsRow.holds Try.pinned (OpenSpec.ofChange weaveTellsWrong)

/-- 'emendationlaw05.WeaveAll': WHATEVER THE INPUT: true; the input reads as it did. -/
def weaveAllSpec : ChangeSpec := { name := "weaveAll", fn := fun _ => fun
  | [d1, d2, d3] => { results := [.lit (.bool true)], args := [d1, d2, d3] }
  | _ => none }
def weaveAllRow : OpenClaim := { program := "ytbfclmhcoelplaa", sum := "d658ab3633b6c0d4ab7c24c1b2ca98a173be8f141062bd7ec527b67e4e802d5b", func := "emendation/emendationlaw05.WeaveAll", spec := "weaveAll", inPlace := ["math/bits.Sub64"], unfollowed := true, recurses := true, apart := false }
def WeaveAllSaid : Prop := weaveAllRow.holds Try.pinned (OpenSpec.ofChange weaveAllSpec)

/-- ITS FALSE NEIGHBOUR: 'it returns false'. Refute it at one input. -/
def weaveAllWrong : ChangeSpec := { name := "weaveAll", fn := fun _ => fun
  | [d1, d2, d3] => { results := [.lit (.bool false)], args := [d1, d2, d3] }
  | _ => none }
def WeaveAllWrongFalsely : Prop := weaveAllRow.holds Try.pinned (OpenSpec.ofChange weaveAllWrong)

/-- 'emendationlaw05.WeaveOne': WHATEVER THE INPUT: true; the input reads as it did. -/
def weaveOneSpec : ChangeSpec := { name := "weaveOne", fn := fun _ => fun
  | [d1, d2] => { results := [.lit (.bool true)], args := [d1, d2] }
  | _ => none }
def weaveOneRow : OpenClaim := { program := "ytbfclmhcoelplaa", sum := "d658ab3633b6c0d4ab7c24c1b2ca98a173be8f141062bd7ec527b67e4e802d5b", func := "emendation/emendationlaw05.WeaveOne", spec := "weaveOne", inPlace := ["math/bits.Sub64"], unfollowed := true, recurses := true, apart := false }
def WeaveOneSaid : Prop := weaveOneRow.holds Try.pinned (OpenSpec.ofChange weaveOneSpec)

/-- ITS FALSE NEIGHBOUR: 'it returns false'. Refute it at one input. -/
def weaveOneWrong : ChangeSpec := { name := "weaveOne", fn := fun _ => fun
  | [d1, d2] => { results := [.lit (.bool false)], args := [d1, d2] }
  | _ => none }
def WeaveOneWrongFalsely : Prop := weaveOneRow.holds Try.pinned (OpenSpec.ofChange weaveOneWrong)

/-- 'emendationlaw05.WeaveTurns': WHATEVER THE INPUT: true; the input reads as it did. -/
def weaveTurnsSpec : ChangeSpec := { name := "weaveTurns", fn := fun _ => fun
  | [d1, d2, d3] => { results := [.lit (.bool true)], args := [d1, d2, d3] }
  | _ => none }
def weaveTurnsRow : OpenClaim := { program := "ytbfclmhcoelplaa", sum := "d658ab3633b6c0d4ab7c24c1b2ca98a173be8f141062bd7ec527b67e4e802d5b", func := "emendation/emendationlaw05.WeaveTurns", spec := "weaveTurns", inPlace := ["math/bits.Sub64"], unfollowed := true, recurses := true, apart := false }
def WeaveTurnsSaid : Prop := weaveTurnsRow.holds Try.pinned (OpenSpec.ofChange weaveTurnsSpec)

/-- ITS FALSE NEIGHBOUR: 'it returns false'. Refute it at one input. -/
def weaveTurnsWrong : ChangeSpec := { name := "weaveTurns", fn := fun _ => fun
  | [d1, d2, d3] => { results := [.lit (.bool false)], args := [d1, d2, d3] }
  | _ => none }
def WeaveTurnsWrongFalsely : Prop := weaveTurnsRow.holds Try.pinned (OpenSpec.ofChange weaveTurnsWrong)

/-- 'emendationlaw05.WeaveFar': WHATEVER THE INPUT: true; the input reads as it did. -/
def weaveFarSpec : ChangeSpec := { name := "weaveFar", fn := fun _ => fun
  | [d1, d2, d3, d4, d5] => { results := [.lit (.bool true)], args := [d1, d2, d3, d4, d5] }
  | _ => none }
def weaveFarRow : OpenClaim := { program := "ytbfclmhcoelplaa", sum := "d658ab3633b6c0d4ab7c24c1b2ca98a173be8f141062bd7ec527b67e4e802d5b", func := "emendation/emendationlaw05.WeaveFar", spec := "weaveFar", inPlace := ["math/bits.Sub64"], unfollowed := true, recurses := true, apart := false }
def WeaveFarSaid : Prop := weaveFarRow.holds Try.pinned (OpenSpec.ofChange weaveFarSpec)

/-- ITS FALSE NEIGHBOUR: 'it returns false'. Refute it at one input. -/
def weaveFarWrong : ChangeSpec := { name := "weaveFar", fn := fun _ => fun
  | [d1, d2, d3, d4, d5] => { results := [.lit (.bool false)], args := [d1, d2, d3, d4, d5] }
  | _ => none }
def WeaveFarWrongFalsely : Prop := weaveFarRow.holds Try.pinned (OpenSpec.ofChange weaveFarWrong)

/-- 'emendationlaw05.WeaveNames': WHATEVER THE INPUT: true; the input reads as it did. -/
def weaveNamesSpec : ChangeSpec := { name := "weaveNames", fn := fun _ => fun
  | [d1, d2, d3, d4] => { results := [.lit (.bool true)], args := [d1, d2, d3, d4] }
  | _ => none }
def weaveNamesRow : OpenClaim := { program := "ytbfclmhcoelplaa", sum := "d658ab3633b6c0d4ab7c24c1b2ca98a173be8f141062bd7ec527b67e4e802d5b", func := "emendation/emendationlaw05.WeaveNames", spec := "weaveNames", inPlace := ["math/bits.Sub64"], unfollowed := true, recurses := true, apart := false }
def WeaveNamesSaid : Prop := weaveNamesRow.holds Try.pinned (OpenSpec.ofChange weaveNamesSpec)

/-- ITS FALSE NEIGHBOUR: 'it returns false'. Refute it at one input. -/
def weaveNamesWrong : ChangeSpec := { name := "weaveNames", fn := fun _ => fun
  | [d1, d2, d3, d4] => { results := [.lit (.bool false)], args := [d1, d2, d3, d4] }
  | _ => none }
def WeaveNamesWrongFalsely : Prop := weaveNamesRow.holds Try.pinned (OpenSpec.ofChange weaveNamesWrong)

/-- 'emendationlaw05.WeaveEnds': WHATEVER THE INPUT: true; the input reads as it did. -/
def weaveEndsSpec : ChangeSpec := { name := "weaveEnds", fn := fun _ => fun
  | [d1, d2, d3] => { results := [.lit (.bool true)], args := [d1, d2, d3] }
  | _ => none }
def weaveEndsRow : OpenClaim := { program := "ytbfclmhcoelplaa", sum := "d658ab3633b6c0d4ab7c24c1b2ca98a173be8f141062bd7ec527b67e4e802d5b", func := "emendation/emendationlaw05.WeaveEnds", spec := "weaveEnds", inPlace := ["math/bits.Sub64"], unfollowed := true, recurses := true, apart := false }
def WeaveEndsSaid : Prop := weaveEndsRow.holds Try.pinned (OpenSpec.ofChange weaveEndsSpec)

/-- ITS FALSE NEIGHBOUR: 'it returns false'. Refute it at one input. -/
def weaveEndsWrong : ChangeSpec := { name := "weaveEnds", fn := fun _ => fun
  | [d1, d2, d3] => { results := [.lit (.bool false)], args := [d1, d2, d3] }
  | _ => none }
def WeaveEndsWrongFalsely : Prop := weaveEndsRow.holds Try.pinned (OpenSpec.ofChange weaveEndsWrong)

/- THE SECOND FORM. 'bulk': how many values and letters a reading holds, each counted each time it is reached (what is shared counts as often as it is met; a slice's spare places count too). A statement '..UptoSaid' is the law's where the arguments, and the package variables that the reading takes, are together of bulk at most 1048576: NARROWER than '..Said'. Prove '..Said' where nothing that the law and all that it calls make is longer than what came in: it says more and counts as full. Else prove '..UptoSaid'. A law counts once. -/
mutual
def uptoBulk {H : Type} : DataW H → Nat
  | .lit (.string bytes) => bytes.length + 1
  | .lit _ => 1
  | .nil => 1
  | .ptr d => uptoBulk d + 1
  | .slice elems spare => uptoBulkAll elems + uptoBulkAll spare + 1
  | .agg parts => uptoBulkAll parts + 1
  | .iface _ d => uptoBulk d + 1
  | .map entries => uptoBulkEntries entries + 1
  | .held _ => 1
def uptoBulkAll {H : Type} : List (DataW H) → Nat
  | [] => 0
  | d :: r => uptoBulk d + uptoBulkAll r
def uptoBulkEntries {H : Type} : List (Lit × DataW H) → Nat
  | [] => 0
  | x :: r => uptoBulkEntry x + uptoBulkEntries r
def uptoBulkEntry {H : Type} : Lit × DataW H → Nat
  | (.string bytes, d) => bytes.length + uptoBulk d + 1
  | (_, d) => uptoBulk d + 1
 end
def uptoSmall : (H : Type) → List (DataW H) → Bool := fun _ ds => decide (uptoBulkAll ds ≤ 1048576)
def OpenSpec.upto (s : _root_.Go.ChangeSpec) : _root_.Go.OpenSpec := { _root_.Go.OpenSpec.ofChange s with cond := some uptoSmall }

/-- 'emendationlaw05.WeaveTells', WHERE WHAT IT READS IS OF BULK AT MOST 1048576: true; the input reads as it did. -/
def weaveTellsUptoRow : OpenClaim := { program := "ytbfclmhcoelplaa", sum := "d658ab3633b6c0d4ab7c24c1b2ca98a173be8f141062bd7ec527b67e4e802d5b", func := "emendation/emendationlaw05.WeaveTells", spec := "weaveTells", inPlace := ["math/bits.Sub64"], unfollowed := true, recurses := true, apart := false, narrowed := true }
def WeaveTellsUptoSaid : Prop := weaveTellsUptoRow.holds Try.pinned (OpenSpec.upto weaveTellsSpec)

/-- 'emendationlaw05.WeaveAll', WHERE WHAT IT READS IS OF BULK AT MOST 1048576: true; the input reads as it did. -/
def weaveAllUptoRow : OpenClaim := { program := "ytbfclmhcoelplaa", sum := "d658ab3633b6c0d4ab7c24c1b2ca98a173be8f141062bd7ec527b67e4e802d5b", func := "emendation/emendationlaw05.WeaveAll", spec := "weaveAll", inPlace := ["math/bits.Sub64"], unfollowed := true, recurses := true, apart := false, narrowed := true }
def WeaveAllUptoSaid : Prop := weaveAllUptoRow.holds Try.pinned (OpenSpec.upto weaveAllSpec)

/-- 'emendationlaw05.WeaveOne', WHERE WHAT IT READS IS OF BULK AT MOST 1048576: true; the input reads as it did. -/
def weaveOneUptoRow : OpenClaim := { program := "ytbfclmhcoelplaa", sum := "d658ab3633b6c0d4ab7c24c1b2ca98a173be8f141062bd7ec527b67e4e802d5b", func := "emendation/emendationlaw05.WeaveOne", spec := "weaveOne", inPlace := ["math/bits.Sub64"], unfollowed := true, recurses := true, apart := false, narrowed := true }
def WeaveOneUptoSaid : Prop := weaveOneUptoRow.holds Try.pinned (OpenSpec.upto weaveOneSpec)

/-- 'emendationlaw05.WeaveTurns', WHERE WHAT IT READS IS OF BULK AT MOST 1048576: true; the input reads as it did. -/
def weaveTurnsUptoRow : OpenClaim := { program := "ytbfclmhcoelplaa", sum := "d658ab3633b6c0d4ab7c24c1b2ca98a173be8f141062bd7ec527b67e4e802d5b", func := "emendation/emendationlaw05.WeaveTurns", spec := "weaveTurns", inPlace := ["math/bits.Sub64"], unfollowed := true, recurses := true, apart := false, narrowed := true }
def WeaveTurnsUptoSaid : Prop := weaveTurnsUptoRow.holds Try.pinned (OpenSpec.upto weaveTurnsSpec)

/-- 'emendationlaw05.WeaveFar', WHERE WHAT IT READS IS OF BULK AT MOST 1048576: true; the input reads as it did. -/
def weaveFarUptoRow : OpenClaim := { program := "ytbfclmhcoelplaa", sum := "d658ab3633b6c0d4ab7c24c1b2ca98a173be8f141062bd7ec527b67e4e802d5b", func := "emendation/emendationlaw05.WeaveFar", spec := "weaveFar", inPlace := ["math/bits.Sub64"], unfollowed := true, recurses := true, apart := false, narrowed := true }
def WeaveFarUptoSaid : Prop := weaveFarUptoRow.holds Try.pinned (OpenSpec.upto weaveFarSpec)

/-- 'emendationlaw05.WeaveNames', WHERE WHAT IT READS IS OF BULK AT MOST 1048576: true; the input reads as it did. -/
def weaveNamesUptoRow : OpenClaim := { program := "ytbfclmhcoelplaa", sum := "d658ab3633b6c0d4ab7c24c1b2ca98a173be8f141062bd7ec527b67e4e802d5b", func := "emendation/emendationlaw05.WeaveNames", spec := "weaveNames", inPlace := ["math/bits.Sub64"], unfollowed := true, recurses := true, apart := false, narrowed := true }
def WeaveNamesUptoSaid : Prop := weaveNamesUptoRow.holds Try.pinned (OpenSpec.upto weaveNamesSpec)

/-- 'emendationlaw05.WeaveEnds', WHERE WHAT IT READS IS OF BULK AT MOST 1048576: true; the input reads as it did. -/
def weaveEndsUptoRow : OpenClaim := { program := "ytbfclmhcoelplaa", sum := "d658ab3633b6c0d4ab7c24c1b2ca98a173be8f141062bd7ec527b67e4e802d5b", func := "emendation/emendationlaw05.WeaveEnds", spec := "weaveEnds", inPlace := ["math/bits.Sub64"], unfollowed := true, recurses := true, apart := false, narrowed := true }
def WeaveEndsUptoSaid : Prop := weaveEndsUptoRow.holds Try.pinned (OpenSpec.upto weaveEndsSpec)

end Rows
end Go.Proofs.Ytbfclmhcoelplaa
