/-
  No cell of these rows narrows 'for every input' (looked for: loops, veiled, ifaces, maps, wideKeys, modest, calm, conditions, laid).
  DERIVED. THE GIVEN ROWS OF THIS SEAT. 6 by the template 'for every input the law returns true; each argument reads behind the call as it read before'; 0 by the template 'total and deterministic' (their statements: YtgmonfeookljmaaTotals.lean).
  GIVEN WITH THE SEED: the statements are not yours to turn. If you find one false, say at which input.
  Laid BY PROGRAM, IN A SANDBOX (cutbox-rows.mjs): the forced cells as the released guide's own fill.sh prints them over the translation 17dca04ad5158432… (all of the seat's roots in one cut). By AI agents, Wed Nov 11 2026. No macro, syntax, notation, axiom, sorry.
-/
import Derived.Test.YtgmonfeookljmaaChecked
import GoSem.Claim
import GoSem.ClaimJoined
import GoSem.ClaimMapViews
import Derived.JoinedTies
import Derived.KernelRfl
namespace Go.Proofs.Ytgmonfeookljmaa
/- THE CELL 'sum', in the pinned program and in every row, IS THE sha256 OF THE DUMP (.gsa) THAT YtgmonfeookljmaaProg.lean LOADS. Nothing in Lean hashes anything: it is a label: what it is worth is what the hold of that sum in a sandbox is worth. -/
noncomputable def Try.pinned : Pinned := { name := "ytgmonfeookljmaa", sum := "17dca04ad515843233b6f4df8b3dc63a75669f4a5cc59ab464245552e1000dd6", checked := Try.checked }
namespace Rows
def none {H : Type} : Left H := { results := [], args := [] }

/-- 'emendationlaw04.LcsTells': WHATEVER THE INPUT: true; the input reads as it did. -/
def lcsTellsSpec : ChangeSpec := { name := "lcsTells", fn := fun _ => fun
  | [d1, d2] => { results := [.lit (.bool true)], args := [d1, d2] }
  | _ => none }
def lcsTellsRow : OpenClaim := { program := "ytgmonfeookljmaa", sum := "17dca04ad515843233b6f4df8b3dc63a75669f4a5cc59ab464245552e1000dd6", func := "emendation/emendationlaw04.LcsTells", spec := "lcsTells", inPlace := ["math/bits.Sub64"], unfollowed := true, recurses := true, apart := false }
def LcsTellsSaid : Prop := lcsTellsRow.holds Try.pinned (OpenSpec.ofChange lcsTellsSpec)

/-- ITS FALSE NEIGHBOUR: 'it returns false'. Refute it at one input. -/
def lcsTellsWrong : ChangeSpec := { name := "lcsTells", fn := fun _ => fun
  | [d1, d2] => { results := [.lit (.bool false)], args := [d1, d2] }
  | _ => none }
def LcsTellsWrongFalsely : Prop := lcsTellsRow.holds Try.pinned (OpenSpec.ofChange lcsTellsWrong)

/-- 'emendationlaw04.LcsPairs': WHATEVER THE INPUT: true; the input reads as it did. -/
def lcsPairsSpec : ChangeSpec := { name := "lcsPairs", fn := fun _ => fun
  | [d1, d2] => { results := [.lit (.bool true)], args := [d1, d2] }
  | _ => none }
def lcsPairsRow : OpenClaim := { program := "ytgmonfeookljmaa", sum := "17dca04ad515843233b6f4df8b3dc63a75669f4a5cc59ab464245552e1000dd6", func := "emendation/emendationlaw04.LcsPairs", spec := "lcsPairs", inPlace := ["math/bits.Sub64"], unfollowed := true, recurses := true, apart := false }
def LcsPairsSaid : Prop := lcsPairsRow.holds Try.pinned (OpenSpec.ofChange lcsPairsSpec)

/-- ITS FALSE NEIGHBOUR: 'it returns false'. Refute it at one input. -/
def lcsPairsWrong : ChangeSpec := { name := "lcsPairs", fn := fun _ => fun
  | [d1, d2] => { results := [.lit (.bool false)], args := [d1, d2] }
  | _ => none }
def LcsPairsWrongFalsely : Prop := lcsPairsRow.holds Try.pinned (OpenSpec.ofChange lcsPairsWrong)

/-- 'emendationlaw04.LcsMost': WHATEVER THE INPUT: true; the input reads as it did. -/
def lcsMostSpec : ChangeSpec := { name := "lcsMost", fn := fun _ => fun
  | [d1, d2] => { results := [.lit (.bool true)], args := [d1, d2] }
  | _ => none }
def lcsMostRow : OpenClaim := { program := "ytgmonfeookljmaa", sum := "17dca04ad515843233b6f4df8b3dc63a75669f4a5cc59ab464245552e1000dd6", func := "emendation/emendationlaw04.LcsMost", spec := "lcsMost", inPlace := ["math/bits.Sub64"], apart := false }
def LcsMostSaid : Prop := lcsMostRow.holds Try.pinned (OpenSpec.ofChange lcsMostSpec)

/-- ITS FALSE NEIGHBOUR: 'it returns false'. Refute it at one input. -/
def lcsMostWrong : ChangeSpec := { name := "lcsMost", fn := fun _ => fun
  | [d1, d2] => { results := [.lit (.bool false)], args := [d1, d2] }
  | _ => none }
def LcsMostWrongFalsely : Prop := lcsMostRow.holds Try.pinned (OpenSpec.ofChange lcsMostWrong)

/-- 'emendationlaw04.LcsSelf': WHATEVER THE INPUT: true; the input reads as it did. -/
def lcsSelfSpec : ChangeSpec := { name := "lcsSelf", fn := fun _ => fun
  | [d1, d2, d3] => { results := [.lit (.bool true)], args := [d1, d2, d3] }
  | _ => none }
def lcsSelfRow : OpenClaim := { program := "ytgmonfeookljmaa", sum := "17dca04ad515843233b6f4df8b3dc63a75669f4a5cc59ab464245552e1000dd6", func := "emendation/emendationlaw04.LcsSelf", spec := "lcsSelf", inPlace := ["math/bits.Sub64"], unfollowed := true, recurses := true, apart := false }
def LcsSelfSaid : Prop := lcsSelfRow.holds Try.pinned (OpenSpec.ofChange lcsSelfSpec)

/-- ITS FALSE NEIGHBOUR: 'it returns false'. Refute it at one input. -/
def lcsSelfWrong : ChangeSpec := { name := "lcsSelf", fn := fun _ => fun
  | [d1, d2, d3] => { results := [.lit (.bool false)], args := [d1, d2, d3] }
  | _ => none }
def LcsSelfWrongFalsely : Prop := lcsSelfRow.holds Try.pinned (OpenSpec.ofChange lcsSelfWrong)

/-- 'emendationlaw04.LcsMore': WHATEVER THE INPUT: true; the input reads as it did. -/
def lcsMoreSpec : ChangeSpec := { name := "lcsMore", fn := fun _ => fun
  | [d1, d2, d3] => { results := [.lit (.bool true)], args := [d1, d2, d3] }
  | _ => none }
def lcsMoreRow : OpenClaim := { program := "ytgmonfeookljmaa", sum := "17dca04ad515843233b6f4df8b3dc63a75669f4a5cc59ab464245552e1000dd6", func := "emendation/emendationlaw04.LcsMore", spec := "lcsMore", inPlace := ["math/bits.Sub64"], apart := false }
def LcsMoreSaid : Prop := lcsMoreRow.holds Try.pinned (OpenSpec.ofChange lcsMoreSpec)

/-- ITS FALSE NEIGHBOUR: 'it returns false'. Refute it at one input. -/
def lcsMoreWrong : ChangeSpec := { name := "lcsMore", fn := fun _ => fun
  | [d1, d2, d3] => { results := [.lit (.bool false)], args := [d1, d2, d3] }
  | _ => none }
def LcsMoreWrongFalsely : Prop := lcsMoreRow.holds Try.pinned (OpenSpec.ofChange lcsMoreWrong)

/-- 'emendationlaw04.LcsBounds': WHATEVER THE INPUT: true; the input reads as it did. -/
def lcsBoundsSpec : ChangeSpec := { name := "lcsBounds", fn := fun _ => fun
  | [d1, d2, d3, d4] => { results := [.lit (.bool true)], args := [d1, d2, d3, d4] }
  | _ => none }
def lcsBoundsRow : OpenClaim := { program := "ytgmonfeookljmaa", sum := "17dca04ad515843233b6f4df8b3dc63a75669f4a5cc59ab464245552e1000dd6", func := "emendation/emendationlaw04.LcsBounds", spec := "lcsBounds", inPlace := ["math/bits.Sub64"], unfollowed := true, recurses := true, apart := false }
def LcsBoundsSaid : Prop := lcsBoundsRow.holds Try.pinned (OpenSpec.ofChange lcsBoundsSpec)

/-- ITS FALSE NEIGHBOUR: 'it returns false'. Refute it at one input. -/
def lcsBoundsWrong : ChangeSpec := { name := "lcsBounds", fn := fun _ => fun
  | [d1, d2, d3, d4] => { results := [.lit (.bool false)], args := [d1, d2, d3, d4] }
  | _ => none }
def LcsBoundsWrongFalsely : Prop := lcsBoundsRow.holds Try.pinned (OpenSpec.ofChange lcsBoundsWrong)

/- THE SECOND FORM. 'bulk': how many values and letters a reading holds, each counted each time it is reached (what is shared counts as often as it is met; a slice's spare places count too). A statement '..UptoSaid' is the law's where the arguments, and the package variables that the reading takes, are together of bulk at most 1048576: NARROWER than '..Said'. Prove '..Said' where nothing that the law and all that it calls make is longer than what came in: it says more and counts as full. Else prove '..UptoSaid'. A law counts once. -/
mutual
def uptoBulk {H : Type} : DataW H → Nat
  | .lit (.string bytes) => bytes.length + 1
  | .lit _ => 1
  | .nil => 1
  | .ptr d => uptoBulk d + 1
  | .slice elems spare => uptoBulkAll elems + uptoBulkAll spare + 1
  | .agg parts => uptoBulkAll parts + 1
  | .iface _ d => uptoBulk d + 1
  | .map entries => uptoBulkEntries entries + 1
  | .held _ => 1
def uptoBulkAll {H : Type} : List (DataW H) → Nat
  | [] => 0
  | d :: r => uptoBulk d + uptoBulkAll r
def uptoBulkEntries {H : Type} : List (Lit × DataW H) → Nat
  | [] => 0
  | x :: r => uptoBulkEntry x + uptoBulkEntries r
def uptoBulkEntry {H : Type} : Lit × DataW H → Nat
  | (.string bytes, d) => bytes.length + uptoBulk d + 1
  | (_, d) => uptoBulk d + 1
 end
def uptoSmall : (H : Type) → List (DataW H) → Bool := fun _ ds => decide (uptoBulkAll ds ≤ 1048576)
def OpenSpec.upto (s : _root_.Go.ChangeSpec) : _root_.Go.OpenSpec := { _root_.Go.OpenSpec.ofChange s with cond := some uptoSmall }

/-- 'emendationlaw04.LcsTells', WHERE WHAT IT READS IS OF BULK AT MOST 1048576: true; the input reads as it did. -/
def lcsTellsUptoRow : OpenClaim := { program := "ytgmonfeookljmaa", sum := "17dca04ad515843233b6f4df8b3dc63a75669f4a5cc59ab464245552e1000dd6", func := "emendation/emendationlaw04.LcsTells", spec := "lcsTells", inPlace := ["math/bits.Sub64"], unfollowed := true, recurses := true, apart := false, narrowed := true }
def LcsTellsUptoSaid : Prop := lcsTellsUptoRow.holds Try.pinned (OpenSpec.upto lcsTellsSpec)

/-- 'emendationlaw04.LcsPairs', WHERE WHAT IT READS IS OF BULK AT MOST 1048576: true; the input reads as it did. -/
def lcsPairsUptoRow : OpenClaim := { program := "ytgmonfeookljmaa", sum := "17dca04ad515843233b6f4df8b3dc63a75669f4a5cc59ab464245552e1000dd6", func := "emendation/emendationlaw04.LcsPairs", spec := "lcsPairs", inPlace := ["math/bits.Sub64"], unfollowed := true, recurses := true, apart := false, narrowed := true }
def LcsPairsUptoSaid : Prop := lcsPairsUptoRow.holds Try.pinned (OpenSpec.upto lcsPairsSpec)

/-- 'emendationlaw04.LcsMost', WHERE WHAT IT READS IS OF BULK AT MOST 1048576: true; the input reads as it did. -/
def lcsMostUptoRow : OpenClaim := { program := "ytgmonfeookljmaa", sum := "17dca04ad515843233b6f4df8b3dc63a75669f4a5cc59ab464245552e1000dd6", func := "emendation/emendationlaw04.LcsMost", spec := "lcsMost", inPlace := ["math/bits.Sub64"], apart := false, narrowed := true }
def LcsMostUptoSaid : Prop := lcsMostUptoRow.holds Try.pinned (OpenSpec.upto lcsMostSpec)

/-- 'emendationlaw04.LcsSelf', WHERE WHAT IT READS IS OF BULK AT MOST 1048576: true; the input reads as it did. -/
def lcsSelfUptoRow : OpenClaim := { program := "ytgmonfeookljmaa", sum := "17dca04ad515843233b6f4df8b3dc63a75669f4a5cc59ab464245552e1000dd6", func := "emendation/emendationlaw04.LcsSelf", spec := "lcsSelf", inPlace := ["math/bits.Sub64"], unfollowed := true, recurses := true, apart := false, narrowed := true }
def LcsSelfUptoSaid : Prop := lcsSelfUptoRow.holds Try.pinned (OpenSpec.upto lcsSelfSpec)

/-- 'emendationlaw04.LcsMore', WHERE WHAT IT READS IS OF BULK AT MOST 1048576: true; the input reads as it did. -/
def lcsMoreUptoRow : OpenClaim := { program := "ytgmonfeookljmaa", sum := "17dca04ad515843233b6f4df8b3dc63a75669f4a5cc59ab464245552e1000dd6", func := "emendation/emendationlaw04.LcsMore", spec := "lcsMore", inPlace := ["math/bits.Sub64"], apart := false, narrowed := true }
def LcsMoreUptoSaid : Prop := lcsMoreUptoRow.holds Try.pinned (OpenSpec.upto lcsMoreSpec)

/-- 'emendationlaw04.LcsBounds', WHERE WHAT IT READS IS OF BULK AT MOST 1048576: true; the input reads as it did. -/
def lcsBoundsUptoRow : OpenClaim := { program := "ytgmonfeookljmaa", sum := "17dca04ad515843233b6f4df8b3dc63a75669f4a5cc59ab464245552e1000dd6", func := "emendation/emendationlaw04.LcsBounds", spec := "lcsBounds", inPlace := ["math/bits.Sub64"], unfollowed := true, recurses := true, apart := false, narrowed := true }
def LcsBoundsUptoSaid : Prop := lcsBoundsUptoRow.holds Try.pinned (OpenSpec.upto lcsBoundsSpec)

end Rows
end Go.Proofs.Ytgmonfeookljmaa
