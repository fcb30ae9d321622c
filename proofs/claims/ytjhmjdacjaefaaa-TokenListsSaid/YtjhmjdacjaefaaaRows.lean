/-
  No cell of these rows narrows 'for every input' (looked for: loops, veiled, ifaces, maps, wideKeys, modest, calm, conditions, laid).
  DERIVED. THE GIVEN ROWS OF THIS SEAT. 7 by the template 'for every input the law returns true; each argument reads behind the call as it read before'; 0 by the template 'total and deterministic' (their statements: YtjhmjdacjaefaaaTotals.lean).
  GIVEN WITH THE SEED: the statements are not yours to turn. If you find one false, say at which input.
  Laid BY PROGRAM, IN A SANDBOX (cutbox-rows.mjs): the forced cells as the released guide's own fill.sh prints them over the translation b834f34fce91b6cd… (all of the seat's roots in one cut). By AI agents, Wed Nov 11 2026. No macro, syntax, notation, axiom, sorry.
-/
import Derived.Test.YtjhmjdacjaefaaaChecked
import GoSem.Claim
import GoSem.ClaimJoined
import GoSem.ClaimMapViews
import Derived.JoinedTies
import Derived.KernelRfl
namespace Go.Proofs.Ytjhmjdacjaefaaa
/- THE CELL 'sum', in the pinned program and in every row, IS THE sha256 OF THE DUMP (.gsa) THAT YtjhmjdacjaefaaaProg.lean LOADS. Nothing in Lean hashes anything: it is a label: what it is worth is what the hold of that sum in a sandbox is worth. -/
noncomputable def Try.pinned : Pinned := { name := "ytjhmjdacjaefaaa", sum := "b834f34fce91b6cd780662a9be48798d804cdc597dd21abeeeed018513a38b3b", checked := Try.checked }
namespace Rows
def none {H : Type} : Left H := { results := [], args := [] }

/-- 'emendationlaw03.TokenCuts': WHATEVER THE INPUT: true; the input reads as it did. -/
def tokenCutsSpec : ChangeSpec := { name := "tokenCuts", fn := fun _ => fun
  | [d] => { results := [.lit (.bool true)], args := [d] }
  | _ => none }
def tokenCutsRow : OpenClaim := { program := "ytjhmjdacjaefaaa", sum := "b834f34fce91b6cd780662a9be48798d804cdc597dd21abeeeed018513a38b3b", func := "emendation/emendationlaw03.TokenCuts", spec := "tokenCuts", apart := false }
def TokenCutsSaid : Prop := tokenCutsRow.holds Try.pinned (OpenSpec.ofChange tokenCutsSpec)

/-- ITS FALSE NEIGHBOUR: 'it returns false'. Refute it at one input. -/
def tokenCutsWrong : ChangeSpec := { name := "tokenCuts", fn := fun _ => fun
  | [d] => { results := [.lit (.bool false)], args := [d] }
  | _ => none }
def TokenCutsWrongFalsely : Prop := tokenCutsRow.holds Try.pinned (OpenSpec.ofChange tokenCutsWrong)

/-- 'emendationlaw03.TokenIds': WHATEVER THE INPUT: true; the input reads as it did. -/
def tokenIdsSpec : ChangeSpec := { name := "tokenIds", fn := fun _ => fun
  | [d1, d2] => { results := [.lit (.bool true)], args := [d1, d2] }
  | _ => none }
def tokenIdsRow : OpenClaim := { program := "ytjhmjdacjaefaaa", sum := "b834f34fce91b6cd780662a9be48798d804cdc597dd21abeeeed018513a38b3b", func := "emendation/emendationlaw03.TokenIds", spec := "tokenIds", recurses := true, apart := false }
def TokenIdsSaid : Prop := tokenIdsRow.holds Try.pinned (OpenSpec.ofChange tokenIdsSpec)

/-- ITS FALSE NEIGHBOUR: 'it returns false'. Refute it at one input. -/
def tokenIdsWrong : ChangeSpec := { name := "tokenIds", fn := fun _ => fun
  | [d1, d2] => { results := [.lit (.bool false)], args := [d1, d2] }
  | _ => none }
def TokenIdsWrongFalsely : Prop := tokenIdsRow.holds Try.pinned (OpenSpec.ofChange tokenIdsWrong)

/-- 'emendationlaw03.TokenBack': WHATEVER THE INPUT: true; the input reads as it did. -/
def tokenBackSpec : ChangeSpec := { name := "tokenBack", fn := fun _ => fun
  | [d1, d2] => { results := [.lit (.bool true)], args := [d1, d2] }
  | _ => none }
def tokenBackRow : OpenClaim := { program := "ytjhmjdacjaefaaa", sum := "b834f34fce91b6cd780662a9be48798d804cdc597dd21abeeeed018513a38b3b", func := "emendation/emendationlaw03.TokenBack", spec := "tokenBack", inPlace := ["internal/abi.NoEscape", "internal/bytealg.MakeNoZero"], apart := false }
def TokenBackSaid : Prop := tokenBackRow.holds Try.pinned (OpenSpec.ofChange tokenBackSpec)

/-- ITS FALSE NEIGHBOUR: 'it returns false'. Refute it at one input. -/
def tokenBackWrong : ChangeSpec := { name := "tokenBack", fn := fun _ => fun
  | [d1, d2] => { results := [.lit (.bool false)], args := [d1, d2] }
  | _ => none }
def TokenBackWrongFalsely : Prop := tokenBackRow.holds Try.pinned (OpenSpec.ofChange tokenBackWrong)

/-- 'emendationlaw03.TokenSame': WHATEVER THE INPUT: true; the input reads as it did. -/
def tokenSameSpec : ChangeSpec := { name := "tokenSame", fn := fun _ => fun
  | [d1, d2, d3] => { results := [.lit (.bool true)], args := [d1, d2, d3] }
  | _ => none }
def tokenSameRow : OpenClaim := { program := "ytjhmjdacjaefaaa", sum := "b834f34fce91b6cd780662a9be48798d804cdc597dd21abeeeed018513a38b3b", func := "emendation/emendationlaw03.TokenSame", spec := "tokenSame", recurses := true, apart := false }
def TokenSameSaid : Prop := tokenSameRow.holds Try.pinned (OpenSpec.ofChange tokenSameSpec)

/-- ITS FALSE NEIGHBOUR: 'it returns false'. Refute it at one input. -/
def tokenSameWrong : ChangeSpec := { name := "tokenSame", fn := fun _ => fun
  | [d1, d2, d3] => { results := [.lit (.bool false)], args := [d1, d2, d3] }
  | _ => none }
def TokenSameWrongFalsely : Prop := tokenSameRow.holds Try.pinned (OpenSpec.ofChange tokenSameWrong)

/-- 'emendationlaw03.TokenParts': WHATEVER THE INPUT: true; the input reads as it did. -/
def tokenPartsSpec : ChangeSpec := { name := "tokenParts", fn := fun _ => fun
  | [d1, d2] => { results := [.lit (.bool true)], args := [d1, d2] }
  | _ => none }
def tokenPartsRow : OpenClaim := { program := "ytjhmjdacjaefaaa", sum := "b834f34fce91b6cd780662a9be48798d804cdc597dd21abeeeed018513a38b3b", func := "emendation/emendationlaw03.TokenParts", spec := "tokenParts", inPlace := ["internal/abi.NoEscape", "internal/bytealg.MakeNoZero"], apart := false }
def TokenPartsSaid : Prop := tokenPartsRow.holds Try.pinned (OpenSpec.ofChange tokenPartsSpec)

/-- ITS FALSE NEIGHBOUR: 'it returns false'. Refute it at one input. -/
def tokenPartsWrong : ChangeSpec := { name := "tokenParts", fn := fun _ => fun
  | [d1, d2] => { results := [.lit (.bool false)], args := [d1, d2] }
  | _ => none }
def TokenPartsWrongFalsely : Prop := tokenPartsRow.holds Try.pinned (OpenSpec.ofChange tokenPartsWrong)

/-- 'emendationlaw03.TokenCounts': WHATEVER THE INPUT: true; the input reads as it did. -/
def tokenCountsSpec : ChangeSpec := { name := "tokenCounts", fn := fun _ => fun
  | [d1, d2, d3] => { results := [.lit (.bool true)], args := [d1, d2, d3] }
  | _ => none }
def tokenCountsRow : OpenClaim := { program := "ytjhmjdacjaefaaa", sum := "b834f34fce91b6cd780662a9be48798d804cdc597dd21abeeeed018513a38b3b", func := "emendation/emendationlaw03.TokenCounts", spec := "tokenCounts", apart := false }
def TokenCountsSaid : Prop := tokenCountsRow.holds Try.pinned (OpenSpec.ofChange tokenCountsSpec)

/-- ITS FALSE NEIGHBOUR: 'it returns false'. Refute it at one input. -/
def tokenCountsWrong : ChangeSpec := { name := "tokenCounts", fn := fun _ => fun
  | [d1, d2, d3] => { results := [.lit (.bool false)], args := [d1, d2, d3] }
  | _ => none }
def TokenCountsWrongFalsely : Prop := tokenCountsRow.holds Try.pinned (OpenSpec.ofChange tokenCountsWrong)

/-- 'emendationlaw03.TokenLists': WHATEVER THE INPUT: true; the input reads as it did. -/
def tokenListsSpec : ChangeSpec := { name := "tokenLists", fn := fun _ => fun
  | [d1, d2] => { results := [.lit (.bool true)], args := [d1, d2] }
  | _ => none }
def tokenListsRow : OpenClaim := { program := "ytjhmjdacjaefaaa", sum := "b834f34fce91b6cd780662a9be48798d804cdc597dd21abeeeed018513a38b3b", func := "emendation/emendationlaw03.TokenLists", spec := "tokenLists", recurses := true, apart := false }
def TokenListsSaid : Prop := tokenListsRow.holds Try.pinned (OpenSpec.ofChange tokenListsSpec)

/-- ITS FALSE NEIGHBOUR: 'it returns false'. Refute it at one input. -/
def tokenListsWrong : ChangeSpec := { name := "tokenLists", fn := fun _ => fun
  | [d1, d2] => { results := [.lit (.bool false)], args := [d1, d2] }
  | _ => none }
def TokenListsWrongFalsely : Prop := tokenListsRow.holds Try.pinned (OpenSpec.ofChange tokenListsWrong)

/- THE SECOND FORM. 'bulk': how many values and letters a reading holds, each counted each time it is reached (what is shared counts as often as it is met; a slice's spare places count too). A statement '..UptoSaid' is the law's where the arguments, and the package variables that the reading takes, are together of bulk at most 1048576: NARROWER than '..Said'. Prove '..Said' where nothing that the law and all that it calls make is longer than what came in: it says more and counts as full. Else prove '..UptoSaid'. A law counts once. -/
mutual
def uptoBulk {H : Type} : DataW H → Nat
  | .lit (.string bytes) => bytes.length + 1
  | .lit _ => 1
  | .nil => 1
  | .ptr d => uptoBulk d + 1
  | .slice elems spare => uptoBulkAll elems + uptoBulkAll spare + 1
  | .agg parts => uptoBulkAll parts + 1
  | .iface _ d => uptoBulk d + 1
  | .map entries => uptoBulkEntries entries + 1
  | .held _ => 1
def uptoBulkAll {H : Type} : List (DataW H) → Nat
  | [] => 0
  | d :: r => uptoBulk d + uptoBulkAll r
def uptoBulkEntries {H : Type} : List (Lit × DataW H) → Nat
  | [] => 0
  | x :: r => uptoBulkEntry x + uptoBulkEntries r
def uptoBulkEntry {H : Type} : Lit × DataW H → Nat
  | (.string bytes, d) => bytes.length + uptoBulk d + 1
  | (_, d) => uptoBulk d + 1
 end
def uptoSmall : (H : Type) → List (DataW H) → Bool := fun _ ds => decide (uptoBulkAll ds ≤ 1048576)
def OpenSpec.upto (s : _root_.Go.ChangeSpec) : _root_.Go.OpenSpec := { _root_.Go.OpenSpec.ofChange s with cond := some uptoSmall }

/-- 'emendationlaw03.TokenCuts', WHERE WHAT IT READS IS OF BULK AT MOST 1048576: true; the input reads as it did. -/
def tokenCutsUptoRow : OpenClaim := { program := "ytjhmjdacjaefaaa", sum := "b834f34fce91b6cd780662a9be48798d804cdc597dd21abeeeed018513a38b3b", func := "emendation/emendationlaw03.TokenCuts", spec := "tokenCuts", apart := false, narrowed := true }
def TokenCutsUptoSaid : Prop := tokenCutsUptoRow.holds Try.pinned (OpenSpec.upto tokenCutsSpec)

/-- 'emendationlaw03.TokenIds', WHERE WHAT IT READS IS OF BULK AT MOST 1048576: true; the input reads as it did. -/
def tokenIdsUptoRow : OpenClaim := { program := "ytjhmjdacjaefaaa", sum := "b834f34fce91b6cd780662a9be48798d804cdc597dd21abeeeed018513a38b3b", func := "emendation/emendationlaw03.TokenIds", spec := "tokenIds", recurses := true, apart := false, narrowed := true }
def TokenIdsUptoSaid : Prop := tokenIdsUptoRow.holds Try.pinned (OpenSpec.upto tokenIdsSpec)

/-- 'emendationlaw03.TokenBack', WHERE WHAT IT READS IS OF BULK AT MOST 1048576: true; the input reads as it did. -/
def tokenBackUptoRow : OpenClaim := { program := "ytjhmjdacjaefaaa", sum := "b834f34fce91b6cd780662a9be48798d804cdc597dd21abeeeed018513a38b3b", func := "emendation/emendationlaw03.TokenBack", spec := "tokenBack", inPlace := ["internal/abi.NoEscape", "internal/bytealg.MakeNoZero"], apart := false, narrowed := true }
def TokenBackUptoSaid : Prop := tokenBackUptoRow.holds Try.pinned (OpenSpec.upto tokenBackSpec)

/-- 'emendationlaw03.TokenSame', WHERE WHAT IT READS IS OF BULK AT MOST 1048576: true; the input reads as it did. -/
def tokenSameUptoRow : OpenClaim := { program := "ytjhmjdacjaefaaa", sum := "b834f34fce91b6cd780662a9be48798d804cdc597dd21abeeeed018513a38b3b", func := "emendation/emendationlaw03.TokenSame", spec := "tokenSame", recurses := true, apart := false, narrowed := true }
def TokenSameUptoSaid : Prop := tokenSameUptoRow.holds Try.pinned (OpenSpec.upto tokenSameSpec)

/-- 'emendationlaw03.TokenParts', WHERE WHAT IT READS IS OF BULK AT MOST 1048576: true; the input reads as it did. -/
def tokenPartsUptoRow : OpenClaim := { program := "ytjhmjdacjaefaaa", sum := "b834f34fce91b6cd780662a9be48798d804cdc597dd21abeeeed018513a38b3b", func := "emendation/emendationlaw03.TokenParts", spec := "tokenParts", inPlace := ["internal/abi.NoEscape", "internal/bytealg.MakeNoZero"], apart := false, narrowed := true }
def TokenPartsUptoSaid : Prop := tokenPartsUptoRow.holds Try.pinned (OpenSpec.upto tokenPartsSpec)

/-- 'emendationlaw03.TokenCounts', WHERE WHAT IT READS IS OF BULK AT MOST 1048576: true; the input reads as it did. -/
def tokenCountsUptoRow : OpenClaim := { program := "ytjhmjdacjaefaaa", sum := "b834f34fce91b6cd780662a9be48798d804cdc597dd21abeeeed018513a38b3b", func := "emendation/emendationlaw03.TokenCounts", spec := "tokenCounts", apart := false, narrowed := true }
def TokenCountsUptoSaid : Prop := tokenCountsUptoRow.holds Try.pinned (OpenSpec.upto tokenCountsSpec)

/-- 'emendationlaw03.TokenLists', WHERE WHAT IT READS IS OF BULK AT MOST 1048576: true; the input reads as it did. -/
def tokenListsUptoRow : OpenClaim := { program := "ytjhmjdacjaefaaa", sum := "b834f34fce91b6cd780662a9be48798d804cdc597dd21abeeeed018513a38b3b", func := "emendation/emendationlaw03.TokenLists", spec := "tokenLists", recurses := true, apart := false, narrowed := true }
def TokenListsUptoSaid : Prop := tokenListsUptoRow.holds Try.pinned (OpenSpec.upto tokenListsSpec)

end Rows
end Go.Proofs.Ytjhmjdacjaefaaa
