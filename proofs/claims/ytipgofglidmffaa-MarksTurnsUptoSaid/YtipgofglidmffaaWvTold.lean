/-
  WHAT IS ASKED OF THE PROGRAM's Chunks, Clean and Merge (package weave): the walks of the statements lean on it.
-/
import Derived.Test.YtipgofglidmffaaWvList
import Derived.Test.YtipgofglidmffaaWvMore
import Derived.Test.YtipgofglidmffaaCmFrame
namespace Go.Proofs.Ytipgofglidmffaa.Wv
open Go.RowKit Go.Proofs.Ytipgofglidmffaa.Cm Go.Proofs.Ytipgofglidmffaa.Lc
set_option linter.unusedVariables false

/-- What Merge answers. -/
def MergeOk (B O T : List Int) (w : World) (e : Ending) (w' : World) : Prop := ∃ v, e = .returned (.tuple #[v, .bool (merge B O T).2]) ∧ Rz w' v (merge B O T).1 ∧ Below w.heap.size w w'
end Go.Proofs.Ytipgofglidmffaa.Wv
