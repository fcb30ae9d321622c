/-
  WHAT IS ASKED OF THE PROGRAM's Chunks, Clean and Merge (package weave): the walks of the statements lean on it.
-/
import Derived.Test.YtbfclmhcoelplaaWvList
import Derived.Test.YtbfclmhcoelplaaWvMore
import Derived.Test.YtbfclmhcoelplaaCmFrame
namespace Go.Proofs.Ytbfclmhcoelplaa.Wv
open Go.RowKit Go.Proofs.Ytbfclmhcoelplaa.Cm Go.Proofs.Ytbfclmhcoelplaa.Lc
set_option linter.unusedVariables false

/-- What Merge answers. -/
def MergeOk (B O T : List Int) (w : World) (e : Ending) (w' : World) : Prop := ∃ v, e = .returned (.tuple #[v, .bool (merge B O T).2]) ∧ Rz w' v (merge B O T).1 ∧ Below w.heap.size w w'
structure Told : Prop where
  chunks : ∀ (va vb vc : Value) (B O T : List Int) (w : World), Rz w va B → Rz w vb O → Rz w vc T → B.length ≤ 200 → O.length ≤ 200 → T.length ≤ 200 →
    Calls Try.prog 12 #[va, vb, vc] w fun e w' => ∃ v, e = .returned v ∧ Rk 7 encC w' v (chunks B O T) ∧ Below w.heap.size w w'
  clean : ∀ (v : Value) (l : List Ch) (w : World), Rk 7 encC w v l → l.length ≤ 1000 →
    Calls Try.prog 18 #[v] w fun e w' => e = .returned (.bool (cleanB l)) ∧ Below w.heap.size w w'
  merge : ∀ (va vb vc : Value) (B O T : List Int) (w : World), Rz w va B → Rz w vb O → Rz w vc T → B.length ≤ 200 → O.length ≤ 200 → T.length ≤ 200 →
    Calls Try.prog 14 #[va, vb, vc] w (MergeOk B O T w)

end Go.Proofs.Ytbfclmhcoelplaa.Wv
