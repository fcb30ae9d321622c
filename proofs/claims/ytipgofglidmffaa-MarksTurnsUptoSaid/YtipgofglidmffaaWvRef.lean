/-
  CONTRACTS of the document's kept, same, part, outcome (emendationref05).
-/
import Derived.Test.YtipgofglidmffaaLcHelp
import Derived.Test.YtipgofglidmffaaWvPlain
namespace Go.Proofs.Ytipgofglidmffaa.Wv
open Go.RowKit Go.Proofs.Ytipgofglidmffaa.Cm Go.Proofs.Ytipgofglidmffaa.Lc
set_option linter.unusedVariables false

/-- A place that is kept, as the document's kept answers it. -/
def kpI (l : List (Nat × Nat)) (i : Nat) : Int := match kp l i with | some j => j | none => -1
theorem kp_nil (i : Nat) : kp [] i = none := rfl
theorem kp_yes {p : Nat × Nat} {i : Nat} (h : p.1 = i) (l : List (Nat × Nat)) : kp (p :: l) i = some p.2 := by
  unfold kp; rw [List.find?_cons_of_pos (by simpa using h)]; rfl
theorem kp_no {p : Nat × Nat} {i : Nat} (h : p.1 ≠ i) (l : List (Nat × Nat)) : kp (p :: l) i = kp l i := by
  unfold kp; rw [List.find?_cons_of_neg (by simpa using h)]

/-- What 'part' answers reads as the part. -/
def PartOk (w : World) (xs : List Int) (e : Ending) (w' : World) : Prop := ∃ v', e = .returned v' ∧ Rz w' v' xs ∧ Below w.heap.size w w'

end Go.Proofs.Ytipgofglidmffaa.Wv
