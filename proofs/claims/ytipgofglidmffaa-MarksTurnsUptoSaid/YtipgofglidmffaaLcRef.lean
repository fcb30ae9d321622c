/-
  CONTRACTS of the document's Length, Dice, Pairs, Same (emendationref04).
-/
import Derived.Test.YtipgofglidmffaaLcTable
import Derived.Test.YtipgofglidmffaaCmRow
namespace Go.Proofs.Ytipgofglidmffaa.Lc
open Go.RowKit Go.Proofs.Ytipgofglidmffaa.Cm
set_option linter.unusedVariables false

/-- A pair, as it lies. -/
def encP (p : Nat × Nat) : List Value := [.int .i64 p.1, .int .i64 p.2]
theorem encP_len (p : Nat × Nat) : (encP p).length = 2 := rfl
theorem encP_one (p : Nat × Nat) : ∀ u ∈ encP p, u.oneCell' = true := by
  intro u hu
  simp [encP] at hu
  rcases hu with rfl | rfl <;> rfl
theorem own_low {w : World} {B B' e z n : Nat} {v : Value} {xs : List Value} (h : w.ownsRow B' e z v n xs) (hB : B ≤ B') : w.ownsRow B e z v n xs := by
  refine ⟨h.1, ?_⟩
  rcases h.2 with hn | ⟨g, cap, cur, hv, hg, rest⟩
  · exact .inl hn
  · exact .inr ⟨g, cap, cur, hv, Nat.le_trans hB hg, rest⟩
/-- The pairs so far, and what is left. -/
def Pp (a b : List Int) (i k : Nat) (o : List (Nat × Nat)) : Prop := pairs a b = o ++ pp i k (a.drop i) (b.drop k)

end Go.Proofs.Ytipgofglidmffaa.Lc
