/-
  CONTRACTS of the document's Same over pairs (emendationref04), and of the statements' own 'list' and 'common'.
-/
import Derived.Test.YtipgofglidmffaaLcRef
namespace Go.Proofs.Ytipgofglidmffaa.Lc
open Go.RowKit Go.Proofs.Ytipgofglidmffaa.Cm
set_option linter.unusedVariables false

theorem getp {xs : List (Nat × Nat)} {k : Nat} (h : k < xs.length) : xs[k]? = some xs[k] := List.getElem?_eq_getElem h
theorem take_nextP {xs ys : List (Nat × Nat)} {k : Nat} (h1 : k < xs.length) (h2 : k < ys.length) (h : xs.take k = ys.take k) (e : xs[k] = ys[k]) : xs.take (k + 1) = ys.take (k + 1) := by
  rw [List.take_add_one, List.take_add_one, getp h1, getp h2, h, e]
/-- Both cells of a pair. -/
theorem Rk.two {w : World} {ao : Option Addr} {n c : Nat} {xs : List (Nat × Nat)} (h : Rk 2 encP w (.slice ao n c) xs) : ∀ i (hi : i < xs.length), ∃ b o, ao = some ⟨b, o, none⟩ ∧ b < w.heap.size ∧ w.cell? ⟨b, o + i * 2, none⟩ = some (.int .i64 xs[i].1) ∧ w.cell? ⟨b, o + i * 2 + 1, none⟩ = some (.int .i64 xs[i].2) := by
  intro i hi
  obtain ⟨b, o, h1, h2, h3⟩ := h.at i hi
  exact ⟨b, o, h1, h2, h3 0 _ rfl, h3 1 _ rfl⟩

end Go.Proofs.Ytipgofglidmffaa.Lc
