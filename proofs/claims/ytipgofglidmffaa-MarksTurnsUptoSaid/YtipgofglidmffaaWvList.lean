/-
  CONTRACT of the statements' own 'list' over chunks (emendationlaw05).
-/
import Derived.Test.YtipgofglidmffaaWvHelp
namespace Go.Proofs.Ytipgofglidmffaa.Wv
open Go.RowKit Go.Proofs.Ytipgofglidmffaa.Cm Go.Proofs.Ytipgofglidmffaa.Lc
set_option linter.unusedVariables false

theorem newsK2 {wr : World} {o : Obj} {us : List Value} {t : TypeId} : ∀ (j : Nat) (u : Value), us[j]? = some u → ((wr.alloc o).alloc (.cells us.toArray t)).cell? (Addr.add ⟨wr.heap.size + 1, 0, none⟩ j) = some u := by
  have h := @newsK (wr.alloc o) us t
  have e : (wr.alloc o).heap.size = wr.heap.size + 1 := by simp
  rw [e] at h
  exact h

end Go.Proofs.Ytipgofglidmffaa.Wv
