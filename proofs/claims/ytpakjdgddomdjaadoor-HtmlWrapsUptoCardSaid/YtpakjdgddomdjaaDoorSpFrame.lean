/-
  HOW THE STATEMENTS' ARGUMENTS READ: a []api.Span, opened.
-/
import Derived.Test.YtpakjdgddomdjaaDoorSpTold
import Derived.ProofKit
import Derived.OpenShut
import Derived.Carry
import Derived.SizedLaws
namespace Go.Proofs.YtpakjdgddomdjaaDoor.Sp
open Go.ChangeShapes Go.WideShapes Go.ChangeAt Go.RowKit
set_option linter.unusedVariables false

theorem laidOut : laidOutB Tryd.prog = true := by kernel_rfl
theorem spans_of {H : Type} {enc : TypeId × Value → H} {W : World} {a : Option Addr} {len cap : Nat} {d : DataW H} {ps : List MemPlace} {ts : List TypeId} {ds : List (DataW H)} {j : Nat}
    (h : DataW.Trod enc Tryd.prog W 0 (fun _ => true) true 23 (.slice a len cap) d ps) (hsz : (DataW.weightsEach Tryd.prog ts ds).all (· ≤ reachBytes) = true) (ht : ts[j]? = some 23) (hd : ds[j]? = some d) :
    ∃ l : List Sp, Tr W (.slice a len cap) l ∧ fitAll reachBytes l := by
  obtain ⟨fuel, hf⟩ := h
  obtain ⟨l, h1, h2⟩ := open_fuel fuel (.slice a len cap) (d, ps) (by simpa [Value.cells] using hf)
  refine ⟨l, h1, h2 (fun n hn => ?_)⟩
  have hm := DataW.weights_mem_each (P := Tryd.prog) ht hd n hn
  simpa using List.all_eq_true.1 hsz _ hm

/-- A tree can be read, though its type names itself. -/
theorem spans_readable : Tryd.prog.readableRec 23 = true := by kernel_rfl

end Go.Proofs.YtpakjdgddomdjaaDoor.Sp
