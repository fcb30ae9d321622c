/-
  HOW THE STATEMENTS' ARGUMENTS READ: a []api.Block, opened; how much it holds.
-/
import Derived.Test.YtpakjdgddomdjaaDoorBtTree
import Derived.ProofKit
import Derived.OpenShut
import Derived.Carry
import Derived.SizedLaws
namespace Go.Proofs.YtpakjdgddomdjaaDoor.Bt
open Go.ChangeShapes Go.WideShapes Go.ChangeAt Go.RowKit
open Go.Proofs.YtpakjdgddomdjaaDoor.Bk (Bk)
set_option linter.unusedVariables false

theorem laidOut : laidOutB Tryd.prog = true := by kernel_rfl
theorem blocks_of {H : Type} {enc : TypeId × Value → H} {W : World} {a : Option Addr} {len cap : Nat} {d : DataW H} {ps : List MemPlace} {ts : List TypeId} {ds : List (DataW H)} {j : Nat}
    (h : DataW.Trod enc Tryd.prog W 0 (fun _ => true) true 22 (.slice a len cap) d ps) (hsz : (DataW.weightsEach Tryd.prog ts ds).all (· ≤ reachBytes) = true) (ht : ts[j]? = some 22) (hd : ds[j]? = some d) :
    ∃ l : List Bk, TrB W (.slice a len cap) l ∧ fitAll reachBytes l ∧ ∀ (f : DataW H → Nat) (fa : List (DataW H) → Nat), Bulk f fa → ttAll l ≤ f d := by
  obtain ⟨fuel, hf⟩ := h
  obtain ⟨l, h1, h2, h3⟩ := open_fuel fuel (.slice a len cap) (d, ps) (by simpa [Value.cells] using hf)
  refine ⟨l, h1, h2 (fun n hn => ?_), h3⟩
  have hm := DataW.weights_mem_each (P := Tryd.prog) ht hd n hn
  simpa using List.all_eq_true.1 hsz _ hm

/-- A tree can be read, though its type names itself. -/
theorem blocks_readable : Tryd.prog.readableRec 22 = true := by kernel_rfl

end Go.Proofs.YtpakjdgddomdjaaDoor.Bt
