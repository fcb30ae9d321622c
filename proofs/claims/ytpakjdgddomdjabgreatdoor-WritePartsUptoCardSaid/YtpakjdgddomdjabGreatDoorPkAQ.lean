import Derived.Test.YtpakjdgddomdjabGreatDoorPkV
import Derived.ProofKit
import Derived.OpenShut
import Derived.Carry
import Derived.SizedLaws
import Derived.Test.YtpakjdgddomdjabGreatDoorRows
set_option linter.unusedVariables false
namespace Go.Proofs.YtpakjdgddomdjabGreatDoor
namespace Bt
open Go.ChangeShapes Go.WideShapes Go.ChangeAt Go.RowKit
open Bk (Bk)
theorem laidOut:laidOutB Tryz.prog=true:=by kernel_rfl
theorem blocks_of {H:Type} {enc:TypeId × Value→H} {W:World} {a:Option Addr} {len cap:Nat} {d:DataW H} {ps:List MemPlace} {ts:List TypeId} {ds:List (DataW H)} {j:Nat}
  (h:DataW.Trod enc Tryz.prog W 0 (fun _=>true) true 22 (.slice a len cap) d ps) (hsz:(DataW.weightsEach Tryz.prog ts ds).all (·≤reachBytes)=true) (ht:ts[j]? = some 22) (hd:ds[j]? = some d):
  ∃l:List Bk,TrB W (.slice a len cap) l∧fitAll reachBytes l∧∀(f:DataW H→Nat) (fa:List (DataW H)→Nat),Bulk f fa→ttAll l≤f d:=by
 obtain⟨fuel,hf⟩:=h;obtain⟨l,h1,h2,h3⟩:=open_fuel fuel (.slice a len cap) (d,ps) (by simpa [Value.cells]using hf);refine⟨l,h1,h2 (fun n hn=>?_),h3⟩;have hm:=DataW.weights_mem_each (P:=Tryz.prog) ht hd n hn
 simpa using List.all_eq_true.1 hsz _ hm
end Bt
namespace Bt
open Go.RowKit
theorem rowsBulk (H:Type):Bulk (Rows.uptoBulk (H:=H)) Rows.uptoBulkAll where
 str:=fun b=>by rw[Rows.uptoBulk];omega
 strp:=fun b=>by rw[Rows.uptoBulk];omega
 slice:=fun e s=>by rw[Rows.uptoBulk];omega
 agg:=fun p=>by rw[Rows.uptoBulk];omega
 cons:=fun d r=>by rw[Rows.uptoBulkAll]
 nil:=by rw[Rows.uptoBulkAll]
theorem small_one {H:Type} {d:DataW H} {r:List (DataW H)} (hk:Rows.uptoSmall H (d::r)=true):Rows.uptoBulk d≤1048576:=by
 have h:Rows.uptoBulkAll (d::r)≤1048576:=of_decide_eq_true hk;rw[Rows.uptoBulkAll]at h;omega
end Bt
end Go.Proofs.YtpakjdgddomdjabGreatDoor
