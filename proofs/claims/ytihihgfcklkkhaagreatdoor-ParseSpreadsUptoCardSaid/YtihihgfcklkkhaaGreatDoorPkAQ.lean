import Derived.Test.YtihihgfcklkkhaaGreatDoorPkV
import Derived.ProofKit
import Derived.OpenShut
import Derived.Carry
import Derived.SizedLaws
import Derived.Test.YtihihgfcklkkhaaGreatDoorRows
namespace Go.Proofs.YtihihgfcklkkhaaGreatDoor.Bt
open Go.ChangeShapes Go.WideShapes Go.ChangeAt Go.RowKit
open Go.Proofs.YtihihgfcklkkhaaGreatDoor.Bk (Bk)
set_option linter.unusedVariables false
theorem laidOut:laidOutB Tryz.prog=true:=by kernel_rfl
end Go.Proofs.YtihihgfcklkkhaaGreatDoor.Bt
namespace Go.Proofs.YtihihgfcklkkhaaGreatDoor.Bt
open Go.RowKit
set_option linter.unusedVariables false
theorem rowsBulk (H:Type):Bulk (Rows.uptoBulk (H:=H)) Rows.uptoBulkAll where
 str:=fun b=>by rw [Rows.uptoBulk];omega
 strp:=fun b=>by rw [Rows.uptoBulk];omega
 slice:=fun e s=>by rw [Rows.uptoBulk];omega
 agg:=fun p=>by rw [Rows.uptoBulk];omega
 cons:=fun d r=>by rw [Rows.uptoBulkAll]
 nil:=by rw [Rows.uptoBulkAll]
theorem small_one {H:Type} {d:DataW H} {r:List (DataW H)} (hk:Rows.uptoSmall H (d :: r)=true):Rows.uptoBulk d≤1048576:=by
 have h:Rows.uptoBulkAll (d :: r)≤1048576:=of_decide_eq_true hk
 rw [Rows.uptoBulkAll] at h
 omega
end Go.Proofs.YtihihgfcklkkhaaGreatDoor.Bt
