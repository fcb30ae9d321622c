import Derived.Test.YtihihgfcklkkhaaGreatDoorPkAD
import Derived.Test.YtihihgfcklkkhaaGreatDoorPkAE
import Derived.Test.YtihihgfcklkkhaaGreatDoorPkAB
import Derived.Test.YtihihgfcklkkhaaGreatDoorPkX
import Derived.Test.YtihihgfcklkkhaaGreatDoorPkAC
import Derived.Test.YtihihgfcklkkhaaGreatDoorBt10Told
namespace Go.Proofs.YtihihgfcklkkhaaGreatDoor.Pa
open Go.Proofs.YtihihgfcklkkhaaGreatDoor.Bk (Tx Bk Env fenceL spanK itemL dropBlank listL items kindOf closes unquote unitem inner define parse joinLF)
open Go.Proofs.YtihihgfcklkkhaaGreatDoor.Bt (cnt cntAll)
open Go.Proofs.YtihihgfcklkkhaaGreatDoor.Ln (run mx trim run_no)
open Go.Proofs.YtihihgfcklkkhaaGreatDoor.Kd (E0)
set_option linter.unusedVariables false
end Go.Proofs.YtihihgfcklkkhaaGreatDoor.Pa
namespace Go.Proofs.YtihihgfcklkkhaaGreatDoor.Pa
open Go.RowKit
open Go.Proofs.YtihihgfcklkkhaaGreatDoor.Tk (S S_of S_list S_size S_toList S_app ret_int eq8 ne8 at_data len_data Rd)
open Go.Proofs.YtihihgfcklkkhaaGreatDoor.Sp (ret_bool OkAns)
open Go.Proofs.YtihihgfcklkkhaaGreatDoor.Bt (TrB cnt)
open Go.Proofs.YtihihgfcklkkhaaGreatDoor.Bk (Tx Bk kindOf)
set_option linter.unusedVariables false
theorem lns_some {xs:List Tx} {l:List Bk} (h:allE 0 xs=some l):lnsB xs=(l,0):=by unfold lnsB;rw [h]
theorem lns_none {xs:List Tx} (h:allE 0 xs=none):lnsB xs=([],5):=by unfold lnsB;rw [h]
end Go.Proofs.YtihihgfcklkkhaaGreatDoor.Pa
