import Derived.Test.YtihihgfcklkkhaaGreatDoorPkAD
import Derived.Test.YtihihgfcklkkhaaGreatDoorPkL
import Derived.Test.YtihihgfcklkkhaaGreatDoorPkAB
import Derived.Test.YtihihgfcklkkhaaGreatDoorPkU
import Derived.Test.YtihihgfcklkkhaaGreatDoorPkV
import Derived.Test.YtihihgfcklkkhaaGreatDoorPkC
import Derived.BigQuiet
import Derived.Deep.QuietTactic
namespace Go.Proofs.YtihihgfcklkkhaaGreatDoor.Pa
open Go.Proofs.YtihihgfcklkkhaaGreatDoor.Bk (Tx Bk Env fenceL spanK itemL dropBlank listL items kindOf closes unquote unitem inner define parse joinLF)
open Go.Proofs.YtihihgfcklkkhaaGreatDoor.Bt (dp)
open Go.Proofs.YtihihgfcklkkhaaGreatDoor.Ln (run mx trim)
open Go.Proofs.YtihihgfcklkkhaaGreatDoor.Kd (E0)
set_option linter.unusedVariables false
structure Tl (T : List Tx) : Prop where
  hd : T = [] ∨ ∃ t r, T = t :: r ∧ kindOf E0 t = 1
  it : itemL E0 T = ([], T)
  nx : dropBlank E0 T = [] ∨ ∃ t r, dropBlank E0 T = t :: r ∧ kindOf E0 t ≠ 6
variable {T : List Tx}
end Go.Proofs.YtihihgfcklkkhaaGreatDoor.Pa
namespace Go.Proofs.YtihihgfcklkkhaaGreatDoor.Pa
open Go.Proofs.YtihihgfcklkkhaaGreatDoor.Bk (Tx Bk Env fenceL spanK itemL dropBlank listL items kindOf closes unquote unitem inner define parse joinLF)
open Go.Proofs.YtihihgfcklkkhaaGreatDoor.Bt (dp)
open Go.Proofs.YtihihgfcklkkhaaGreatDoor.Ln (run mx trim)
open Go.Proofs.YtihihgfcklkkhaaGreatDoor.Kd (E0)
set_option linter.unusedVariables false
end Go.Proofs.YtihihgfcklkkhaaGreatDoor.Pa
namespace Go.Proofs.YtihihgfcklkkhaaGreatDoor.Pa
open Go.Proofs.YtihihgfcklkkhaaGreatDoor.Bk (Tx Bk Env fenceL spanK itemL dropBlank listL items kindOf closes unquote unitem inner define parse joinLF)
open Go.Proofs.YtihihgfcklkkhaaGreatDoor.Bt (dp)
open Go.Proofs.YtihihgfcklkkhaaGreatDoor.Ln (run mx trim run_no)
open Go.Proofs.YtihihgfcklkkhaaGreatDoor.Kd (E0)
set_option linter.unusedVariables false
end Go.Proofs.YtihihgfcklkkhaaGreatDoor.Pa
namespace Go.Proofs.YtihihgfcklkkhaaGreatDoor.Pa
open Go.RowKit
open Go.Proofs.YtihihgfcklkkhaaGreatDoor.Tk (S S_size S_list S_app Rd)
open Go.Proofs.YtihihgfcklkkhaaGreatDoor.Ln (jn jn_cons2)
open Go.Proofs.YtihihgfcklkkhaaGreatDoor.Sp (V V_app V_nil Wt Wt_app Wt_nil)
open Go.Proofs.YtihihgfcklkkhaaGreatDoor.Bk (Tx Bk)
open Go.Proofs.YtihihgfcklkkhaaGreatDoor.Utf (chk)
set_option linter.unusedVariables false
end Go.Proofs.YtihihgfcklkkhaaGreatDoor.Pa
namespace Go.Proofs.YtihihgfcklkkhaaGreatDoor.Pa
open Go.RowKit
open Go.Proofs.YtihihgfcklkkhaaGreatDoor.Tk (S S_of S_list S_size S_toList S_app ret_int eq8 ne8 at_data len_data Rd)
open Go.Proofs.YtihihgfcklkkhaaGreatDoor.Sp (ret_bool)
open Go.Proofs.YtihihgfcklkkhaaGreatDoor.Bk (Tx Bk kindOf)
open Go.Proofs.YtihihgfcklkkhaaGreatDoor.Ln (mx)
open Go.Proofs.YtihihgfcklkkhaaGreatDoor.Utf (chk rcheck_any)
set_option linter.unusedVariables false
end Go.Proofs.YtihihgfcklkkhaaGreatDoor.Pa
