import Derived.Test.YthpnbialpkkpgaaGreatDoorPkU
import Derived.Test.YthpnbialpkkpgaaGreatDoorPkW
import Derived.Test.YthpnbialpkkpgaaGreatDoorPkAI
import Derived.Lib.IndexLaws
import Derived.Lib.Strings
import Derived.Test.YthpnbialpkkpgaaGreatDoorPkE
import Derived.Test.YthpnbialpkkpgaaGreatDoorPkI
import Derived.Test.YthpnbialpkkpgaaGreatDoorPkL
import Derived.BigQuiet
import Derived.Deep.QuietTactic
namespace Go.Proofs.YthpnbialpkkpgaaGreatDoor.Kd
open Go.Proofs.YthpnbialpkkpgaaGreatDoor.Tk (S S_list S_size)
open Go.Proofs.YthpnbialpkkpgaaGreatDoor.Sp (hsB dsB)
open Go.Proofs.YthpnbialpkkpgaaGreatDoor.Bt (labB)
open Go.Proofs.YthpnbialpkkpgaaGreatDoor.Bk (Tx label isDest df define)
open Go.Proofs.YthpnbialpkkpgaaGreatDoor.Ln (run mx trim)
set_option linter.unusedVariables false
end Go.Proofs.YthpnbialpkkpgaaGreatDoor.Kd
namespace Go.Proofs.YthpnbialpkkpgaaGreatDoor.Kd
open Go.RowKit
open Go.Proofs.YthpnbialpkkpgaaGreatDoor.Tk (S S_of S_list S_size S_toList S_app ret_int eq8 ne8 at_data len_data Rd)
open Go.Proofs.YthpnbialpkkpgaaGreatDoor.Sp (Sp Tr ret_bool OkAns)
open Go.Proofs.YthpnbialpkkpgaaGreatDoor.Bt (TrB)
open Go.Proofs.YthpnbialpkkpgaaGreatDoor.Bk (Tx Bk define kindOf)
set_option linter.unusedVariables false
end Go.Proofs.YthpnbialpkkpgaaGreatDoor.Kd
namespace Go.Proofs.YthpnbialpkkpgaaGreatDoor.Kd
open Go.RowKit
open Go.Proofs.YthpnbialpkkpgaaGreatDoor.Tk (S S_of S_list S_size S_toList S_app ret_int eq8 ne8 at_data len_data)
open Go.Proofs.YthpnbialpkkpgaaGreatDoor.Sp (hsB dsB ctB ret_bool OkAns destP_any)
open Go.Proofs.YthpnbialpkkpgaaGreatDoor.Bt (labB labelP_any)
open Go.Proofs.YthpnbialpkkpgaaGreatDoor.Bk (Tx define kindOf)
open Go.Proofs.YthpnbialpkkpgaaGreatDoor.Ln (run mx trim run_le run_any)
set_option linter.unusedVariables false
end Go.Proofs.YthpnbialpkkpgaaGreatDoor.Kd
namespace Go.Proofs.YthpnbialpkkpgaaGreatDoor.Kd
open Go.RowKit
open Go.Proofs.YthpnbialpkkpgaaGreatDoor.Tk (S S_of S_list S_size S_toList S_app ret_int eq8 ne8 at_data len_data)
open Go.Proofs.YthpnbialpkkpgaaGreatDoor.Sp (hsB dsB ctB ret_bool OkAns destP_any ckB_S)
open Go.Proofs.YthpnbialpkkpgaaGreatDoor.Bt (labB labelP_any)
open Go.Proofs.YthpnbialpkkpgaaGreatDoor.Bk (Tx define kindOf)
open Go.Proofs.YthpnbialpkkpgaaGreatDoor.Ln (run mx trim run_le run_any)
set_option linter.unusedVariables false
end Go.Proofs.YthpnbialpkkpgaaGreatDoor.Kd
namespace Go.Proofs.YthpnbialpkkpgaaGreatDoor.Kd
open Go.RowKit
open Go.Proofs.YthpnbialpkkpgaaGreatDoor.Tk (S S_of S_list S_size S_toList S_app ret_int eq8 ne8 at_data len_data Rd)
open Go.Proofs.YthpnbialpkkpgaaGreatDoor.Sp (hsB dsB ctB ret_bool OkAns)
open Go.Proofs.YthpnbialpkkpgaaGreatDoor.Cm (alloc_new alloc_at cell_at frozen_at set_at lt_of_at)
open Go.Proofs.YthpnbialpkkpgaaGreatDoor.Bt (labB)
open Go.Proofs.YthpnbialpkkpgaaGreatDoor.Bk (Tx Bk define kindOf)
open Go.Proofs.YthpnbialpkkpgaaGreatDoor.Ln (run mx trim run_le run_any)
set_option linter.unusedVariables false
end Go.Proofs.YthpnbialpkkpgaaGreatDoor.Kd
