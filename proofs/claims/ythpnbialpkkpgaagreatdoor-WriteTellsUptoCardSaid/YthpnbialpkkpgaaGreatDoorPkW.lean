import Derived.Test.YthpnbialpkkpgaaGreatDoorPkU
import Derived.Test.YthpnbialpkkpgaaGreatDoorPkB
import Derived.BigQuiet
import Derived.Deep.QuietTactic
import Derived.OwnWalk
import Derived.Test.YthpnbialpkkpgaaGreatDoorPkL
import Derived.Deep.Cut
import Derived.Test.YthpnbialpkkpgaaGreatDoorPkV
namespace Go.Proofs.YthpnbialpkkpgaaGreatDoor.Kd
open Go.RowKit
open Go.Proofs.YthpnbialpkkpgaaGreatDoor.Tk (S S_of S_list S_size S_toList S_app ret_int eq8 ne8 at_data len_data)
open Go.Proofs.YthpnbialpkkpgaaGreatDoor.Sp (dsB dest_any)
open Go.Proofs.YthpnbialpkkpgaaGreatDoor.Bt (labB label_any)
open Go.Proofs.YthpnbialpkkpgaaGreatDoor.Bk (Tx define)
set_option linter.unusedVariables false
end Go.Proofs.YthpnbialpkkpgaaGreatDoor.Kd
namespace Go.Proofs.YthpnbialpkkpgaaGreatDoor.Kd
open Go.RowKit
open Go.Proofs.YthpnbialpkkpgaaGreatDoor.Tk (S S_of S_list S_size S_toList S_app ret_int eq8 ne8 at_data len_data)
open Go.Proofs.YthpnbialpkkpgaaGreatDoor.Bk (Tx define kindOf)
open Go.Proofs.YthpnbialpkkpgaaGreatDoor.Ln (run mx trim run_le rrun_any rlongest_any)
set_option linter.unusedVariables false
end Go.Proofs.YthpnbialpkkpgaaGreatDoor.Kd
namespace Go.Proofs.YthpnbialpkkpgaaGreatDoor.Kd
open Go.RowKit
open Go.Proofs.YthpnbialpkkpgaaGreatDoor.Tk (S S_of S_list S_size S_toList S_app ret_int eq8 ne8 at_data len_data Rd)
open Go.Proofs.YthpnbialpkkpgaaGreatDoor.Sp (Sp Tr ret_bool)
open Go.Proofs.YthpnbialpkkpgaaGreatDoor.Bt (TrB)
open Go.Proofs.YthpnbialpkkpgaaGreatDoor.Cm (alloc_new alloc_at cell_at frozen_at set_at lt_of_at)
open Go.Proofs.YthpnbialpkkpgaaGreatDoor.Bk (Tx Bk define kindOf)
open Go.Proofs.YthpnbialpkkpgaaGreatDoor.Ln (run mx trim run_le rrun_any rlongest_any)
set_option linter.unusedVariables false
end Go.Proofs.YthpnbialpkkpgaaGreatDoor.Kd
