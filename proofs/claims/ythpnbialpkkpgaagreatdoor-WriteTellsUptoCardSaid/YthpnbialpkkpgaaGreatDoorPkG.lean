import Derived.Test.YthpnbialpkkpgaaGreatDoorPkD
import Derived.Test.YthpnbialpkkpgaaGreatDoorPkC
import Derived.Test.YthpnbialpkkpgaaGreatDoorPkB
namespace Go.Proofs.YthpnbialpkkpgaaGreatDoor.Sp
open Go.RowKit
open Go.Proofs.YthpnbialpkkpgaaGreatDoor.Tk (S S_of S_list S_size S_toList S_app ret_int eq8 ne8 at_data len_data)
open Go.Proofs.YthpnbialpkkpgaaGreatDoor.Cm (calls_at)
open Go.Proofs.YthpnbialpkkpgaaGreatDoor.Utf (chk)
set_option linter.unusedVariables false
end Go.Proofs.YthpnbialpkkpgaaGreatDoor.Sp
namespace Go.Proofs.YthpnbialpkkpgaaGreatDoor.Sp
open Go.Proofs.YthpnbialpkkpgaaGreatDoor.Tk (cls at_data len_data)
set_option linter.unusedVariables false
end Go.Proofs.YthpnbialpkkpgaaGreatDoor.Sp
namespace Go.Proofs.YthpnbialpkkpgaaGreatDoor.Sp
open Go.Proofs.YthpnbialpkkpgaaGreatDoor.Tk (cls at_data len_data)
set_option linter.unusedVariables false
end Go.Proofs.YthpnbialpkkpgaaGreatDoor.Sp
