import Derived.Test.YthpnbialpkkpgaaGreatDoorPkD
import Derived.Test.YthpnbialpkkpgaaGreatDoorPkF
namespace Go.Proofs.YthpnbialpkkpgaaGreatDoor.Sp
open Go.RowKit
open Go.Proofs.YthpnbialpkkpgaaGreatDoor.Tk (S S_of S_list S_size S_toList S_app ret_int eq8 ne8 at_data len_data cls)
open Go.Proofs.YthpnbialpkkpgaaGreatDoor.Cm (calls_at Keep cell_at alloc_new alloc_at lt_of_at)
set_option linter.unusedVariables false
end Go.Proofs.YthpnbialpkkpgaaGreatDoor.Sp
