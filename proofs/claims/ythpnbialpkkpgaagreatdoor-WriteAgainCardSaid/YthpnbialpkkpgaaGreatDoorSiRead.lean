import Derived.Test.YthpnbialpkkpgaaGreatDoorPkD
import Derived.Test.YthpnbialpkkpgaaGreatDoorPkF
set_option linter.unusedVariables false
namespace Go.Proofs.YthpnbialpkkpgaaGreatDoor
namespace Sp
open Go.RowKit
open Tk (S S_of S_list S_size S_toList S_app ret_int eq8 ne8 at_data len_data cls)
open Cm (calls_at Keep cell_at alloc_new alloc_at lt_of_at)
def parseB (s:ByteArray):List Sp:=(Rdr false false s.data.toList).1
end Sp
end Go.Proofs.YthpnbialpkkpgaaGreatDoor
