import Derived.Test.YtihihgfcklkkhaaGreatDoorPkD
import Derived.Test.YtihihgfcklkkhaaGreatDoorPkF
namespace Go.Proofs.YtihihgfcklkkhaaGreatDoor.Sp
open Go.RowKit
open Go.Proofs.YtihihgfcklkkhaaGreatDoor.Tk (S S_of S_list S_size S_toList S_app ret_int eq8 ne8 at_data len_data cls)
open Go.Proofs.YtihihgfcklkkhaaGreatDoor.Cm (Keep cell_at alloc_new alloc_at lt_of_at)
set_option linter.unusedVariables false
def parseB (s : ByteArray) : List Sp := (Rdr false false s.data.toList).1
end Go.Proofs.YtihihgfcklkkhaaGreatDoor.Sp
