import Derived.Test.YtihihgfcklkkhaaGreatDoorPkJ
import Derived.Deep.Cut
import Derived.Deep.CutRange
import Derived.Deep.CutBlock
namespace Go.Proofs.YtihihgfcklkkhaaGreatDoor.Sp
open Go.RowKit
open Go.Proofs.YtihihgfcklkkhaaGreatDoor.Tk (S S_of S_list S_size S_toList S_app ret_int eq8 ne8 at_data len_data)
open Go.Proofs.YtihihgfcklkkhaaGreatDoor.Cm (calls_at alloc_new alloc_at cell_at lt_of_at)
set_option linter.unusedVariables false
end Go.Proofs.YtihihgfcklkkhaaGreatDoor.Sp
namespace Go.Proofs.YtihihgfcklkkhaaGreatDoor.Sp
open Go.RowKit
open Go.Proofs.YtihihgfcklkkhaaGreatDoor.Tk (S S_of S_list S_size S_toList S_app ret_int eq8 ne8 at_data len_data)
open Go.Proofs.YtihihgfcklkkhaaGreatDoor.Cm (calls_at alloc_new alloc_at cell_at lt_of_at)
set_option linter.unusedVariables false
end Go.Proofs.YtihihgfcklkkhaaGreatDoor.Sp
namespace Go.Proofs.YtihihgfcklkkhaaGreatDoor.Sp
open Go.RowKit
open Go.Proofs.YtihihgfcklkkhaaGreatDoor.Tk (S S_of S_list S_size S_toList S_app ret_int eq8 ne8 at_data len_data)
open Go.Proofs.YtihihgfcklkkhaaGreatDoor.Cm (calls_at alloc_new alloc_at cell_at lt_of_at)
set_option linter.unusedVariables false
end Go.Proofs.YtihihgfcklkkhaaGreatDoor.Sp
