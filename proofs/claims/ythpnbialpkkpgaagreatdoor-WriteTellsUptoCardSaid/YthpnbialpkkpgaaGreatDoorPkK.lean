import Derived.Test.YthpnbialpkkpgaaGreatDoorPkH
import Derived.Test.YthpnbialpkkpgaaGreatDoorPkI
import Derived.Lib.MinMax
import Derived.Lib.QuietBelow
import Derived.BigQuiet
import Derived.Test.YthpnbialpkkpgaaGreatDoorPkB
import Derived.RangeFuncNested
import Derived.RangeFuncBound
import Derived.RangeFuncCalls
import Derived.RangeFuncLeaves
import Derived.Shelf.Abstract
import Derived.Test.YthpnbialpkkpgaaGreatDoorPkF
import Derived.Test.YthpnbialpkkpgaaGreatDoorPkJ
namespace Go.Proofs.YthpnbialpkkpgaaGreatDoor.Sp
open Go.RowKit Go.Shelf Go.Sort
open Go.Proofs.YthpnbialpkkpgaaGreatDoor.Tk (S S_of S_list S_size S_toList S_app ret_int eq8 ne8 at_data len_data)
open Go.Proofs.YthpnbialpkkpgaaGreatDoor.Cm (calls_at cell_at alloc_at alloc_new lt_of_at frozen_at newsK)
set_option linter.unusedVariables false
end Go.Proofs.YthpnbialpkkpgaaGreatDoor.Sp
namespace Go.Proofs.YthpnbialpkkpgaaGreatDoor.Sp
open Go.Proofs.YthpnbialpkkpgaaGreatDoor.Tk (cls)
set_option linter.unusedVariables false
end Go.Proofs.YthpnbialpkkpgaaGreatDoor.Sp
namespace Go.Proofs.YthpnbialpkkpgaaGreatDoor.Sp
open Go.RowKit Go.Shelf
open Go.Proofs.YthpnbialpkkpgaaGreatDoor.Cm (Keep lt_of_at)
set_option linter.unusedVariables false
end Go.Proofs.YthpnbialpkkpgaaGreatDoor.Sp
namespace Go.Proofs.YthpnbialpkkpgaaGreatDoor.Sp
open Go.RowKit
open Go.Proofs.YthpnbialpkkpgaaGreatDoor.Tk (S S_of S_list S_size S_toList S_app ret_int eq8 ne8 at_data len_data cls)
open Go.Proofs.YthpnbialpkkpgaaGreatDoor.Cm (calls_at cell_at alloc_at alloc_new lt_of_at frozen_at set_at Keep own_keep own_obj)
set_option linter.unusedVariables false
end Go.Proofs.YthpnbialpkkpgaaGreatDoor.Sp
