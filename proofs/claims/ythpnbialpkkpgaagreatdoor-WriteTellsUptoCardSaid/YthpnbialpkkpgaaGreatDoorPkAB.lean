import Derived.Test.YthpnbialpkkpgaaGreatDoorPkZ
import Derived.Test.YthpnbialpkkpgaaGreatDoorPkL
import Derived.Test.YthpnbialpkkpgaaGreatDoorPkC
import Derived.Test.YthpnbialpkkpgaaGreatDoorPkAC
import Derived.Test.YthpnbialpkkpgaaGreatDoorPkV
namespace Go.Proofs.YthpnbialpkkpgaaGreatDoor.Pa
open Go.RowKit
open Go.Proofs.YthpnbialpkkpgaaGreatDoor.Tk (S S_of S_list S_size S_toList S_app ret_int eq8 ne8 at_data len_data Rd)
open Go.Proofs.YthpnbialpkkpgaaGreatDoor.Sp (Sp Tr)
open Go.Proofs.YthpnbialpkkpgaaGreatDoor.Bt (TrB)
open Go.Proofs.YthpnbialpkkpgaaGreatDoor.Cm (Keep alloc_new alloc_at cell_at frozen_at set_at lt_of_at)
open Go.Proofs.YthpnbialpkkpgaaGreatDoor.Bk (Tx Bk kindOf define)
open Go.Proofs.YthpnbialpkkpgaaGreatDoor.Kd (E0)
set_option linter.unusedVariables false
end Go.Proofs.YthpnbialpkkpgaaGreatDoor.Pa
namespace Go.Proofs.YthpnbialpkkpgaaGreatDoor.Pa
open Go.RowKit
open Go.Proofs.YthpnbialpkkpgaaGreatDoor.Tk (S S_of S_list S_size S_toList S_app ret_int eq8 ne8 at_data len_data Rd)
open Go.Proofs.YthpnbialpkkpgaaGreatDoor.Bt (TrB)
open Go.Proofs.YthpnbialpkkpgaaGreatDoor.Cm (Keep)
open Go.Proofs.YthpnbialpkkpgaaGreatDoor.Bk (Tx Bk kindOf)
open Go.Proofs.YthpnbialpkkpgaaGreatDoor.Kd (E0)
open Go.Proofs.YthpnbialpkkpgaaGreatDoor.Utf (chk rcheck_any)
set_option linter.unusedVariables false
end Go.Proofs.YthpnbialpkkpgaaGreatDoor.Pa
namespace Go.Proofs.YthpnbialpkkpgaaGreatDoor.Pa
open Go.RowKit
open Go.Proofs.YthpnbialpkkpgaaGreatDoor.Tk (S S_of S_list S_size S_toList S_app ret_int eq8 ne8 at_data len_data Rd)
open Go.Proofs.YthpnbialpkkpgaaGreatDoor.Bt (TrB)
open Go.Proofs.YthpnbialpkkpgaaGreatDoor.Cm (Keep alloc_new alloc_at cell_at frozen_at set_at lt_of_at)
open Go.Proofs.YthpnbialpkkpgaaGreatDoor.Bk (Tx Bk kindOf)
open Go.Proofs.YthpnbialpkkpgaaGreatDoor.Kd (E0)
set_option linter.unusedVariables false
end Go.Proofs.YthpnbialpkkpgaaGreatDoor.Pa
namespace Go.Proofs.YthpnbialpkkpgaaGreatDoor.Pa
open Go.RowKit
open Go.Proofs.YthpnbialpkkpgaaGreatDoor.Tk (S S_of S_list S_size S_toList S_app ret_int eq8 ne8 at_data len_data Rd)
open Go.Proofs.YthpnbialpkkpgaaGreatDoor.Sp (ret_bool OkAns)
open Go.Proofs.YthpnbialpkkpgaaGreatDoor.Bt (TrB fitAll ttAll rgB dp)
open Go.Proofs.YthpnbialpkkpgaaGreatDoor.Cm (Keep)
open Go.Proofs.YthpnbialpkkpgaaGreatDoor.Bk (Tx Bk kindOf)
open Go.Proofs.YthpnbialpkkpgaaGreatDoor.Kd (E0)
set_option linter.unusedVariables false
def RightC : Prop := ∀ (v : Value) (l : List Bk) (w : World), TrB w v l → fitAll 1048576 l → ttAll l ≤ 9000000 → Calls Tryz.prog 27 #[v] w (OkAns w (rgB l))
end Go.Proofs.YthpnbialpkkpgaaGreatDoor.Pa
