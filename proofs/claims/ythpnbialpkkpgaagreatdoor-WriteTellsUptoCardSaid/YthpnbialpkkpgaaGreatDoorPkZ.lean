import Derived.Test.YthpnbialpkkpgaaGreatDoorPaBlock
namespace Go.Proofs.YthpnbialpkkpgaaGreatDoor.Pa
open Go.RowKit
open Go.Proofs.YthpnbialpkkpgaaGreatDoor.Tk (S S_of S_list S_size S_toList S_app ret_int eq8 ne8 at_data len_data Rd)
open Go.Proofs.YthpnbialpkkpgaaGreatDoor.Sp (Sp Tr)
open Go.Proofs.YthpnbialpkkpgaaGreatDoor.Bt (TrB)
open Go.Proofs.YthpnbialpkkpgaaGreatDoor.Cm (Keep alloc_new alloc_at cell_at frozen_at set_at lt_of_at)
open Go.Proofs.YthpnbialpkkpgaaGreatDoor.Bk (Tx Bk kindOf parse joinLF define)
open Go.Proofs.YthpnbialpkkpgaaGreatDoor.Ln (run trim)
open Go.Proofs.YthpnbialpkkpgaaGreatDoor.Kd (E0)
set_option linter.unusedVariables false
end Go.Proofs.YthpnbialpkkpgaaGreatDoor.Pa
namespace Go.Proofs.YthpnbialpkkpgaaGreatDoor.Pa
open Go.RowKit
open Go.Proofs.YthpnbialpkkpgaaGreatDoor.Tk (S S_of S_list S_size S_toList S_app ret_int eq8 ne8 at_data len_data Rd)
open Go.Proofs.YthpnbialpkkpgaaGreatDoor.Sp (Sp Tr)
open Go.Proofs.YthpnbialpkkpgaaGreatDoor.Bt (TrB)
open Go.Proofs.YthpnbialpkkpgaaGreatDoor.Cm (Keep alloc_new alloc_at cell_at frozen_at set_at lt_of_at)
open Go.Proofs.YthpnbialpkkpgaaGreatDoor.Bk (Tx Bk kindOf parse joinLF define)
open Go.Proofs.YthpnbialpkkpgaaGreatDoor.Ln (run trim)
open Go.Proofs.YthpnbialpkkpgaaGreatDoor.Kd (E0)
set_option linter.unusedVariables false
end Go.Proofs.YthpnbialpkkpgaaGreatDoor.Pa
namespace Go.Proofs.YthpnbialpkkpgaaGreatDoor.Pa
open Go.RowKit
open Go.Proofs.YthpnbialpkkpgaaGreatDoor.Tk (S S_of S_list S_size S_toList S_app ret_int eq8 ne8 at_data len_data Rd)
open Go.Proofs.YthpnbialpkkpgaaGreatDoor.Sp (Sp Tr)
open Go.Proofs.YthpnbialpkkpgaaGreatDoor.Bt (TrB)
open Go.Proofs.YthpnbialpkkpgaaGreatDoor.Cm (Keep alloc_new alloc_at cell_at frozen_at set_at lt_of_at)
open Go.Proofs.YthpnbialpkkpgaaGreatDoor.Bk (Tx Bk kindOf parse joinLF define)
open Go.Proofs.YthpnbialpkkpgaaGreatDoor.Ln (run trim)
open Go.Proofs.YthpnbialpkkpgaaGreatDoor.Kd (E0)
set_option linter.unusedVariables false
end Go.Proofs.YthpnbialpkkpgaaGreatDoor.Pa
