import Derived.Test.YtihihgfcklkkhaaGreatDoorPaBlock
namespace Go.Proofs.YtihihgfcklkkhaaGreatDoor.Pa
open Go.RowKit
open Go.Proofs.YtihihgfcklkkhaaGreatDoor.Tk (S S_of S_list S_size S_toList S_app ret_int eq8 ne8 at_data len_data Rd)
open Go.Proofs.YtihihgfcklkkhaaGreatDoor.Sp (Sp Tr parseB)
open Go.Proofs.YtihihgfcklkkhaaGreatDoor.Bt (TrB KB)
open Go.Proofs.YtihihgfcklkkhaaGreatDoor.Cm (Keep alloc_new alloc_at cell_at frozen_at set_at set_other lt_of_at)
open Go.Proofs.YtihihgfcklkkhaaGreatDoor.Bk (Tx Bk fenceL spanK itemL dropBlank listL kindOf closes unquote unitem inner parse joinLF define items)
open Go.Proofs.YtihihgfcklkkhaaGreatDoor.Ln (run trim)
open Go.Proofs.YtihihgfcklkkhaaGreatDoor.Kd (E0 hdN hdT opN opT uqT dfB)
set_option linter.unusedVariables false
end Go.Proofs.YtihihgfcklkkhaaGreatDoor.Pa
namespace Go.Proofs.YtihihgfcklkkhaaGreatDoor.Pa
open Go.RowKit
open Go.Proofs.YtihihgfcklkkhaaGreatDoor.Tk (S S_of S_list S_size S_toList S_app ret_int eq8 ne8 at_data len_data Rd)
open Go.Proofs.YtihihgfcklkkhaaGreatDoor.Sp (Sp Tr parseB)
open Go.Proofs.YtihihgfcklkkhaaGreatDoor.Bt (TrB KB)
open Go.Proofs.YtihihgfcklkkhaaGreatDoor.Cm (Keep alloc_new alloc_at cell_at frozen_at set_at set_other lt_of_at)
open Go.Proofs.YtihihgfcklkkhaaGreatDoor.Bk (Tx Bk fenceL spanK itemL dropBlank listL kindOf closes unquote unitem inner parse joinLF define items)
open Go.Proofs.YtihihgfcklkkhaaGreatDoor.Ln (run trim)
open Go.Proofs.YtihihgfcklkkhaaGreatDoor.Kd (E0 hdN hdT opN opT uqT dfB)
set_option linter.unusedVariables false
end Go.Proofs.YtihihgfcklkkhaaGreatDoor.Pa
namespace Go.Proofs.YtihihgfcklkkhaaGreatDoor.Pa
open Go.RowKit
open Go.Proofs.YtihihgfcklkkhaaGreatDoor.Tk (S S_of S_list S_size S_toList S_app ret_int eq8 ne8 at_data len_data Rd)
open Go.Proofs.YtihihgfcklkkhaaGreatDoor.Sp (Sp Tr parseB)
open Go.Proofs.YtihihgfcklkkhaaGreatDoor.Bt (TrB KB)
open Go.Proofs.YtihihgfcklkkhaaGreatDoor.Cm (Keep alloc_new alloc_at cell_at frozen_at set_at set_other lt_of_at)
open Go.Proofs.YtihihgfcklkkhaaGreatDoor.Bk (Tx Bk fenceL spanK itemL dropBlank listL kindOf closes unquote unitem inner parse joinLF define items)
open Go.Proofs.YtihihgfcklkkhaaGreatDoor.Ln (run trim)
open Go.Proofs.YtihihgfcklkkhaaGreatDoor.Kd (E0 hdN hdT opN opT uqT dfB)
set_option linter.unusedVariables false
end Go.Proofs.YtihihgfcklkkhaaGreatDoor.Pa
