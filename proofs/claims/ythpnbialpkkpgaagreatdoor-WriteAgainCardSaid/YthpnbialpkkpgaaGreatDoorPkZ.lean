import Derived.Test.YthpnbialpkkpgaaGreatDoorPaBlock
set_option linter.unusedVariables false
namespace Go.Proofs.YthpnbialpkkpgaaGreatDoor
namespace Pa
open Go.RowKit
open Tk (S S_of S_list S_size S_toList S_app ret_int eq8 ne8 at_data len_data Rd)
open Sp (Sp Tr parseB)
open Bt (TrB KB)
open Cm (Keep alloc_new alloc_at cell_at frozen_at set_at set_other lt_of_at)
open Bk (Tx Bk fenceL spanK itemL dropBlank listL kindOf closes unquote unitem inner parse joinLF define items)
open Ln (run trim)
open Kd (E0 hdN hdT opN opT uqT dfB)
end Pa
namespace Pa
open Go.RowKit
open Tk (S S_of S_list S_size S_toList S_app ret_int eq8 ne8 at_data len_data Rd)
open Sp (Sp Tr parseB)
open Bt (TrB KB)
open Cm (Keep alloc_new alloc_at cell_at frozen_at set_at set_other lt_of_at)
open Bk (Tx Bk fenceL spanK itemL dropBlank listL kindOf closes unquote unitem inner parse joinLF define items)
open Ln (run trim)
open Kd (E0 hdN hdT opN opT uqT dfB)
end Pa
namespace Pa
open Go.RowKit
open Tk (S S_of S_list S_size S_toList S_app ret_int eq8 ne8 at_data len_data Rd)
open Sp (Sp Tr parseB)
open Bt (TrB KB)
open Cm (Keep alloc_new alloc_at cell_at frozen_at set_at set_other lt_of_at)
open Bk (Tx Bk fenceL spanK itemL dropBlank listL kindOf closes unquote unitem inner parse joinLF define items)
open Ln (run trim)
open Kd (E0 hdN hdT opN opT uqT dfB)
end Pa
end Go.Proofs.YthpnbialpkkpgaaGreatDoor
