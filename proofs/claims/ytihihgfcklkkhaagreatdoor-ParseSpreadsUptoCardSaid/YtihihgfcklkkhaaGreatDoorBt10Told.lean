import Derived.Test.YtihihgfcklkkhaaGreatDoorPkAC
namespace Go.Proofs.YtihihgfcklkkhaaGreatDoor.Bt
open Go.RowKit
open Go.Proofs.YtihihgfcklkkhaaGreatDoor.Tk (S S_of S_list S_size S_toList ret_int Rd)
open Go.Proofs.YtihihgfcklkkhaaGreatDoor.Cm (calls_at)
open Go.Proofs.YtihihgfcklkkhaaGreatDoor.Sp (Sp Tr ret_bool OkAns)
open Go.Proofs.YtihihgfcklkkhaaGreatDoor.Bk (Bk)
set_option linter.unusedVariables false
end Go.Proofs.YtihihgfcklkkhaaGreatDoor.Bt
