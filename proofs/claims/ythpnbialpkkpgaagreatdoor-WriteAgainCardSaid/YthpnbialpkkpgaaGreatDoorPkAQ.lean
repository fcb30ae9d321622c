import Derived.Test.YthpnbialpkkpgaaGreatDoorPkV
import Derived.ProofKit
import Derived.OpenShut
import Derived.Carry
import Derived.SizedLaws
import Derived.Test.YthpnbialpkkpgaaGreatDoorRows
set_option linter.unusedVariables false
namespace Go.Proofs.YthpnbialpkkpgaaGreatDoor
namespace Bt
open Go.ChangeShapes Go.WideShapes Go.ChangeAt Go.RowKit
open Bk (Bk)
end Bt
namespace Bt
open Go.RowKit
end Bt
end Go.Proofs.YthpnbialpkkpgaaGreatDoor
