import Derived.Test.YthpnbialpkkpgaaGreatDoorPkAE
import Derived.Test.YthpnbialpkkpgaaGreatDoorPkAB
namespace Go.Proofs.YthpnbialpkkpgaaGreatDoor.Pa
open Go.Proofs.YthpnbialpkkpgaaGreatDoor.Bk (Tx Bk Env kindOf define parse joinLF)
open Go.Proofs.YthpnbialpkkpgaaGreatDoor.Ln (run mx trim)
open Go.Proofs.YthpnbialpkkpgaaGreatDoor.Kd (E0)
set_option linter.unusedVariables false
end Go.Proofs.YthpnbialpkkpgaaGreatDoor.Pa
namespace Go.Proofs.YthpnbialpkkpgaaGreatDoor.Pa
open Go.Proofs.YthpnbialpkkpgaaGreatDoor.Bk (Tx Bk kindOf)
open Go.Proofs.YthpnbialpkkpgaaGreatDoor.Kd (E0)
set_option linter.unusedVariables false
end Go.Proofs.YthpnbialpkkpgaaGreatDoor.Pa
namespace Go.Proofs.YthpnbialpkkpgaaGreatDoor.Pa
open Go.Proofs.YthpnbialpkkpgaaGreatDoor.Bk (Tx Bk kindOf)
open Go.Proofs.YthpnbialpkkpgaaGreatDoor.Kd (E0)
set_option linter.unusedVariables false
end Go.Proofs.YthpnbialpkkpgaaGreatDoor.Pa
