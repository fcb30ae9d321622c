import Derived.Test.YthpnbialpkkpgaaGreatDoorPkAD
namespace Go.Proofs.YthpnbialpkkpgaaGreatDoor.Pa
open Go.Proofs.YthpnbialpkkpgaaGreatDoor.Bk (Tx Bk Env kindOf define parse joinLF)
open Go.Proofs.YthpnbialpkkpgaaGreatDoor.Bt (dp)
open Go.Proofs.YthpnbialpkkpgaaGreatDoor.Ln (run mx trim)
open Go.Proofs.YthpnbialpkkpgaaGreatDoor.Kd (E0)
set_option linter.unusedVariables false
variable {T : List Tx}
end Go.Proofs.YthpnbialpkkpgaaGreatDoor.Pa
