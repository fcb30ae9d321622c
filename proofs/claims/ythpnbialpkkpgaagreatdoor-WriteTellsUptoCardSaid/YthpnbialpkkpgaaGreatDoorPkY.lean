import Derived.Test.YthpnbialpkkpgaaGreatDoorPkA
namespace Go.Proofs.YthpnbialpkkpgaaGreatDoor.Sp
set_option linter.unusedVariables false
def Bnd (n : Nat) (L : List Sp) : Prop := L.length ≤ n ∧ ∀ x ∈ L, x.s.length ≤ n
end Go.Proofs.YthpnbialpkkpgaaGreatDoor.Sp
namespace Go.Proofs.YthpnbialpkkpgaaGreatDoor.Sp
open Go.Proofs.YthpnbialpkkpgaaGreatDoor.Tk (cls)
set_option linter.unusedVariables false
end Go.Proofs.YthpnbialpkkpgaaGreatDoor.Sp
