/-
  ALL THAT IS ASKED OF THE PROGRAM (spanout and spanin) by layer 9's statements.
-/
import Derived.Test.YtjgmfgnfdaeelaaGreatDoorSoProgW
import Derived.Test.YtjgmfgnfdaeelaaGreatDoorSiProg
import Derived.Test.YtjgmfgnfdaeelaaGreatDoorSo9Told
namespace Go.Proofs.YtjgmfgnfdaeelaaGreatDoor.Sp
open Go.RowKit
set_option linter.unusedVariables false

theorem told9 : Told9 where
  toTold9w := told9w
  clean := told8.clean
  parse := fun s w hs => told8.parse s w hs
end Go.Proofs.YtjgmfgnfdaeelaaGreatDoor.Sp
