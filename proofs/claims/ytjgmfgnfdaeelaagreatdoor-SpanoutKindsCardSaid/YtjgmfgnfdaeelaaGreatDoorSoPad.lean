/-
  CONTRACT of the document's padded (emendationref09).
-/
import Derived.Test.YtjgmfgnfdaeelaaGreatDoorPkD
import Derived.Test.YtjgmfgnfdaeelaaGreatDoorPkA
namespace Go.Proofs.YtjgmfgnfdaeelaaGreatDoor.Sp
open Go.RowKit
open Go.Proofs.YtjgmfgnfdaeelaaGreatDoor.Tk (S S_of S_list S_size S_toList S_app ret_int eq8 ne8 at_data len_data)
open Go.Proofs.YtjgmfgnfdaeelaaGreatDoor.Cm (calls_at)
set_option linter.unusedVariables false

theorem padded_yes {s : List UInt8} (h : s.head? = some 96 ∨ s.getLast? = some 96 ∨ (onlySp s = false ∧ s.head? = some 32 ∧ s.getLast? = some 32)) : padded s = 32 :: (s ++ [32]) := if_pos h
theorem padded_no {s : List UInt8} (h : ¬ (s.head? = some 96 ∨ s.getLast? = some 96 ∨ (onlySp s = false ∧ s.head? = some 32 ∧ s.getLast? = some 32))) : padded s = s := if_neg h

end Go.Proofs.YtjgmfgnfdaeelaaGreatDoor.Sp
