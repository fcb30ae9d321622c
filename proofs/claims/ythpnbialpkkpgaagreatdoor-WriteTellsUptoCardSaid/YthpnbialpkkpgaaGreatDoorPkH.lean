import Derived.Test.YthpnbialpkkpgaaGreatDoorPkG
import Derived.Test.YthpnbialpkkpgaaGreatDoorPkY
import Derived.Test.YthpnbialpkkpgaaGreatDoorPkB
import Derived.Shelf.SlSortCmp.WholeK
import Derived.Deep.RegionLaw
import Derived.Test.YthpnbialpkkpgaaGreatDoorSortRun
import Derived.Test.YthpnbialpkkpgaaGreatDoorShelfB
namespace Go.Proofs.YthpnbialpkkpgaaGreatDoor.Sp
set_option linter.unusedVariables false
structure Pc where
  kind : Nat
  s : List UInt8
  raw : List UInt8
def nxt (k : Nat) (A : List Pc) (i : Nat) : Nat := i + ((A.drop i).takeWhile (fun p => !decide (p.kind = k))).length
theorem nxt_le (k : Nat) (A : List Pc) (i : Nat) (h : i ≤ A.length) : i ≤ nxt k A i ∧ nxt k A i ≤ A.length := by
  unfold nxt
  have := (List.takeWhile_prefix (fun p : Pc => !decide (p.kind = k)) (l := A.drop i)).length_le
  rw [List.length_drop] at this
  omega
end Go.Proofs.YthpnbialpkkpgaaGreatDoor.Sp
namespace Go.Proofs.YthpnbialpkkpgaaGreatDoor.Sp
set_option linter.unusedVariables false
end Go.Proofs.YthpnbialpkkpgaaGreatDoor.Sp
namespace Go.Proofs.YthpnbialpkkpgaaGreatDoor.Sp
set_option linter.unusedVariables false
end Go.Proofs.YthpnbialpkkpgaaGreatDoor.Sp
namespace Go.Proofs.YthpnbialpkkpgaaGreatDoor.Sp
open Go.RowKit Go.Shelf Go.Sort
open Go.Proofs.YthpnbialpkkpgaaGreatDoor.Tk (ret_int)
open Go.Proofs.YthpnbialpkkpgaaGreatDoor.Cm (calls_at cell_at alloc_at alloc_new lt_of_at)
set_option linter.unusedVariables false
end Go.Proofs.YthpnbialpkkpgaaGreatDoor.Sp
namespace Go.Proofs.YthpnbialpkkpgaaGreatDoor.Sp
open Go.RowKit Go.Shelf Go.Sort Go.Lib
open Go.Proofs.YthpnbialpkkpgaaGreatDoor.Cm (calls_at cell_at alloc_at alloc_new lt_of_at frozen_at)
set_option linter.unusedVariables false
end Go.Proofs.YthpnbialpkkpgaaGreatDoor.Sp
