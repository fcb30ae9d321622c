import Derived.Test.YthpnbialpkkpgaaGreatDoorPkG
import Derived.Test.YthpnbialpkkpgaaGreatDoorPkY
import Derived.Test.YthpnbialpkkpgaaGreatDoorPkB
import Derived.Shelf.SlSortCmp.WholeK
import Derived.Deep.RegionLaw
import Derived.Test.YthpnbialpkkpgaaGreatDoorSortRun
import Derived.Test.YthpnbialpkkpgaaGreatDoorShelfB
namespace Go.Proofs.YthpnbialpkkpgaaGreatDoor.Sp
set_option linter.unusedVariables false
structure Pc where
  kind : Nat
  s : List UInt8
  raw : List UInt8
def raws : List Pc → List UInt8
  | [] => []
  | p :: P => p.raw ++ raws P
def nxt (k : Nat) (A : List Pc) (i : Nat) : Nat := i + ((A.drop i).takeWhile (fun p => !decide (p.kind = k))).length
theorem nxt_le (k : Nat) (A : List Pc) (i : Nat) (h : i ≤ A.length) : i ≤ nxt k A i ∧ nxt k A i ≤ A.length := by
  unfold nxt
  have := (List.takeWhile_prefix (fun p : Pc => !decide (p.kind = k)) (l := A.drop i)).length_le
  rw [List.length_drop] at this
  omega
def fin (e l : Bool) (A : List Pc) (i : Nat) : Nat := if e = true then (if l = true then min (nxt 2 A i) (nxt 4 A i) else nxt 2 A i) else (if l = true then nxt 4 A i else A.length)
end Go.Proofs.YthpnbialpkkpgaaGreatDoor.Sp
namespace Go.Proofs.YthpnbialpkkpgaaGreatDoor.Sp
set_option linter.unusedVariables false
def flu (L : List Sp) (t : List UInt8) : List Sp := if t = [] then L else L ++ [.mk 1 t []]
def NL (L : List Sp) : Prop := ∀ x, L.getLast? = some x → x.kind ≠ 1
structure At (e l : Bool) (A : List Pc) (i k : Nat) (L : List Sp) (t : List UInt8) : Prop where
  nl : NL L
  rd : gl e l (flu L t) (raws (A.drop k)) = Rdr e l (raws (A.drop i))
  le : k ≤ fin e l A i
  fin : fin e l A k = fin e l A i
end Go.Proofs.YthpnbialpkkpgaaGreatDoor.Sp
namespace Go.Proofs.YthpnbialpkkpgaaGreatDoor.Sp
set_option linter.unusedVariables false
end Go.Proofs.YthpnbialpkkpgaaGreatDoor.Sp
namespace Go.Proofs.YthpnbialpkkpgaaGreatDoor.Sp
open Go.RowKit Go.Shelf Go.Sort
open Go.Proofs.YthpnbialpkkpgaaGreatDoor.Tk (ret_int)
open Go.Proofs.YthpnbialpkkpgaaGreatDoor.Cm (calls_at cell_at alloc_at alloc_new lt_of_at)
set_option linter.unusedVariables false
end Go.Proofs.YthpnbialpkkpgaaGreatDoor.Sp
namespace Go.Proofs.YthpnbialpkkpgaaGreatDoor.Sp
open Go.RowKit Go.Shelf Go.Sort Go.Lib
open Go.Proofs.YthpnbialpkkpgaaGreatDoor.Cm (calls_at cell_at alloc_at alloc_new lt_of_at frozen_at Rk)
set_option linter.unusedVariables false
end Go.Proofs.YthpnbialpkkpgaaGreatDoor.Sp
