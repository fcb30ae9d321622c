import Derived.Test.YthpnbialpkkpgaaGreatDoorPkA
namespace Go.Proofs.YthpnbialpkkpgaaGreatDoor.Sp
set_option linter.unusedVariables false
def snocT : List Sp → List UInt8 → List Sp
  | [], s => [.mk 1 s []]
  | [x], s => if x.kind = 1 then [.mk x.kind (x.s ++ s) x.kids] else [x, .mk 1 s []]
  | x :: y :: r, s => x :: snocT (y :: r) s
def glue (L : List Sp) : List Sp → List Sp
  | [] => L
  | x :: r => (if x.kind = 1 then snocT L x.s else L ++ [x]) ++ r
def Bnd (n : Nat) (L : List Sp) : Prop := L.length ≤ n ∧ ∀ x ∈ L, x.s.length ≤ n
end Go.Proofs.YthpnbialpkkpgaaGreatDoor.Sp
namespace Go.Proofs.YthpnbialpkkpgaaGreatDoor.Sp
open Go.Proofs.YthpnbialpkkpgaaGreatDoor.Tk (cls)
set_option linter.unusedVariables false
inductive Stp where
  | stop
  | text (a t : List UInt8)
  | span (x : Sp) (t : List UInt8)
def Rdr (e l : Bool) (t : List UInt8) : List Sp × List UInt8 := read t.length e l t
def gl (e l : Bool) (L : List Sp) (t : List UInt8) : List Sp × List UInt8 := (glue L (Rdr e l t).1, (Rdr e l t).2)
end Go.Proofs.YthpnbialpkkpgaaGreatDoor.Sp
