import Derived.Test.YthpnbialpkkpgaaGreatDoorPkZ
import Derived.Test.YthpnbialpkkpgaaGreatDoorPkL
import Derived.Test.YthpnbialpkkpgaaGreatDoorPkC
import Derived.Test.YthpnbialpkkpgaaGreatDoorPkAC
import Derived.Test.YthpnbialpkkpgaaGreatDoorPkV
namespace Go.Proofs.YthpnbialpkkpgaaGreatDoor.Pa
open Go.RowKit
open Go.Proofs.YthpnbialpkkpgaaGreatDoor.Tk (S S_of S_list S_size S_toList S_app ret_int eq8 ne8 at_data len_data Rd)
open Go.Proofs.YthpnbialpkkpgaaGreatDoor.Sp (Sp Tr)
open Go.Proofs.YthpnbialpkkpgaaGreatDoor.Bt (TrB KB)
open Go.Proofs.YthpnbialpkkpgaaGreatDoor.Cm (Keep alloc_new alloc_at cell_at frozen_at set_at lt_of_at)
open Go.Proofs.YthpnbialpkkpgaaGreatDoor.Bk (Tx Bk kindOf define)
open Go.Proofs.YthpnbialpkkpgaaGreatDoor.Kd (E0)
set_option linter.unusedVariables false
end Go.Proofs.YthpnbialpkkpgaaGreatDoor.Pa
namespace Go.Proofs.YthpnbialpkkpgaaGreatDoor.Pa
open Go.RowKit
open Go.Proofs.YthpnbialpkkpgaaGreatDoor.Tk (S S_of S_list S_size S_toList S_app ret_int eq8 ne8 at_data len_data Rd)
open Go.Proofs.YthpnbialpkkpgaaGreatDoor.Bt (TrB KB)
open Go.Proofs.YthpnbialpkkpgaaGreatDoor.Cm (Keep)
open Go.Proofs.YthpnbialpkkpgaaGreatDoor.Bk (Tx Bk kindOf)
open Go.Proofs.YthpnbialpkkpgaaGreatDoor.Kd (E0)
open Go.Proofs.YthpnbialpkkpgaaGreatDoor.Utf (chk rcheck_any)
set_option linter.unusedVariables false
def lnsB (xs : List Tx) : List Bk × Int := match allE 0 xs with | none => ([], 5) | some l => (l, 0)
def docB (s : Tx) : List Bk × Int := if chk (S s) = 0 then lnsB (Ln.split s).1 else ([], chk (S s))
def LnsAns (w : World) (r : List Bk × Int) (e : Ending) (w' : World) : Prop := ∃ u, e = .returned (.tuple #[u, .int .i64 r.2]) ∧ TrB w' u r.1 ∧ Below w.heap.size w w'
end Go.Proofs.YthpnbialpkkpgaaGreatDoor.Pa
namespace Go.Proofs.YthpnbialpkkpgaaGreatDoor.Pa
open Go.RowKit
open Go.Proofs.YthpnbialpkkpgaaGreatDoor.Tk (S S_of S_list S_size S_toList S_app ret_int eq8 ne8 at_data len_data Rd)
open Go.Proofs.YthpnbialpkkpgaaGreatDoor.Bt (TrB KB)
open Go.Proofs.YthpnbialpkkpgaaGreatDoor.Cm (Keep Rk alloc_new alloc_at cell_at frozen_at set_at lt_of_at)
open Go.Proofs.YthpnbialpkkpgaaGreatDoor.Bk (Tx Bk kindOf)
open Go.Proofs.YthpnbialpkkpgaaGreatDoor.Kd (E0)
set_option linter.unusedVariables false
def spr (xs : List Tx) : Nat → Nat → List (Nat × Nat)
  | 0, _ => []
  | f + 1, j => match xs.drop j with
    | [] => []
    | s :: l => if kindOf E0 s = 1 then spr xs f (j + 1) else (j, plc xs (restB s l)) :: spr xs f (plc xs (restB s l))
def sprB (xs : List Tx) : List (Nat × Nat) := spr xs (xs.length + 1) 0
def encP (p : Nat × Nat) : List Value := [.int .i64 (p.1 : Nat), .int .i64 (p.2 : Nat)]
def RdP (w : World) (v : Value) (l : List (Nat × Nat)) : Prop := Rk 2 encP w v l ∧ l.length ≤ 1000000
def SprAns (w : World) (l : List (Nat × Nat)) (e : Ending) (w' : World) : Prop := ∃ u, e = .returned u ∧ RdP w' u l ∧ Below w.heap.size w w'
end Go.Proofs.YthpnbialpkkpgaaGreatDoor.Pa
namespace Go.Proofs.YthpnbialpkkpgaaGreatDoor.Pa
open Go.RowKit
open Go.Proofs.YthpnbialpkkpgaaGreatDoor.Tk (S S_of S_list S_size S_toList S_app ret_int eq8 ne8 at_data len_data Rd)
open Go.Proofs.YthpnbialpkkpgaaGreatDoor.Sp (ret_bool OkAns)
open Go.Proofs.YthpnbialpkkpgaaGreatDoor.Bt (TrB KB fitAll ttAll rgB dp)
open Go.Proofs.YthpnbialpkkpgaaGreatDoor.Cm (Keep)
open Go.Proofs.YthpnbialpkkpgaaGreatDoor.Bk (Tx Bk kindOf)
open Go.Proofs.YthpnbialpkkpgaaGreatDoor.Kd (E0)
set_option linter.unusedVariables false
structure Told12 : Prop where
  doc : ∀ (s : ByteArray) (w : World), s.size ≤ 250000 → Calls Tryz.prog 21 #[.string s] w (LnsAns w (docB s.data.toList))
  lines : ∀ (v : Value) (xs : List Tx) (w : World), Rd w v xs → tot xs ≤ 260000 → Calls Tryz.prog 37 #[v] w (LnsAns w (lnsB xs))
  spread : ∀ (v : Value) (xs : List Tx) (w : World), Rd w v xs → tot xs ≤ 260000 → Calls Tryz.prog 23 #[v] w (SprAns w (sprB xs))
def RightC : Prop := ∀ (v : Value) (l : List Bk) (w : World), TrB w v l → fitAll 1048576 l → ttAll l ≤ 9000000 → Calls Tryz.prog 27 #[v] w (OkAns w (rgB l))
end Go.Proofs.YthpnbialpkkpgaaGreatDoor.Pa
