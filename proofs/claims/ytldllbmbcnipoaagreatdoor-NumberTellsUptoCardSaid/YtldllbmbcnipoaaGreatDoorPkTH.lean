/-
  Several texts in one:
  CONTRACT of the document's Deep (emendationref10).
  CONTRACTS of the document's all and Right (emendationref10).
-/
import Derived.Test.YtldllbmbcnipoaaGreatDoorPkTC
import Derived.Test.YtldllbmbcnipoaaGreatDoorPkTG
namespace Go.Proofs.YtldllbmbcnipoaaGreatDoor.Bt
open Go.RowKit
open Go.Proofs.YtldllbmbcnipoaaGreatDoor.Tk (S S_of S_list S_size ret_int)
open Go.Proofs.YtldllbmbcnipoaaGreatDoor.Cm (calls_at)
open Go.Proofs.YtldllbmbcnipoaaGreatDoor.Bk (Bk)
set_option linter.unusedVariables false

/-- Is it a container? -/
def boxB (k : Int) : Bool := decide (k = 5) || decide (k = 6) || decide (k = 7)
mutual
/-- As the machine counts. -/
def dpOne (n : Int) : Bk → Int
  | .mk k _ _ _ _ l => if boxB k = true then max n (IntKind.i64.wrap (1 + dpAll 0 l)) else max n (dpAll 0 l)
def dpAll (n : Int) : List Bk → Int
  | [] => n
  | x :: r => dpAll (dpOne n x) r
end
def dp (l : List Bk) : Int := dpAll 0 l
theorem dpAll_cons (n : Int) (x : Bk) (r : List Bk) : dpAll n (x :: r) = dpAll (if boxB x.kind = true then max n (IntKind.i64.wrap (1 + dp x.kids)) else max n (dp x.kids)) r := by
  obtain ⟨k, lv, i, ls, ss, l⟩ := x
  rw [dpAll, dpOne]
  rfl

end Go.Proofs.YtldllbmbcnipoaaGreatDoor.Bt

namespace Go.Proofs.YtldllbmbcnipoaaGreatDoor.Bt
open Go.RowKit
open Go.Proofs.YtldllbmbcnipoaaGreatDoor.Tk (S S_of S_list S_size S_toList ret_int Rd)
open Go.Proofs.YtldllbmbcnipoaaGreatDoor.Cm (calls_at alloc_new cell_at)
open Go.Proofs.YtldllbmbcnipoaaGreatDoor.Sp (Sp Tr ret_bool OkAns)
open Go.Proofs.YtldllbmbcnipoaaGreatDoor.Bk (Bk)
set_option linter.unusedVariables false

/-- The kind ahead of place j. -/
def pkAt (l : List Bk) : Nat → Int
  | 0 => 0
  | j + 1 => (l[j]?.map Bk.kind).getD 0
theorem pkAt_next (l : List Bk) (j : Nat) (h : j < l.length) : pkAt l (j + 1) = l[j].kind := by
  show (l[j]?.map Bk.kind).getD 0 = _
  rw [List.getElem?_eq_getElem h]
  rfl
theorem ttAll_mem : ∀ {l : List Bk} {x : Bk}, x ∈ l → ttOne x ≤ ttAll l
  | [], x, h => by cases h
  | y :: r, x, h => by
    rw [ttAll_cons]
    rcases List.mem_cons.1 h with rfl | h
    · omega
    · have := ttAll_mem h; omega

def rgB (l : List Bk) : Bool := allB false 0 l && decide (dp l ≤ 16)
end Go.Proofs.YtldllbmbcnipoaaGreatDoor.Bt
