/-
  CONTRACTS of the document's all and Right (emendationref10).
-/
import Derived.Test.YtpakjdgddomdjaaDoorBtOne
import Derived.Test.YtpakjdgddomdjaaDoorBtDeep
import Derived.Test.YtpakjdgddomdjaaDoorSpAll
namespace Go.Proofs.YtpakjdgddomdjaaDoor.Bt
open Go.RowKit
open Go.Proofs.YtpakjdgddomdjaaDoor.Tk (S S_of S_list S_size S_toList ret_int Rd)
open Go.Proofs.YtpakjdgddomdjaaDoor.Cm (calls_at alloc_new cell_at)
open Go.Proofs.YtpakjdgddomdjaaDoor.Sp (Sp Tr ret_bool OkAns)
open Go.Proofs.YtpakjdgddomdjaaDoor.Bk (Bk)
set_option linter.unusedVariables false

/-- The kind ahead of place j. -/
def pkAt (l : List Bk) : Nat → Int
  | 0 => 0
  | j + 1 => (l[j]?.map Bk.kind).getD 0
theorem pkAt_next (l : List Bk) (j : Nat) (h : j < l.length) : pkAt l (j + 1) = l[j].kind := by
  show (l[j]?.map Bk.kind).getD 0 = _
  rw [List.getElem?_eq_getElem h]
  rfl
theorem ttAll_mem : ∀ {l : List Bk} {x : Bk}, x ∈ l → ttOne x ≤ ttAll l
  | [], x, h => by cases h
  | y :: r, x, h => by
    rw [ttAll_cons]
    rcases List.mem_cons.1 h with rfl | h
    · omega
    · have := ttAll_mem h; omega

def rgB (l : List Bk) : Bool := allB false 0 l && decide (dp l ≤ 16)
end Go.Proofs.YtpakjdgddomdjaaDoor.Bt
