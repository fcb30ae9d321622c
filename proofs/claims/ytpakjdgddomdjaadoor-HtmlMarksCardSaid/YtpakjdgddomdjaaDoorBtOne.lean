/-
  CONTRACT of the document's one (emendationref10), by all's at its kids.
-/
import Derived.Test.YtpakjdgddomdjaaDoorBtLabel
import Derived.Test.YtpakjdgddomdjaaDoorBtFew
import Derived.Test.YtpakjdgddomdjaaDoorSpRt
namespace Go.Proofs.YtpakjdgddomdjaaDoor.Bt
open Go.RowKit
open Go.Proofs.YtpakjdgddomdjaaDoor.Tk (S S_of S_list S_size S_toList ret_int Rd)
open Go.Proofs.YtpakjdgddomdjaaDoor.Cm (calls_at alloc_new cell_at)
open Go.Proofs.YtpakjdgddomdjaaDoor.Sp (Sp Tr hsB rtB plAll dsB ret_bool OkAns isEmpty_len rplain_any)
open Go.Proofs.YtpakjdgddomdjaaDoor.Bk (Bk)
set_option linter.unusedVariables false

mutual
def oneB (list : Bool) : Bk → Bool
  | .mk k lv i ls ss l => (decide (k = 7) == list) && (
    if k = 1 then (lv == 0) && i.isEmpty && ls.isEmpty && l.isEmpty && !ss.isEmpty && rtB ss
    else if k = 2 then i.isEmpty && ls.isEmpty && l.isEmpty && decide (lv ≥ 1) && decide (lv ≤ 6) && rtB ss && !hsB 10 (plAll ss)
    else if k = 3 then (lv == 0) && i.isEmpty && ls.isEmpty && ss.isEmpty && l.isEmpty
    else if k = 4 then ls.all lineB && ((lv == 0) && ss.isEmpty && l.isEmpty && infB i)
    else if k = 5 then (lv == 0) && i.isEmpty && ls.isEmpty && ss.isEmpty && allB false 0 l
    else if k = 7 then (lv == 0) && i.isEmpty && ls.isEmpty && ss.isEmpty && allB false 0 l
    else if k = 6 then (lv == 0) && i.isEmpty && ls.isEmpty && ss.isEmpty && !l.isEmpty && allB true 0 l
    else if k = 8 then (lv == 0) && ss.isEmpty && l.isEmpty && labB i && decide (ls.length = 1) && dsB (ls.headD [])
    else false)
def allB (list : Bool) (p : Int) : List Bk → Bool
  | [] => true
  | x :: r => oneB list x && !(decide (p = 6) && decide (x.kind = 6)) && allB list x.kind r
end
theorem allB_cons (list : Bool) (p : Int) (x : Bk) (r : List Bk) : allB list p (x :: r) = (oneB list x && !(decide (p = 6) && decide (x.kind = 6)) && allB list x.kind r) := by rw [allB]
theorem ss_len {α : Type} (l : List α) : (l.length = 1) ↔ ∃ x, l = [x] := List.length_eq_one_iff

end Go.Proofs.YtpakjdgddomdjaaDoor.Bt
