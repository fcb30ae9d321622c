/-
  CONTRACT of the document's Deep (emendationref10).
-/
import Derived.Test.YtpakjdgddomdjaaDoorBtCount
namespace Go.Proofs.YtpakjdgddomdjaaDoor.Bt
open Go.RowKit
open Go.Proofs.YtpakjdgddomdjaaDoor.Tk (S S_of S_list S_size ret_int)
open Go.Proofs.YtpakjdgddomdjaaDoor.Cm (calls_at)
open Go.Proofs.YtpakjdgddomdjaaDoor.Bk (Bk)
set_option linter.unusedVariables false

/-- Is it a container? -/
def boxB (k : Int) : Bool := decide (k = 5) || decide (k = 6) || decide (k = 7)
mutual
/-- As the machine counts. -/
def dpOne (n : Int) : Bk → Int
  | .mk k _ _ _ _ l => if boxB k = true then max n (IntKind.i64.wrap (1 + dpAll 0 l)) else max n (dpAll 0 l)
def dpAll (n : Int) : List Bk → Int
  | [] => n
  | x :: r => dpAll (dpOne n x) r
end
def dp (l : List Bk) : Int := dpAll 0 l
theorem dpAll_cons (n : Int) (x : Bk) (r : List Bk) : dpAll n (x :: r) = dpAll (if boxB x.kind = true then max n (IntKind.i64.wrap (1 + dp x.kids)) else max n (dp x.kids)) r := by
  obtain ⟨k, lv, i, ls, ss, l⟩ := x
  rw [dpAll, dpOne]
  rfl

end Go.Proofs.YtpakjdgddomdjaaDoor.Bt
