/-
  CONTRACT of the document's all (emendationref07).
-/
import Derived.Test.YtpakjdgddomdjaaDoorSpRight
import Derived.Lib.QuietBelow
import Derived.BigQuiet
import Derived.Deep.Cut
import Derived.Deep.CutRange
import Derived.Deep.CutBlock
namespace Go.Proofs.YtpakjdgddomdjaaDoor.Sp
open Go.RowKit
open Go.Proofs.YtpakjdgddomdjaaDoor.Tk (S S_of S_list S_size S_toList S_app ret_int eq8 ne8 at_data len_data)
open Go.Proofs.YtpakjdgddomdjaaDoor.Cm (calls_at Keep alloc_new alloc_at cell_at lt_of_at)
set_option linter.unusedVariables false

/-- The kind ahead of place j. -/
def pkAt (l : List Sp) : Nat → Int
  | 0 => 0
  | j + 1 => (l[j]?.map Sp.kind).getD 0
theorem pkAt_next (l : List Sp) (j : Nat) (h : j < l.length) : pkAt l (j + 1) = l[j].kind := by
  show (l[j]?.map Sp.kind).getD 0 = _
  rw [List.getElem?_eq_getElem h]
  rfl

end Go.Proofs.YtpakjdgddomdjaaDoor.Sp
