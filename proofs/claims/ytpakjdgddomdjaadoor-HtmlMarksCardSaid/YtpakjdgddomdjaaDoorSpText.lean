/-
  CONTRACT of the document's text (emendationref07).
-/
import Derived.Test.YtpakjdgddomdjaaDoorSpDest
namespace Go.Proofs.YtpakjdgddomdjaaDoor.Sp
open Go.RowKit
open Go.Proofs.YtpakjdgddomdjaaDoor.Tk (S S_of S_list S_size S_toList S_app ret_int eq8 ne8 at_data len_data)
open Go.Proofs.YtpakjdgddomdjaaDoor.Cm (calls_at)
set_option linter.unusedVariables false

def txB : List UInt8 → Bool
  | [] => true
  | [_] => true
  | a :: b :: r => !((decide (a = 10) && (spB b || decide (b = 10))) || (decide (b = 10) && spB a)) && txB (b :: r)
def ttB (s : List UInt8) : Bool := txB s && (!s.isEmpty && !hsB 13 s)
theorem txB_two (a b : UInt8) (r : List UInt8) : txB (a :: b :: r) = (!((decide (a = 10) && (spB b || decide (b = 10))) || (decide (b = 10) && spB a)) && txB (b :: r)) := by rw [txB]

end Go.Proofs.YtpakjdgddomdjaaDoor.Sp
