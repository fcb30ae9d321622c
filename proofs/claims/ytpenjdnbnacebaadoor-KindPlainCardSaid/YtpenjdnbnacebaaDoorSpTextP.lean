/-
  CONTRACT of the program's textRight (span).
-/
import Derived.Test.YtpenjdnbnacebaaDoorSpChars
import Derived.Test.YtpenjdnbnacebaaDoorSpCrPlain
namespace Go.Proofs.YtpenjdnbnacebaaDoor.Sp
open Go.RowKit
open Go.Proofs.YtpenjdnbnacebaaDoor.Tk (S S_of S_list S_size S_toList S_app ret_int eq8 ne8 at_data len_data)
open Go.Proofs.YtpenjdnbnacebaaDoor.Cm (calls_at)
set_option linter.unusedVariables false

theorem ed_ten {b : UInt8} (h : edB b = false) : b ≠ 10 := by
  intro e; rw [e] at h; revert h; decide
theorem ed_two (a b : UInt8) : (!((decide (a = 10) && (spB b || decide (b = 10))) || (decide (b = 10) && spB a))) = (!((decide (a = 10) && edB b) || (decide (b = 10) && edB a))) := by
  unfold edB
  cases spB a <;> cases spB b <;> cases decide (a = 10) <;> cases decide (b = 10) <;> rfl
theorem txB_ed (a b : UInt8) (r : List UInt8) : txB (a :: b :: r) = (!((decide (a = 10) && edB b) || (decide (b = 10) && edB a)) && txB (b :: r)) := by rw [txB_two, ed_two]
theorem cr_find (s : List UInt8) : decide (0 ≤ Lib.indexByte s 13) = hsB 13 s := by
  rw [← Lib.contains_iff_indexByte, Bool.eq_iff_iff, List.contains_iff_mem, has_mem]

end Go.Proofs.YtpenjdnbnacebaaDoor.Sp
