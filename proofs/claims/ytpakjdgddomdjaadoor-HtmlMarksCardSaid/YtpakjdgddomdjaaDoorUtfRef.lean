/-
  CONTRACTS of the document's Next (emendationref01): it answers the plain function.
-/
import Derived.Test.YtpakjdgddomdjaaDoorUtfNext
namespace Go.Proofs.YtpakjdgddomdjaaDoor.Utf
open Go.RowKit
set_option linter.unusedVariables false

theorem acc_num' (a x y : Nat) (e : y = x) (h1 : 128 ≤ x) (h2 : x ≤ 191) : (a : Int) * 64 + (x : Int) - 128 = ((a * 64 + (y - 128) : Nat) : Int) := by omega
theorem fit2 (a : Int) : fitsI a ((2 : Nat) : Int) = true := by
  unfold fitsI; rw [if_neg (by decide), if_neg (by decide)]
theorem fit3_iff (a : Int) : fitsI a ((3 : Nat) : Int) = (decide (2048 ≤ a) && (decide (a < 55296) || decide (57343 < a))) := by
  unfold fitsI; rw [if_pos (by decide)]
theorem fit4_iff (a : Int) : fitsI a ((4 : Nat) : Int) = (decide (65536 ≤ a) && decide (a ≤ 1114111)) := by
  unfold fitsI; rw [if_neg (by decide), if_pos (by decide)]
theorem fit3 (a : Int) (h : fitsI a ((3 : Nat) : Int) = true) : (2048 ≤ a ∧ a < 55296) ∨ 57343 < a := by
  rw [fit3_iff, Bool.and_eq_true, Bool.or_eq_true, decide_eq_true_eq, decide_eq_true_eq, decide_eq_true_eq] at h; omega
theorem unfit3 (a : Int) (h : fitsI a ((3 : Nat) : Int) = false) : a < 2048 ∨ (55296 ≤ a ∧ a ≤ 57343) := by
  rw [fit3_iff, Bool.and_eq_false_iff, Bool.or_eq_false_iff, decide_eq_false_iff_not, decide_eq_false_iff_not, decide_eq_false_iff_not] at h; omega
theorem fit4 (a : Int) (h : fitsI a ((4 : Nat) : Int) = true) : 65536 ≤ a ∧ a ≤ 1114111 := by
  rw [fit4_iff, Bool.and_eq_true, decide_eq_true_eq, decide_eq_true_eq] at h; omega
theorem unfit4 (a : Int) (h : fitsI a ((4 : Nat) : Int) = false) : a < 65536 ∨ 1114111 < a := by
  rw [fit4_iff, Bool.and_eq_false_iff, decide_eq_false_iff_not, decide_eq_false_iff_not] at h; omega
end Go.Proofs.YtpakjdgddomdjaaDoor.Utf
