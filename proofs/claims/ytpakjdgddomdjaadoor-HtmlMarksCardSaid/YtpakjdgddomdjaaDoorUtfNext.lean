/-
  CONTRACTS of utf.lead, utf.fits, utf.Next and of the document's Next: each answers the plain function.
-/
import Derived.Test.YtpakjdgddomdjaaDoorProg
import Derived.Test.YtpakjdgddomdjaaDoorUtfPlain
import Derived.WalkKit
import Derived.WalkSpells
import Derived.WalkLawsBesides
import Derived.Lib.Hide
namespace Go.Proofs.YtpakjdgddomdjaaDoor.Utf
open Go.RowKit
set_option linter.unusedVariables false
theorem ret_int {k : IntKind} {a b : Int} (h : a = b) : Ending.returned (.int k a) = .returned (.int k b) := by rw [h]
theorem ret_bool {a b : Bool} (h : a = b) : Ending.returned (.bool a) = .returned (.bool b) := by rw [h]
theorem ret_two {j k : IntKind} {a b c d : Int} (h : a = b) (g : c = d) : Ending.returned (.tuple #[.int j a, .int k c]) = .returned (.tuple #[.int j b, .int k d]) := by rw [h, g]

theorem fits_a (c n : Int) (h : (n == 3) = true) (h1 : 2048 ≤ c) : (decide (c < 55296) || decide (57343 < c)) = fitsI c n := by
  obtain rfl : n = 3 := by simpa using h
  unfold fitsI
  rw [if_pos rfl, decide_eq_true h1, Bool.true_and]
theorem fits_b (c n : Int) (h : (n == 3) = true) (h1 : 2048 ≤ c) (h2 : c < 55296) : true = fitsI c n := by
  rw [← fits_a c n h h1, decide_eq_true h2, Bool.true_or]
theorem fits_c (c n : Int) (h : (n == 3) = true) (h1 : c < 2048) : false = fitsI c n := by
  obtain rfl : n = 3 := by simpa using h
  unfold fitsI
  rw [if_pos rfl, decide_eq_false (by omega), Bool.false_and]
theorem fits_d (c n : Int) (h : (n == 4) = true) (h1 : 65536 ≤ c) : decide (c ≤ 1114111) = fitsI c n := by
  obtain rfl : n = 4 := by simpa using h
  unfold fitsI
  rw [if_neg (by decide), if_pos rfl, decide_eq_true h1, Bool.true_and]
theorem fits_e (c n : Int) (h : (n == 4) = true) (h1 : c < 65536) : false = fitsI c n := by
  obtain rfl : n = 4 := by simpa using h
  unfold fitsI
  rw [if_neg (by decide), if_pos rfl, decide_eq_false (by omega), Bool.false_and]
theorem fits_f (c n : Int) (h : (n == 3) = false) (h1 : (n == 4) = false) : true = fitsI c n := by
  unfold fitsI
  rw [if_neg (by simpa using h), if_neg (by simpa using h1)]
theorem val_int {k : IntKind} {a b : Int} (h : a = b) : Value.int k a = .int k b := by rw [h]
theorem acc_num (a x y : Nat) (e : y = x) (h1 : 128 ≤ x) (h2 : x ≤ 191) : (a : Int) * 64 + (x : Int) % 64 = ((a * 64 + (y - 128) : Nat) : Int) := by omega
theorem pair_none {p : Nat × Nat} (h : p = (0, 0)) : (0 : Int) = ((p.1 : Nat) : Int) ∧ (0 : Int) = ((p.2 : Nat) : Int) := by rw [h]; exact ⟨rfl, rfl⟩
theorem pair_yes {p : Nat × Nat} {a b c d : Nat} (h : p = (a, b)) (h1 : c = a) (h2 : d = b) : (c : Int) = ((p.1 : Nat) : Int) ∧ (d : Int) = ((p.2 : Nat) : Int) := by rw [h, h1, h2]; exact ⟨rfl, rfl⟩
theorem ret_pair {p : Nat × Nat} {a b : Int} (h : a = p.1 ∧ b = p.2) : Ending.returned (.tuple #[.int .i64 a, .int .i64 b]) = .returned (.tuple #[.int .i64 p.1, .int .i64 p.2]) := by rw [h.1, h.2]
theorem nxtI_out (s : ByteArray) (a : Int) (h : a < 0 ∨ s.size ≤ a) : nxtI s a = (0, 0) := by
  unfold nxtI
  split
  · rfl
  · unfold nxt; exact nx_none _ _ (Or.inl (by omega))
theorem nxtI_in (s : ByteArray) (k : Nat) : nxtI s k = nxt s k := by
  unfold nxtI
  rw [if_neg (by omega), Int.toNat_natCast]
end Go.Proofs.YtpakjdgddomdjaaDoor.Utf
