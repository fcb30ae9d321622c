/-
  Several texts in one:
  CONTRACTS of the document's space, edge, has, Dest and text (emendationref07).
  CONTRACT of the document's text (emendationref07).
  PLAIN FUNCTIONS of layer 1 (utf): what a text's characters are. No program is named here.
  CONTRACTS of utf.lead, utf.fits, utf.Next and of the document's Next: each answers the plain function.
  CONTRACTS of the document's Next (emendationref01): it answers the plain function.
-/
import Derived.Test.YtldllbmbcnipoaaDoorPkND
import Derived.Deep.Cut
import Derived.Deep.CutRange
import Derived.Deep.CutBlock
import Derived.WalkKit
import Derived.Test.YtldllbmbcnipoaaDoorProg
import Derived.WalkSpells
import Derived.WalkLawsBesides
import Derived.Lib.Hide
namespace Go.Proofs.YtldllbmbcnipoaaDoor.Sp
open Go.RowKit
open Go.Proofs.YtldllbmbcnipoaaDoor.Tk (S S_of S_list S_size S_toList S_app ret_int eq8 ne8 at_data len_data)
open Go.Proofs.YtldllbmbcnipoaaDoor.Cm (calls_at)
set_option linter.unusedVariables false

def spB (c : UInt8) : Bool := decide (c = 32) || decide (c = 9)
def edB (c : UInt8) : Bool := spB c || decide (c = 10)
theorem i8 (c : UInt8) (n : Nat) (hn : n < 256) : ((c.toNat : Int) == (n : Int)) = decide (c = UInt8.ofNat n) := by
  rw [Bool.eq_iff_iff, beq_iff_eq, decide_eq_true_iff]
  constructor
  · intro h
    apply UInt8.toNat_inj.1
    rw [UInt8.toNat_ofNat']
    omega
  · intro h
    rw [h, UInt8.toNat_ofNat']
    omega

theorem drop_all (s : ByteArray) (k : Nat) (h : ¬ k < s.size) : s.data.toList.drop k = [] := List.drop_eq_nil_of_le (by simp; omega)
/-- Does a byte stand in a text? -/
def hsB (c : UInt8) (s : List UInt8) : Bool := s.any (fun b => decide (b = c))
/-! Where a link can go to. -/
def marksL : List UInt8 := [46, 47, 95, 45, 35, 63, 38, 58, 37]
def alB (c : UInt8) : Bool := (decide (97 ≤ (c.toNat : Int)) && decide ((c.toNat : Int) ≤ 122)) || (decide (65 ≤ (c.toNat : Int)) && decide ((c.toNat : Int) ≤ 90)) || (decide (48 ≤ (c.toNat : Int)) && decide ((c.toNat : Int) ≤ 57))
def dcB (c : UInt8) : Bool := alB c || marksL.any (fun b => decide (c = b))
def dsB (s : List UInt8) : Bool := s.all dcB && !s.isEmpty
end Go.Proofs.YtldllbmbcnipoaaDoor.Sp

namespace Go.Proofs.YtldllbmbcnipoaaDoor.Sp
open Go.RowKit
open Go.Proofs.YtldllbmbcnipoaaDoor.Tk (S S_of S_list S_size S_toList S_app ret_int eq8 ne8 at_data len_data)
open Go.Proofs.YtldllbmbcnipoaaDoor.Cm (calls_at)
set_option linter.unusedVariables false

def txB : List UInt8 → Bool
  | [] => true
  | [_] => true
  | a :: b :: r => !((decide (a = 10) && (spB b || decide (b = 10))) || (decide (b = 10) && spB a)) && txB (b :: r)
def ttB (s : List UInt8) : Bool := txB s && (!s.isEmpty && !hsB 13 s)
theorem txB_two (a b : UInt8) (r : List UInt8) : txB (a :: b :: r) = (!((decide (a = 10) && (spB b || decide (b = 10))) || (decide (b = 10) && spB a)) && txB (b :: r)) := by rw [txB]

end Go.Proofs.YtldllbmbcnipoaaDoor.Sp

namespace Go.Proofs.YtldllbmbcnipoaaDoor.Utf
open Go.RowKit

/-- The byte at a place (0 behind the end). -/
def bt (s : ByteArray) (k : Nat) : Nat := (s.data.toList.getD k 0).toNat
theorem bt_lt (s : ByteArray) (k : Nat) : bt s k < 256 := (s.data.toList.getD k 0).toNat_lt
theorem bt_eq (s : ByteArray) (k : Nat) (h : k < s.size) : bt s k = s[k].toNat := by
  have h' : k < s.data.toList.length := by simpa using h
  unfold bt
  rw [List.getD_eq_getElem?_getD, List.getElem?_eq_getElem h']
  rfl

/-- How many bytes a character has that begins with b; 0: none. -/
def ln (b : Nat) : Nat :=
  if b ≤ 127 then 1 else if 194 ≤ b ∧ b ≤ 223 then 2 else if 224 ≤ b ∧ b ≤ 239 then 3 else if 240 ≤ b ∧ b ≤ 244 then 4 else 0
/-- The bits that the first byte has of it. -/
def lc (b : Nat) : Nat :=
  if b ≤ 127 then b else if 194 ≤ b ∧ b ≤ 223 then b - 192 else if 224 ≤ b ∧ b ≤ 239 then b - 224 else if 240 ≤ b ∧ b ≤ 244 then b - 240 else 0
def moreB (b : Nat) : Bool := decide (128 ≤ b) && decide (b ≤ 191)
/-- The bits of the first byte and of j more. -/
def acc (f : Nat → Nat) : Nat → Nat
  | 0 => lc (f 0)
  | j + 1 => acc f j * 64 + (f (j + 1) - 128)
/-- Do j bytes behind the first go on? -/
def conts (f : Nat → Nat) : Nat → Bool
  | 0 => true
  | j + 1 => conts f j && moreB (f (j + 1))
def fitsI (c n : Int) : Bool :=
  if n = 3 then decide (2048 ≤ c) && (decide (c < 55296) || decide (57343 < c)) else if n = 4 then decide (65536 ≤ c) && decide (c ≤ 1114111) else true
def fitsB (c n : Nat) : Bool := fitsI c n
/-- The character of the bytes f, m of which there are; (0, 0): none. -/
def nx (f : Nat → Nat) (m : Nat) : Nat × Nat :=
  if m = 0 ∨ ln (f 0) = 0 ∨ m < ln (f 0) then (0, 0)
  else if conts f (ln (f 0) - 1) = true ∧ fitsB (acc f (ln (f 0) - 1)) (ln (f 0)) = true then (acc f (ln (f 0) - 1), ln (f 0)) else (0, 0)
def nxt (s : ByteArray) (k : Nat) : Nat × Nat := nx (fun i => bt s (k + i)) (s.size - k)
/-- At any int. -/
def nxtI (s : ByteArray) (k : Int) : Nat × Nat := if k < 0 then (0, 0) else nxt s k.toNat

theorem ln_le (b : Nat) : ln b ≤ 4 := by
  unfold ln; (repeat' split) <;> omega
theorem lc_ln (b : Nat) (hb : b < 256) : lc b * 1 < 128 ∧ (ln b = 2 → lc b < 32) ∧ (ln b = 3 → lc b < 16) ∧ (ln b = 4 → lc b < 8) := by
  unfold ln lc
  refine ⟨?_, ?_, ?_, ?_⟩
  all_goals (split <;> try omega)
  all_goals (split <;> try omega)
  all_goals (split <;> try omega)
  all_goals (split <;> try omega)
theorem conts_more (f : Nat → Nat) (j : Nat) (h : conts f (j + 1) = true) : conts f j = true ∧ 128 ≤ f (j + 1) ∧ f (j + 1) ≤ 191 := by
  rw [conts, moreB, Bool.and_eq_true, Bool.and_eq_true, decide_eq_true_eq, decide_eq_true_eq] at h
  exact h
theorem acc_zero (f : Nat → Nat) : acc f 0 = lc (f 0) := rfl
theorem acc_succ (f : Nat → Nat) (j : Nat) : acc f (j + 1) = acc f j * 64 + (f (j + 1) - 128) := rfl
theorem conts_succ (f : Nat → Nat) (j : Nat) : conts f (j + 1) = (conts f j && moreB (f (j + 1))) := rfl
theorem acc_step (a c p q x : Nat) (h : a < c * p) (hx : x ≤ 191) (e : q = p * 64) : a * 64 + (x - 128) < c * q := by
  subst e
  rw [← Nat.mul_assoc]
  generalize c * p = m at *
  omega
theorem acc_le (f : Nat → Nat) (j : Nat) (h : conts f j = true) : acc f j < (lc (f 0) + 1) * 64 ^ j := by
  induction j with
  | zero =>
    rw [acc_zero]
    omega
  | succ j ih =>
    obtain ⟨h1, h2, h3⟩ := conts_more f j h
    rw [acc_succ]
    exact acc_step _ _ _ _ _ (ih h1) h3 (Nat.pow_succ 64 j)
theorem acc_small (f : Nat → Nat) (j : Nat) (hb : f 0 < 256) (hj : j < ln (f 0)) (h : conts f j = true) : acc f j < 2097152 := by
  have h1 := acc_le f j h
  obtain ⟨a1, a2, a3, a4⟩ := lc_ln (f 0) hb
  have h4 := ln_le (f 0)
  generalize lc (f 0) = c at *
  generalize ln (f 0) = n at *
  generalize acc f j = a at *
  have e1 : (64 : Nat) ^ 1 = 64 := by decide
  have e2 : (64 : Nat) ^ 2 = 4096 := by decide
  have e3 : (64 : Nat) ^ 3 = 262144 := by decide
  have : j = 0 ∨ j = 1 ∨ j = 2 ∨ j = 3 := by omega
  rcases this with rfl | rfl | rfl | rfl
  · rw [Nat.pow_zero, Nat.mul_one] at h1; omega
  · rw [e1] at h1
    have : n = 2 ∨ n = 3 ∨ n = 4 := by omega
    rcases this with rfl | rfl | rfl
    · have := a2 rfl; omega
    · have := a3 rfl; omega
    · have := a4 rfl; omega
  · rw [e2] at h1
    have : n = 3 ∨ n = 4 := by omega
    rcases this with rfl | rfl
    · have := a3 rfl; omega
    · have := a4 rfl; omega
  · rw [e3] at h1
    have := a4 (by omega); omega
theorem conts_le (f : Nat → Nat) (i j : Nat) (h : conts f j = true) (hi : i ≤ j) : conts f i = true := by
  induction j with
  | zero => obtain rfl : i = 0 := by omega
            exact h
  | succ j ih =>
    by_cases e : i = j + 1
    · subst e; exact h
    · exact ih (conts_more f j h).1 (by omega)
theorem nx_none (f : Nat → Nat) (m : Nat) (h : m = 0 ∨ ln (f 0) = 0 ∨ m < ln (f 0)) : nx f m = (0, 0) := by
  unfold nx; rw [if_pos h]
theorem nx_bad (f : Nat → Nat) (m j : Nat) (hj : j + 1 < ln (f 0)) (h : f (j + 1) < 128 ∨ 191 < f (j + 1)) : nx f m = (0, 0) := by
  unfold nx
  split
  · rfl
  rw [if_neg]
  intro ⟨h1, _⟩
  have h2 := conts_more f j (conts_le f (j + 1) _ h1 (by omega))
  omega
theorem nx_unfit (f : Nat → Nat) (m : Nat) (h : fitsB (acc f (ln (f 0) - 1)) (ln (f 0)) = false) : nx f m = (0, 0) := by
  unfold nx
  split
  · rfl
  rw [if_neg]
  intro ⟨_, h1⟩
  rw [h] at h1; cases h1
theorem nx_yes (f : Nat → Nat) (m : Nat) (h0 : 0 < ln (f 0)) (hm : ln (f 0) ≤ m) (h1 : conts f (ln (f 0) - 1) = true) (h : fitsB (acc f (ln (f 0) - 1)) (ln (f 0)) = true) :
    nx f m = (acc f (ln (f 0) - 1), ln (f 0)) := by
  unfold nx
  rw [if_neg (by omega), if_pos ⟨h1, h⟩]
theorem or_step (a b : Nat) (ha : a < 2097152) (h1 : 128 ≤ b) (h2 : b ≤ 191) : bits BinOp.or IntKind.i32 (wrap32 ((a : Int) * 64)) ((b : Int) % 64) = ((a * 64 + (b - 128) : Nat) : Int) := by
  have e : wrap32 ((a : Int) * 64) = (a : Int) * 64 := by unfold wrap32; omega
  rw [e, i32_or6 ((a : Int) * 64) ((b : Int) % 64) (by omega) (by omega) (by omega) (by omega) (by omega)]
  omega
theorem nx_le (f : Nat → Nat) (m : Nat) : (nx f m).2 ≤ m ∧ (nx f m).2 ≤ 4 := by
  unfold nx
  have h4 := ln_le (f 0)
  split
  · exact ⟨Nat.zero_le _, Nat.zero_le _⟩
  · split
    · show ln _ ≤ _ ∧ ln _ ≤ _; omega
    · exact ⟨Nat.zero_le _, Nat.zero_le _⟩
theorem nx_lt (f : Nat → Nat) (m : Nat) (hb : f 0 < 256) : (nx f m).1 < 2097152 := by
  unfold nx
  split
  · decide
  · rename_i h0
    split
    · rename_i h
      exact acc_small f _ hb (by omega) h.1
    · decide
theorem nxt_le (t : ByteArray) (k : Nat) : (nxt t k).2 ≤ t.size - k := (nx_le _ _).1
theorem nxt_4 (t : ByteArray) (k : Nat) : (nxt t k).2 ≤ 4 := (nx_le _ _).2
theorem nxt_lt (t : ByteArray) (k : Nat) : (nxt t k).1 < 2097152 := nx_lt _ _ (bt_lt t k)
/-- Is the text from k on gone through, character by character? -/
def goes (t : ByteArray) : Nat → Nat → Bool
  | 0, k => decide (t.size ≤ k)
  | f + 1, k => if t.size ≤ k then true else if (nxt t k).2 = 0 then false else goes t f (k + (nxt t k).2)
theorem goes_fuel (t : ByteArray) (f g k : Nat) (hf : t.size - k ≤ f) (hg : t.size - k ≤ g) : goes t f k = goes t g k := by
  induction f generalizing g k with
  | zero =>
    have h : t.size ≤ k := by omega
    cases g with
    | zero => rfl
    | succ g => simp [goes, h]
  | succ f ih =>
    cases g with
    | zero =>
      have h : t.size ≤ k := by omega
      simp [goes, h]
    | succ g =>
      rw [goes, goes]
      split
      · rfl
      · split
        · rfl
        · exact ih g _ (by omega) (by omega)
def goesAt (t : ByteArray) (k : Nat) : Bool := goes t (t.size - k) k
theorem goesAt_end (t : ByteArray) (k : Nat) (h : t.size ≤ k) : goesAt t k = true := by
  unfold goesAt
  rw [show t.size - k = 0 by omega, goes]; exact decide_eq_true h
theorem goesAt_bad (t : ByteArray) (k : Nat) (h : k < t.size) (h0 : (nxt t k).2 = 0) : goesAt t k = false := by
  unfold goesAt
  obtain ⟨m, hm⟩ : ∃ m, t.size - k = m + 1 := ⟨t.size - k - 1, by omega⟩
  rw [hm, goes, if_neg (by omega), if_pos h0]
theorem goesAt_step (t : ByteArray) (k : Nat) (h : k < t.size) (h0 : (nxt t k).2 ≠ 0) : goesAt t (k + (nxt t k).2) = goesAt t k := by
  unfold goesAt
  obtain ⟨m, hm⟩ : ∃ m, t.size - k = m + 1 := ⟨t.size - k - 1, by omega⟩
  rw [hm, goes, if_neg (by omega), if_neg h0]
  exact goes_fuel t _ _ _ (by omega) (by omega)
def zeroB (t : ByteArray) : Bool := decide ((0 : UInt8) ∈ t.data.toList)
/-- The error's number. -/
def chk (t : ByteArray) : Int := if 1048576 < (t.size : Int) then 4 else if zeroB t = true then 3 else if goesAt t 0 = true then 0 else 2
end Go.Proofs.YtldllbmbcnipoaaDoor.Utf

namespace Go.Proofs.YtldllbmbcnipoaaDoor.Utf
open Go.RowKit
set_option linter.unusedVariables false
theorem ret_int {k : IntKind} {a b : Int} (h : a = b) : Ending.returned (.int k a) = .returned (.int k b) := by rw [h]
theorem ret_bool {a b : Bool} (h : a = b) : Ending.returned (.bool a) = .returned (.bool b) := by rw [h]
theorem ret_two {j k : IntKind} {a b c d : Int} (h : a = b) (g : c = d) : Ending.returned (.tuple #[.int j a, .int k c]) = .returned (.tuple #[.int j b, .int k d]) := by rw [h, g]

theorem fits_a (c n : Int) (h : (n == 3) = true) (h1 : 2048 ≤ c) : (decide (c < 55296) || decide (57343 < c)) = fitsI c n := by
  obtain rfl : n = 3 := by simpa using h
  unfold fitsI
  rw [if_pos rfl, decide_eq_true h1, Bool.true_and]
theorem fits_b (c n : Int) (h : (n == 3) = true) (h1 : 2048 ≤ c) (h2 : c < 55296) : true = fitsI c n := by
  rw [← fits_a c n h h1, decide_eq_true h2, Bool.true_or]
theorem fits_c (c n : Int) (h : (n == 3) = true) (h1 : c < 2048) : false = fitsI c n := by
  obtain rfl : n = 3 := by simpa using h
  unfold fitsI
  rw [if_pos rfl, decide_eq_false (by omega), Bool.false_and]
theorem fits_d (c n : Int) (h : (n == 4) = true) (h1 : 65536 ≤ c) : decide (c ≤ 1114111) = fitsI c n := by
  obtain rfl : n = 4 := by simpa using h
  unfold fitsI
  rw [if_neg (by decide), if_pos rfl, decide_eq_true h1, Bool.true_and]
theorem fits_e (c n : Int) (h : (n == 4) = true) (h1 : c < 65536) : false = fitsI c n := by
  obtain rfl : n = 4 := by simpa using h
  unfold fitsI
  rw [if_neg (by decide), if_pos rfl, decide_eq_false (by omega), Bool.false_and]
theorem fits_f (c n : Int) (h : (n == 3) = false) (h1 : (n == 4) = false) : true = fitsI c n := by
  unfold fitsI
  rw [if_neg (by simpa using h), if_neg (by simpa using h1)]
theorem val_int {k : IntKind} {a b : Int} (h : a = b) : Value.int k a = .int k b := by rw [h]
theorem acc_num (a x y : Nat) (e : y = x) (h1 : 128 ≤ x) (h2 : x ≤ 191) : (a : Int) * 64 + (x : Int) % 64 = ((a * 64 + (y - 128) : Nat) : Int) := by omega
theorem pair_none {p : Nat × Nat} (h : p = (0, 0)) : (0 : Int) = ((p.1 : Nat) : Int) ∧ (0 : Int) = ((p.2 : Nat) : Int) := by rw [h]; exact ⟨rfl, rfl⟩
theorem pair_yes {p : Nat × Nat} {a b c d : Nat} (h : p = (a, b)) (h1 : c = a) (h2 : d = b) : (c : Int) = ((p.1 : Nat) : Int) ∧ (d : Int) = ((p.2 : Nat) : Int) := by rw [h, h1, h2]; exact ⟨rfl, rfl⟩
theorem ret_pair {p : Nat × Nat} {a b : Int} (h : a = p.1 ∧ b = p.2) : Ending.returned (.tuple #[.int .i64 a, .int .i64 b]) = .returned (.tuple #[.int .i64 p.1, .int .i64 p.2]) := by rw [h.1, h.2]
theorem nxtI_out (s : ByteArray) (a : Int) (h : a < 0 ∨ s.size ≤ a) : nxtI s a = (0, 0) := by
  unfold nxtI
  split
  · rfl
  · unfold nxt; exact nx_none _ _ (Or.inl (by omega))
theorem nxtI_in (s : ByteArray) (k : Nat) : nxtI s k = nxt s k := by
  unfold nxtI
  rw [if_neg (by omega), Int.toNat_natCast]
end Go.Proofs.YtldllbmbcnipoaaDoor.Utf

namespace Go.Proofs.YtldllbmbcnipoaaDoor.Utf
open Go.RowKit
set_option linter.unusedVariables false

theorem acc_num' (a x y : Nat) (e : y = x) (h1 : 128 ≤ x) (h2 : x ≤ 191) : (a : Int) * 64 + (x : Int) - 128 = ((a * 64 + (y - 128) : Nat) : Int) := by omega
theorem fit2 (a : Int) : fitsI a ((2 : Nat) : Int) = true := by
  unfold fitsI; rw [if_neg (by decide), if_neg (by decide)]
theorem fit3_iff (a : Int) : fitsI a ((3 : Nat) : Int) = (decide (2048 ≤ a) && (decide (a < 55296) || decide (57343 < a))) := by
  unfold fitsI; rw [if_pos (by decide)]
theorem fit4_iff (a : Int) : fitsI a ((4 : Nat) : Int) = (decide (65536 ≤ a) && decide (a ≤ 1114111)) := by
  unfold fitsI; rw [if_neg (by decide), if_pos (by decide)]
theorem fit3 (a : Int) (h : fitsI a ((3 : Nat) : Int) = true) : (2048 ≤ a ∧ a < 55296) ∨ 57343 < a := by
  rw [fit3_iff, Bool.and_eq_true, Bool.or_eq_true, decide_eq_true_eq, decide_eq_true_eq, decide_eq_true_eq] at h; omega
theorem unfit3 (a : Int) (h : fitsI a ((3 : Nat) : Int) = false) : a < 2048 ∨ (55296 ≤ a ∧ a ≤ 57343) := by
  rw [fit3_iff, Bool.and_eq_false_iff, Bool.or_eq_false_iff, decide_eq_false_iff_not, decide_eq_false_iff_not, decide_eq_false_iff_not] at h; omega
theorem fit4 (a : Int) (h : fitsI a ((4 : Nat) : Int) = true) : 65536 ≤ a ∧ a ≤ 1114111 := by
  rw [fit4_iff, Bool.and_eq_true, decide_eq_true_eq, decide_eq_true_eq] at h; omega
theorem unfit4 (a : Int) (h : fitsI a ((4 : Nat) : Int) = false) : a < 65536 ∨ 1114111 < a := by
  rw [fit4_iff, Bool.and_eq_false_iff, decide_eq_false_iff_not, decide_eq_false_iff_not] at h; omega
end Go.Proofs.YtldllbmbcnipoaaDoor.Utf
