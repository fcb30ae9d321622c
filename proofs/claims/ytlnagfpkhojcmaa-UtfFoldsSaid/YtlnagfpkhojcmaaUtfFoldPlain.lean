/-
  PLAIN: a text by which labels are compared.
-/
import Derived.Test.YtlnagfpkhojcmaaUtfClass
namespace Go.Proofs.Ytlnagfpkhojcmaa.Utf
open Go.RowKit
set_option linter.unusedVariables false

/-- A byte more: (is a gap open?, what is written). -/
def step (s : Bool × List UInt8) (b : UInt8) : Bool × List UInt8 :=
  if gapB b then (true, s.2) else (false, (if s.1 && !s.2.isEmpty then s.2 ++ [32] else s.2) ++ [lowB b])
def st (l : List UInt8) : Bool × List UInt8 := l.foldl step (false, [])
def fold (l : List UInt8) : List UInt8 := (st l).2
theorem st_snoc (l : List UInt8) (b : UInt8) : st (l ++ [b]) = step (st l) b := by unfold st; rw [List.foldl_append]; rfl
theorem take_snoc (s : ByteArray) (k : Nat) (h : k < s.size) : s.data.toList.take (k + 1) = s.data.toList.take k ++ [s[k]] := by
  rw [List.take_succ_eq_append_getElem (by simpa using h)]; rfl
theorem mid_isEmpty (l m : List UInt8) (x : UInt8) : (l ++ x :: m).isEmpty = false := by cases l <;> rfl
/-- What is written of l, with a gap open or not, with anything written ahead or not. -/
def F : Bool → Bool → List UInt8 → List UInt8
  | _, _, [] => []
  | g, ne, b :: l => if gapB b then F true ne l else (if g && ne then [32] else []) ++ (lowB b :: F false true l)
def Gf : Bool → List UInt8 → Bool
  | g, [] => g
  | g, b :: l => if gapB b then Gf true l else Gf false l
theorem st_eq (l : List UInt8) (g : Bool) (acc : List UInt8) : l.foldl step (g, acc) = (Gf g l, acc ++ F g (!acc.isEmpty) l) := by
  induction l generalizing g acc with
  | nil => simp [Gf, F]
  | cons b l ih =>
    rw [List.foldl_cons]
    by_cases h : gapB b = true
    · have e : step (g, acc) b = (true, acc) := by unfold step; rw [if_pos h]
      rw [e, ih]
      simp [Gf, F, h]
    · have e : step (g, acc) b = (false, (if g && !acc.isEmpty then acc ++ [32] else acc) ++ [lowB b]) := by unfold step; rw [if_neg h]
      rw [e, ih]
      have h2 : gapB b = false := by simpa using h
      simp only [Gf, F, h2]
      cases hg : (g && !acc.isEmpty) <;> simp [mid_isEmpty]
theorem fold_eq (l : List UInt8) : fold l = F false false l := by
  unfold fold st; rw [st_eq]; rfl
theorem F_len (l : List UInt8) (g ne : Bool) : (F g ne l).length ≤ 2 * l.length := by
  induction l generalizing g ne with
  | nil => exact Nat.le_refl _
  | cons b l ih =>
    by_cases h : gapB b = true
    · simp only [F, h, if_true]; have := ih true ne; simp; omega
    · have h2 : gapB b = false := by simpa using h
      have := ih false true
      simp only [F, h2]
      cases hg : (g && ne) <;> simp <;> omega
theorem st_len (l : List UInt8) : (st l).2.length ≤ 2 * l.length := by
  have := F_len l false false
  rw [← fold_eq] at this
  exact this
theorem F_append (a b : List UInt8) (g ne : Bool) : F g ne (a ++ b) = F g ne a ++ F (Gf g a) (ne || !(F g ne a).isEmpty) b := by
  induction a generalizing g ne with
  | nil => simp [F, Gf]
  | cons x a ih =>
    by_cases h : gapB x = true
    · simp [F, Gf, h, ih]
    · have h2 : gapB x = false := by simpa using h
      simp [F, Gf, h2, ih, mid_isEmpty]
theorem low_nogap (b : UInt8) (h : gapB b = false) : gapB (lowB b) = false := by
  have h1 := gap_no b h
  have h2 := lowB_nat b
  unfold gapB
  simp only [Bool.or_eq_false_iff, beq_eq_false_iff_ne]
  split at h2 <;> omega
theorem low_low (b : UInt8) : lowB (lowB b) = lowB b := by
  apply UInt8.toNat_inj.1
  have h1 := lowB_nat (lowB b)
  have h2 := lowB_nat b
  split at h2
  · rw [if_neg (by omega)] at h1; exact h1
  · rw [if_neg (by omega)] at h1; exact h1
theorem gap32 : gapB 32 = true := by decide
theorem F_again (l : List UInt8) (g ne : Bool) : F false ne (F g ne l) = F g ne l := by
  induction l generalizing g ne with
  | nil => rfl
  | cons b l ih =>
    by_cases h : gapB b = true
    · simp only [F, h, if_true]; exact ih true ne
    · have h2 : gapB b = false := by simpa using h
      simp only [F, h2]
      cases hg : (g && ne) with
      | true =>
        have hne : ne = true := by cases ne <;> simp_all
        subst hne
        simp [F, gap32, low_nogap b h2, low_low, ih]
      | false => simp [F, low_nogap b h2, low_low, ih]
theorem fold_fold (l : List UInt8) : fold (fold l) = fold l := by rw [fold_eq, fold_eq]; exact F_again l false false
theorem F_gap (l : List UInt8) (g : Bool) : F g false l = F false false l := by
  induction l generalizing g with
  | nil => rfl
  | cons b l ih => simp [F]
theorem F_open (l : List UInt8) : F true true l = if (F false false l).isEmpty then [] else 32 :: F false false l := by
  induction l with
  | nil => rfl
  | cons b l ih =>
    by_cases h : gapB b = true
    · simp only [F, h, if_true]; rw [ih, F_gap l true]
    · have h2 : gapB b = false := by simpa using h
      simp [F, h2]
/-- Two texts with a gap of one byte or two between them. -/
theorem fold_join (a b gs : List UInt8) (hg : ∀ g, F g true gs = [] ∧ F g false gs = [] ∧ Gf g gs = true) :
    fold (a ++ gs ++ b) = if (fold a).isEmpty then fold b else if (fold b).isEmpty then fold a else fold a ++ 32 :: fold b := by
  rw [fold_eq, fold_eq, fold_eq, List.append_assoc, F_append, F_append]
  obtain ⟨h1, h2, h3⟩ := hg (Gf false a)
  rw [h3]
  cases ha : (F false false a).isEmpty with
  | true =>
    have ha' : F false false a = [] := by simpa using ha
    simp [ha', h2, F_gap]
  | false =>
    simp only [Bool.false_or, Bool.not_false, h1, List.nil_append, List.isEmpty_nil, Bool.not_true, Bool.or_false]
    rw [F_open]
    cases hb : (F false false b).isEmpty with
    | true => simp
    | false => simp
theorem fold_join2 (a b : List UInt8) : fold (a ++ [32, 10] ++ b) = if (fold a).isEmpty then fold b else if (fold b).isEmpty then fold a else fold a ++ 32 :: fold b :=
  fold_join a b [32, 10] (fun g => by cases g <;> decide)
theorem fold_join1 (a b : List UInt8) : fold (a ++ [9] ++ b) = if (fold a).isEmpty then fold b else if (fold b).isEmpty then fold a else fold a ++ 32 :: fold b :=
  fold_join a b [9] (fun g => by cases g <;> decide)
end Go.Proofs.Ytlnagfpkhojcmaa.Utf
