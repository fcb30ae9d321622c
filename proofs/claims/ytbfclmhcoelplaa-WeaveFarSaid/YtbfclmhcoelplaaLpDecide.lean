/-
  PLAIN: what spares (in common, package lcs) tells: whether the document's walk drops a number of the first list.
-/
import Derived.Test.YtbfclmhcoelplaaLpCounts
import Derived.Test.YtbfclmhcoelplaaLpLength
namespace Go.Proofs.Ytbfclmhcoelplaa.Lp
open Go.RowKit Go.Proofs.Ytbfclmhcoelplaa.Cm Go.Proofs.Ytbfclmhcoelplaa.Lc Go.Proofs.Ytbfclmhcoelplaa.Lcx
set_option linter.unusedVariables false

theorem mdl_size {a : List Int} {h t : Nat} (hl : h + t ≤ a.length) : (mdl a h t).length = a.length - t - h := by
  unfold mdl
  rw [List.length_take, List.length_drop]
  omega
theorem mdl_drop {a : List Int} {h t i : Nat} (hl : h + t ≤ a.length) (hi : h ≤ i) (hi2 : i ≤ a.length - t) : a.drop i = (mdl a h t).drop (i - h) ++ a.drop (a.length - t) := by
  have e1 : (mdl a h t).drop (i - h) = (a.drop i).take (a.length - t - i) := by
    unfold mdl
    rw [List.drop_take, List.drop_drop]
    congr 1
    · omega
    · congr 1; omega
  have e2 : a.drop (a.length - t) = (a.drop i).drop (a.length - t - i) := by
    rw [List.drop_drop]; congr 1; omega
  rw [e1, e2, List.take_append_drop]
theorem tb_mdl (a b : List Int) {i j : Nat} (hi : hd a b ≤ i) (hi2 : i ≤ a.length - tl a b) (hj : hd a b ≤ j) (hj2 : j ≤ b.length - tl a b) :
    tb a b i j = tb (mdl a (hd a b) (tl a b)) (mdl b (hd a b) (tl a b)) (i - hd a b) (j - hd a b) + tl a b := by
  obtain ⟨h1, h2, h3, h4⟩ := ends_le a b
  unfold tb
  rw [mdl_drop h3 hi hi2, mdl_drop h4 hj hj2, ← tail_eq a b, lcs_tail, List.length_drop]
  omega
theorem mdl_at {a : List Int} {h t i : Nat} (hl : h + t ≤ a.length) (hi : h ≤ i) (hi2 : i < a.length - t) (hm : i - h < (mdl a h t).length) : (mdl a h t)[i - h] = a[i]'(by omega) := by
  have e : (mdl a h t)[i - h]? = a[i]? := by
    unfold mdl
    rw [List.getElem?_take_of_lt (by omega), List.getElem?_drop]
    congr 1
    omega
  rw [List.getElem?_eq_getElem hm, List.getElem?_eq_getElem (by omega)] at e
  exact Option.some.inj e
theorem tb_step (a b : List Int) (i j : Nat) : tb a b i j ≤ tb a b (i + 1) j + 1 := by
  by_cases hi : i < a.length
  · unfold tb
    rw [List.drop_eq_getElem_cons hi, ← lcs_rev, List.reverse_cons]
    have := lcs_more (a.drop (i + 1)).reverse (b.drop j).reverse a[i]
    rw [lcs_rev (a.drop (i + 1))] at this
    exact this
  · rw [tb_end a b i j (by omega)]; omega
theorem last_eq (a b : List Int) {n : Nat} (hn : n ≤ tl a b) : a.drop (a.length - n) = b.drop (b.length - n) := by
  obtain ⟨h1, h2, h3, h4⟩ := ends_le a b
  have e := congrArg (List.drop (tl a b - n)) (tail_eq a b)
  rw [List.drop_drop, List.drop_drop] at e
  rw [show a.length - n = a.length - tl a b + (tl a b - n) by omega, show b.length - n = b.length - tl a b + (tl a b - n) by omega]
  exact e
/-- What spares tells. -/
def sp (a b : List Int) (i j : Nat) : Bool :=
  if i < a.length - tl a b ∧ j < b.length - tl a b then !(Dt (mdl a (hd a b) (tl a b)) (mdl b (hd a b) (tl a b)) (i - hd a b) (j - hd a b)) else decide (b.length - j < a.length - i)
theorem sp_iff {a b : List Int} {i j : Nat} (hi : i < a.length) (hj : j < b.length) (hhi : hd a b ≤ i) (hhj : hd a b ≤ j) (hne : a[i] ≠ b[j]) : sp a b i j = true ↔ tb a b i (j + 1) ≤ tb a b (i + 1) j := by
  obtain ⟨h1, h2, h3, h4⟩ := ends_le a b
  unfold sp
  by_cases hc : i < a.length - tl a b ∧ j < b.length - tl a b
  · rw [if_pos hc]
    obtain ⟨c1, c2⟩ := hc
    have l1 := mdl_size h3
    have l2 := mdl_size h4
    have m1 : i - hd a b < (mdl a (hd a b) (tl a b)).length := by omega
    have m2 : j - hd a b < (mdl b (hd a b) (tl a b)).length := by omega
    have hne' : (mdl a (hd a b) (tl a b))[i - hd a b] ≠ (mdl b (hd a b) (tl a b))[j - hd a b] := by rw [mdl_at h3 hhi c1 m1, mdl_at h4 hhj c2 m2]; exact hne
    have t1 := tb_no m1 m2 hne'
    have t2 := tb_step (mdl a (hd a b) (tl a b)) (mdl b (hd a b) (tl a b)) (i - hd a b) (j - hd a b)
    have e1 := tb_mdl a b (i := i) (j := j + 1) hhi (by omega) (by omega) (by omega)
    have e2 := tb_mdl a b (i := i + 1) (j := j) (by omega) (by omega) hhj (by omega)
    rw [show j + 1 - hd a b = j - hd a b + 1 by omega] at e1
    rw [show i + 1 - hd a b = i - hd a b + 1 by omega] at e2
    rw [e1, e2]
    unfold Dt
    simp only [Bool.not_eq_true', decide_eq_false_iff_not]
    omega
  · rw [if_neg hc, decide_eq_true_iff]
    have hmin : b.length - j ≤ tl a b ∨ a.length - i ≤ tl a b := by omega
    by_cases hlt : b.length - j < a.length - i
    · refine ⟨fun _ => ?_, fun _ => hlt⟩
      have e := last_eq a b (n := b.length - j) (by omega)
      rw [show b.length - (b.length - j) = j by omega] at e
      have k1 : tb a b (i + 1) j = b.length - j := by
        unfold tb
        rw [show a.drop (i + 1) = (a.drop (i + 1)).take (a.length - (b.length - j) - (i + 1)) ++ b.drop j by
          rw [← e, show a.drop (a.length - (b.length - j)) = (a.drop (i + 1)).drop (a.length - (b.length - j) - (i + 1)) by rw [List.drop_drop]; congr 1; omega, List.take_append_drop]]
        have := lcs_tail (b.drop j) ((a.drop (i + 1)).take (a.length - (b.length - j) - (i + 1))) []
        rw [List.nil_append, lcs_nil2, List.length_drop] at this
        omega
      have k2 : tb a b i (j + 1) ≤ b.length - (j + 1) := by unfold tb; have := lcs_le_right (a.drop i) (b.drop (j + 1)); rwa [List.length_drop] at this
      omega
    · refine ⟨fun h => absurd h hlt, fun h => ?_⟩
      exfalso
      have e := last_eq a b (n := a.length - i) (by omega)
      rw [show a.length - (a.length - i) = i by omega] at e
      by_cases heq : a.length - i = b.length - j
      · rw [heq, show b.length - (b.length - j) = j by omega, List.drop_eq_getElem_cons hi, List.drop_eq_getElem_cons hj] at e
        exact hne (List.cons.inj e).1
      · have k1 : tb a b i (j + 1) = a.length - i := by
          unfold tb
          rw [show b.drop (j + 1) = (b.drop (j + 1)).take (b.length - (a.length - i) - (j + 1)) ++ a.drop i by
            rw [e, show b.drop (b.length - (a.length - i)) = (b.drop (j + 1)).drop (b.length - (a.length - i) - (j + 1)) by rw [List.drop_drop]; congr 1; omega, List.take_append_drop]]
          have := lcs_tail (a.drop i) [] ((b.drop (j + 1)).take (b.length - (a.length - i) - (j + 1)))
          rw [List.nil_append, lcs_nil, List.length_drop] at this
          omega
        have k2 := tb_le a b (i + 1) j
        omega
end Go.Proofs.Ytbfclmhcoelplaa.Lp
