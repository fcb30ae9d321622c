/-
  CONTRACTS of firstColumn, Length and Dice (package lcs).
-/
import Derived.Test.YtbfclmhcoelplaaLpPlaces
import Derived.Test.YtbfclmhcoelplaaLpEnds
namespace Go.Proofs.Ytbfclmhcoelplaa.Lp
open Go.RowKit Go.Proofs.Ytbfclmhcoelplaa.Cm Go.Proofs.Ytbfclmhcoelplaa.Lc Go.Proofs.Ytbfclmhcoelplaa.Lcx
set_option linter.unusedVariables false

/-- The column at place j of b is at hand; 'were' is some memory of the call's own. -/
structure Fc (w0 : World) (a b : List Int) (Mb H2 H3 C B : Nat) (vc vw : Value) (j : Nat) (X : Nat → Nat) (t : Nat) (wr : World) : Prop where
  col : Col wr C vc ((a.length + 63) / 64) B X t
  is : IsCol a b j X
  pls : Pls wr Mb w0.heap.size H2 a
  bel : Below w0.heap.size w0 wr
  ord : w0.heap.size ≤ H2 ∧ H2 ≤ C ∧ C < H3 ∧ H2 ≤ B ∧ B < H3 ∧ B ≠ C ∧ H3 ≤ wr.heap.size
  row : ∃ xs : List (Nat × Nat), xs.length ≤ 100000 ∧ wr.ownsRow 0 89 2 vw xs.length (xs.flatMap encW) ∧ ∀ g, vw.ownBlock = some g → H3 ≤ g
theorem chg_take (X M : Nat → Nat) (W : Nat) (hW : W ≤ 100000) : ([] ++ chg X M W : List (Nat × Nat)).length ≤ 100000 := by
  have := chg_len X M W
  simp; omega

/-! ### Plain: what is alike at both ends can be had in any case -/
theorem lcs_head : ∀ (p x y : List Int), lcs (p ++ x) (p ++ y) = p.length + lcs x y
  | [], x, y => by simp
  | z :: p, x, y => by
    rw [List.cons_append, List.cons_append, lcs_yes rfl, lcs_head p x y, List.length_cons]; omega
theorem lcs_tail (p x y : List Int) : lcs (x ++ p) (y ++ p) = lcs x y + p.length := by
  rw [← lcs_rev, List.reverse_append, List.reverse_append, lcs_head, lcs_rev, List.length_reverse]; omega
/-- The part between the ends. -/
def mdl (a : List Int) (h t : Nat) : List Int := (a.drop h).take (a.length - t - h)
theorem ends_le (a b : List Int) : hd a b ≤ a.length ∧ hd a b ≤ b.length ∧ hd a b + tl a b ≤ a.length ∧ hd a b + tl a b ≤ b.length := by
  have := hd_le a b
  unfold tl
  omega
theorem take_eq {a b : List Int} {h : Nat} (h1 : h ≤ a.length) (h2 : h ≤ b.length) (hs : ∀ k, k < h → a[k]? = b[k]?) : a.take h = b.take h := by
  apply List.ext_getElem?
  intro k
  by_cases hk : k < h
  · rw [List.getElem?_take_of_lt hk, List.getElem?_take_of_lt hk, hs k hk]
  · rw [List.getElem?_eq_none (by rw [List.length_take]; omega), List.getElem?_eq_none (by rw [List.length_take]; omega)]
theorem tail_eq (a b : List Int) : a.drop (a.length - tl a b) = b.drop (b.length - tl a b) := by
  have hl := hd_le a.reverse b.reverse
  have h1 : tl a b ≤ hd a.reverse b.reverse := by unfold tl; omega
  have := take_eq (a := a.reverse) (b := b.reverse) (h := tl a b) (by omega) (by omega) (fun k hk => hd_same _ _ k (by omega))
  have h2 := congrArg List.reverse this
  rw [List.reverse_take, List.reverse_take, List.reverse_reverse, List.reverse_reverse, List.length_reverse, List.length_reverse] at h2
  exact h2
theorem parts (a : List Int) (h t : Nat) (hh : h + t ≤ a.length) : a = a.take h ++ (mdl a h t ++ a.drop (a.length - t)) := by
  unfold mdl
  have e1 : a.drop (a.length - t) = (a.drop h).drop (a.length - t - h) := by rw [List.drop_drop]; congr 1; omega
  rw [e1, List.take_append_drop, List.take_append_drop]
theorem ends_lcs (a b : List Int) : lcs a b = hd a b + lcs (mdl a (hd a b) (tl a b)) (mdl b (hd a b) (tl a b)) + tl a b := by
  obtain ⟨h1, h2, h3, h4⟩ := ends_le a b
  have ht := take_eq h1 h2 (hd_same a b)
  have hd' := tail_eq a b
  have e : lcs a b = lcs (a.take (hd a b) ++ (mdl a (hd a b) (tl a b) ++ a.drop (a.length - tl a b))) (b.take (hd a b) ++ (mdl b (hd a b) (tl a b) ++ b.drop (b.length - tl a b))) := congr (congrArg lcs (parts a _ _ h3)) (parts b _ _ h4)
  rw [e, ht, lcs_head, hd', lcs_tail, List.length_take, List.length_drop]
  omega
theorem mdl_len {a : List Int} {h t : Nat} (hh : h + t ≤ a.length) : (mdl a h t).length = a.length - t - h := by
  unfold mdl; rw [List.length_take, List.length_drop]; omega

theorem dice_eq (a b : List Int) : ((dice a b : Nat) : Int) = if a.length + b.length = 0 then 1000 else ((2 * (lcs a b : Int)) * 1000) / ((a.length + b.length : Nat) : Int) := by
  unfold dice
  by_cases h : a.length + b.length = 0
  · rw [if_pos h, if_pos h]; rfl
  · rw [if_neg h, if_neg h, Int.natCast_ediv]
    congr 1
    omega
end Go.Proofs.Ytbfclmhcoelplaa.Lp
