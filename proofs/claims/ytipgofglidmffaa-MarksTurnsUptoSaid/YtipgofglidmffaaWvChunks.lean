/-
  CONTRACT of the document's Chunks (emendationref05).
-/
import Derived.Test.YtipgofglidmffaaWvList
import Derived.Test.YtipgofglidmffaaWvMore
import Derived.Test.YtipgofglidmffaaCmKeep
import Derived.Outline
namespace Go.Proofs.Ytipgofglidmffaa.Wv
open Go.RowKit Go.Proofs.Ytipgofglidmffaa.Cm Go.Proofs.Ytipgofglidmffaa.Lc
set_option linter.unusedVariables false

/-- A place that is kept, as a number. -/
def kI (k : Nat → Option Nat) (i : Nat) : Int := match k i with | some j => j | none => -1
theorem kI_yes {k : Nat → Option Nat} {i j : Nat} (h : k i = some j) : kI k i = j := by unfold kI; rw [h]
theorem kI_eq {k : Nat → Option Nat} {i j : Nat} (h : k i = some j) : (kI k i == (j : Int)) = true := by rw [kI_yes h, beq_self_eq_true]
theorem kI_ne {k : Nat → Option Nat} {i j : Nat} (h : k i ≠ some j) : (kI k i == (j : Int)) = false := by
  rw [beq_eq_false_iff_ne]
  unfold kI
  cases hk : k i with
  | none => simp only; omega
  | some m => simp only; intro e; apply h; rw [hk]; congr 1; omega
theorem kI_neg {k : Nat → Option Nat} {i : Nat} (h : ¬ (k i).isSome = true) : kI k i = -1 := by
  unfold kI
  cases hk : k i with
  | none => rfl
  | some m => rw [hk] at h; exact absurd rfl h
theorem kI_pos {k : Nat → Option Nat} {i : Nat} (h : (k i).isSome = true) : 0 ≤ kI k i := by
  unfold kI
  cases hk : k i with
  | none => rw [hk] at h; cases h
  | some m => simp only; omega
theorem rn_go {k q : Nat → Option Nat} {L x y z : Nat} (hx : x < L) (h : k x = some y ∧ q x = some z) : rn k q (L - x) x y z = rn k q (L - (x + 1)) (x + 1) (y + 1) (z + 1) + 1 := by
  rw [show L - x = (L - (x + 1)) + 1 by omega]
  exact if_pos h
theorem rn_no {k q : Nat → Option Nat} {L x y z : Nat} (h : x < L → ¬ (k x = some y ∧ q x = some z)) : rn k q (L - x) x y z = 0 := by
  by_cases hx : x < L
  · rw [show L - x = (L - (x + 1)) + 1 by omega]
    exact if_neg (h hx)
  · rw [show L - x = 0 by omega]; rfl
theorem nx_go {k q : Nat → Option Nat} {L x : Nat} (hx : x < L) (h : ¬ ((k x).isSome = true ∧ (q x).isSome = true)) : nx k q (L - x) x = nx k q (L - (x + 1)) (x + 1) := by
  rw [show L - x = (L - (x + 1)) + 1 by omega]
  exact if_neg h
theorem nx_no {k q : Nat → Option Nat} {L x : Nat} (h : x < L → ((k x).isSome = true ∧ (q x).isSome = true)) : nx k q (L - x) x = x := by
  by_cases hx : x < L
  · rw [show L - x = (L - (x + 1)) + 1 by omega]
    exact if_pos (h hx)
  · rw [show L - x = 0 by omega]; rfl

/-- What is left of the chunks, with as much fuel as it wants. -/
def Left (B O T : List Int) (k q : Nat → Option Nat) (all o : List Ch) (x y z : Nat) : Prop :=
  Inv B O T k q x y z ∧ ∃ f, rest B O T x y z ≤ f ∧ all = o ++ ch B O T k q f x y z
/-- A chunk, behind which so much is left. -/
def Nxt (B O T : List Int) (k q : Nat → Option Nat) (all o : List Ch) (x y z : Nat) (c : Ch) : Prop :=
  c.b1 = x ∧ c.o1 = y ∧ c.t1 = z ∧ Left B O T k q all (o ++ [c]) c.b2 c.o2 c.t2 ∧ rest B O T c.b2 c.o2 c.t2 < rest B O T x y z ∧ Lies B O T c
theorem Left.run {B O T : List Int} {k q : Nat → Option Nat} {all o : List Ch} {x y z : Nat} (K : Keeps B O k) (Q : Keeps B T q) (h : Left B O T k q all o x y z) (hr : x < B.length ∨ y < O.length ∨ z < T.length) (h0 : runs B k q x y z ≠ 0) :
    Nxt B O T k q all o x y z ⟨x, x + runs B k q x y z, y, y + runs B k q x y z, z, z + runs B k q x y z, 1⟩ := by
  obtain ⟨I, f, hf, he⟩ := h
  have I2 := I.run K Q h0
  have b1 := I2.bx
  have b2 := I2.by'
  have b3 := I2.bz
  have hlt : rest B O T (x + runs B k q x y z) (y + runs B k q x y z) (z + runs B k q x y z) < rest B O T x y z := by unfold rest; omega
  obtain ⟨f', rfl⟩ : ∃ f', f = f' + 1 := ⟨f - 1, by omega⟩
  refine ⟨rfl, rfl, rfl, ⟨I2, f', by show rest B O T (x + runs B k q x y z) (y + runs B k q x y z) (z + runs B k q x y z) ≤ f'; omega, ?_⟩, hlt, ⟨by simp, b1, by simp, b2, by simp, b3, by simp, by simp⟩⟩
  rw [he, ch, if_pos hr, if_pos h0, List.append_assoc]
  rfl
theorem Left.gap {B O T : List Int} {k q : Nat → Option Nat} {all o : List Ch} {x y z : Nat} (K : Keeps B O k) (Q : Keeps B T q) (h : Left B O T k q all o x y z) (hr : x < B.length ∨ y < O.length ∨ z < T.length) (h0 : runs B k q x y z = 0) :
    Nxt B O T k q all o x y z ⟨x, next B k q x, y, nextO B O k (next B k q x), z, nextO B T q (next B k q x), outc (part B x (next B k q x)) (part O y (nextO B O k (next B k q x))) (part T z (nextO B T q (next B k q x)))⟩ := by
  obtain ⟨I, f, hf, he⟩ := h
  obtain ⟨I2, h1, h2, h3⟩ := I.gap K Q
  have hgo := gap_goes K Q I h0 hr
  have hpos := outc_pos (part B x (next B k q x)) (part O y (nextO B O k (next B k q x))) (part T z (nextO B T q (next B k q x)))
  have he' : ∀ f', f = f' + 1 → ch B O T k q f x y z = _ := fun f' e => by rw [e, ch, if_pos hr, if_neg (by omega)]
  generalize outc (part B x (next B k q x)) (part O y (nextO B O k (next B k q x))) (part T z (nextO B T q (next B k q x))) = oc at *
  generalize nextO B O k (next B k q x) = yy at *
  generalize nextO B T q (next B k q x) = zz at *
  generalize next B k q x = xx at *
  have b1 := I2.bx
  have b2 := I2.by'
  have b3 := I2.bz
  have hlt : rest B O T xx yy zz < rest B O T x y z := by unfold rest; omega
  refine ⟨rfl, rfl, rfl, ⟨I2, f - 1, by show rest B O T xx yy zz ≤ f - 1; omega, ?_⟩, hlt, ⟨h1, b1, h2, b2, h3, b3, by show 1 ≤ oc; omega, hpos.2⟩⟩
  rw [he, he' (f - 1) (by omega), List.append_assoc]
  rfl
theorem Left.done {B O T : List Int} {k q : Nat → Option Nat} {all o : List Ch} {x y z : Nat} (h : Left B O T k q all o x y z) (hr : ¬ (x < B.length ∨ y < O.length ∨ z < T.length)) : all = o := by
  obtain ⟨I, f, hf, he⟩ := h
  rw [he, ch_end _ _ _ _ hr, List.append_nil]
theorem Left.len {B O T : List Int} {k q : Nat → Option Nat} {all o : List Ch} {x y z : Nat} (h : Left B O T k q all o x y z) : o.length ≤ all.length := by
  obtain ⟨I, f, hf, he⟩ := h
  rw [he, List.length_append]; omega
theorem Left.start (B O T : List Int) : Left B O T (kp (pairs B O)) (kp (pairs B T)) (chunks B O T) [] 0 0 0 := ⟨Inv.start, _, Nat.le_refl _, rfl⟩

end Go.Proofs.Ytipgofglidmffaa.Wv
