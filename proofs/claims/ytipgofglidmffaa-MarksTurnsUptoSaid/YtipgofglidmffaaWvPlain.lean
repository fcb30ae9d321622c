/-
  THREE LISTS WOVEN, in plain words: chunks, and what comes of them, and what is true of them. No program.
-/
import Derived.Test.YtipgofglidmffaaLcPlain
namespace Go.Proofs.Ytipgofglidmffaa.Wv
open Go.Proofs.Ytipgofglidmffaa.Lc
set_option linter.unusedVariables false

/-- Where a place of the base is kept, by pairs. -/
def kp (l : List (Nat × Nat)) (i : Nat) : Option Nat := (l.find? (fun p => p.1 == i)).map Prod.snd
structure Keeps (B O : List Int) (k : Nat → Option Nat) : Prop where
  ok : ∀ i j, k i = some j → i < B.length ∧ j < O.length ∧ B[i]? = O[j]?
  up : ∀ i i' j j', i < i' → k i = some j → k i' = some j' → j < j'
theorem kp_mem {l : List (Nat × Nat)} {i j : Nat} (h : kp l i = some j) : (i, j) ∈ l := by
  unfold kp at h
  cases hf : l.find? (fun p => p.1 == i) with
  | none => rw [hf] at h; simp at h
  | some p =>
    rw [hf] at h
    simp at h
    have h1 := List.find?_some hf
    have h2 := List.mem_of_find?_eq_some hf
    simp at h1
    rw [← h1, ← h]
    exact h2
theorem pw_mem {l : List (Nat × Nat)} (h : l.Pairwise (fun p q => p.1 < q.1 ∧ p.2 < q.2)) {p q : Nat × Nat} (hp : p ∈ l) (hq : q ∈ l) (hlt : p.1 < q.1) : p.2 < q.2 := by
  induction l with
  | nil => cases hp
  | cons a l ih =>
    obtain ⟨h1, h2⟩ := List.pairwise_cons.1 h
    rcases List.mem_cons.1 hp with rfl | hp'
    · rcases List.mem_cons.1 hq with rfl | hq'
      · omega
      · exact (h1 q hq').2
    · rcases List.mem_cons.1 hq with rfl | hq'
      · have := (h1 p hp').1; omega
      · exact ih h2 hp' hq'
theorem keeps_pairs (B O : List Int) : Keeps B O (kp (pairs B O)) where
  ok i j h := by
    obtain ⟨h1, h2, h3⟩ := pairs_ok B O (i, j) (kp_mem h)
    exact ⟨h1, h2, by rw [List.getElem?_eq_getElem h1, List.getElem?_eq_getElem h2, h3]⟩
  up i i' j j' hlt h h' := pw_mem (pairs_rise B O) (kp_mem h) (kp_mem h') hlt

structure Ch where
  b1 : Nat
  b2 : Nat
  o1 : Nat
  o2 : Nat
  t1 : Nat
  t2 : Nat
  out : Nat
deriving DecidableEq
def part (l : List Int) (a b : Nat) : List Int := (l.drop a).take (b - a)
theorem part_next (l : List Int) {a b : Nat} (h : a ≤ b) : part l a b ++ l.drop b = l.drop a := by
  unfold part
  conv => rhs; rw [← List.take_append_drop (b - a) (l.drop a)]
  rw [List.drop_drop, show a + (b - a) = b by omega]
theorem part_getElem? (l : List Int) (a b m : Nat) (h : m < b - a) : (part l a b)[m]? = l[a + m]? := by
  unfold part
  rw [List.getElem?_take_of_lt h, List.getElem?_drop]
theorem part_len (l : List Int) {a b : Nat} (hb : b ≤ l.length) : (part l a b).length = b - a := by
  unfold part
  rw [List.length_take, List.length_drop]
  omega
def outc (b o t : List Int) : Nat := if o = t then 4 else if o = b then 3 else if t = b then 2 else 5
theorem outc_pos (b o t : List Int) : 2 ≤ outc b o t ∧ outc b o t ≤ 5 := by unfold outc; repeat' split
                                                                            all_goals omega

/-- How many places are stable, side by side. -/
def rn (k q : Nat → Option Nat) : Nat → Nat → Nat → Nat → Nat
  | 0, _, _, _ => 0
  | f + 1, x, y, z => if k x = some y ∧ q x = some z then rn k q f (x + 1) (y + 1) (z + 1) + 1 else 0
/-- The next place that both sides keep. -/
def nx (k q : Nat → Option Nat) : Nat → Nat → Nat
  | 0, x => x
  | f + 1, x => if (k x).isSome = true ∧ (q x).isSome = true then x else nx k q f (x + 1)
theorem rn_le (k q : Nat → Option Nat) : ∀ f x y z, rn k q f x y z ≤ f
  | 0, _, _, _ => Nat.le_refl _
  | f + 1, x, y, z => by
    unfold rn
    split
    · have := rn_le k q f (x + 1) (y + 1) (z + 1); omega
    · omega
theorem rn_all (k q : Nat → Option Nat) : ∀ f x y z m, m < rn k q f x y z → k (x + m) = some (y + m) ∧ q (x + m) = some (z + m)
  | 0, _, _, _, m, h => absurd h (Nat.not_lt_zero _)
  | f + 1, x, y, z, m, h => by
    unfold rn at h
    split at h
    · rename_i hh
      cases m with
      | zero => exact hh
      | succ m =>
        have := rn_all k q f (x + 1) (y + 1) (z + 1) m (by omega)
        rw [show x + (m + 1) = x + 1 + m by omega, show y + (m + 1) = y + 1 + m by omega, show z + (m + 1) = z + 1 + m by omega]
        exact this
    · omega
theorem rn_stop (k q : Nat → Option Nat) : ∀ f x y z, rn k q f x y z < f → ¬ (k (x + rn k q f x y z) = some (y + rn k q f x y z) ∧ q (x + rn k q f x y z) = some (z + rn k q f x y z))
  | 0, _, _, _, h => absurd h (Nat.not_lt_zero _)
  | f + 1, x, y, z, h => by
    by_cases hh : k x = some y ∧ q x = some z
    · have e : rn k q (f + 1) x y z = rn k q f (x + 1) (y + 1) (z + 1) + 1 := if_pos hh
      rw [e] at h ⊢
      have := rn_stop k q f (x + 1) (y + 1) (z + 1) (by omega)
      rw [show x + (rn k q f (x + 1) (y + 1) (z + 1) + 1) = x + 1 + rn k q f (x + 1) (y + 1) (z + 1) by omega, show y + (rn k q f (x + 1) (y + 1) (z + 1) + 1) = y + 1 + rn k q f (x + 1) (y + 1) (z + 1) by omega, show z + (rn k q f (x + 1) (y + 1) (z + 1) + 1) = z + 1 + rn k q f (x + 1) (y + 1) (z + 1) by omega]
      exact this
    · have e : rn k q (f + 1) x y z = 0 := if_neg hh
      rw [e]
      exact hh
theorem nx_ge (k q : Nat → Option Nat) : ∀ f x, x ≤ nx k q f x ∧ nx k q f x ≤ x + f
  | 0, x => ⟨Nat.le_refl _, Nat.le_refl _⟩
  | f + 1, x => by
    unfold nx
    split
    · omega
    · have := nx_ge k q f (x + 1); omega
theorem nx_found (k q : Nat → Option Nat) : ∀ f x, nx k q f x < x + f → (k (nx k q f x)).isSome = true ∧ (q (nx k q f x)).isSome = true
  | 0, x, h => by unfold nx at h; omega
  | f + 1, x, h => by
    by_cases hh : (k x).isSome = true ∧ (q x).isSome = true
    · rw [show nx k q (f + 1) x = x from if_pos hh]; exact hh
    · have e : nx k q (f + 1) x = nx k q f (x + 1) := if_neg hh
      rw [e] at h ⊢
      exact nx_found k q f (x + 1) (by omega)
theorem nx_none (k q : Nat → Option Nat) : ∀ f x i, x ≤ i → i < nx k q f x → ¬ ((k i).isSome = true ∧ (q i).isSome = true)
  | 0, x, i, h1, h2 => by unfold nx at h2; omega
  | f + 1, x, i, h1, h2 => by
    by_cases hh : (k x).isSome = true ∧ (q x).isSome = true
    · rw [show nx k q (f + 1) x = x from if_pos hh] at h2; omega
    · by_cases e : i = x
      · rw [e]; exact hh
      · rw [show nx k q (f + 1) x = nx k q f (x + 1) from if_neg hh] at h2
        exact nx_none k q f (x + 1) i (by omega) h2

section
variable (B O T : List Int) (k q : Nat → Option Nat)
def rest (x y z : Nat) : Nat := (B.length - x) + (O.length - y) + (T.length - z)
def runs (x y z : Nat) : Nat := rn k q (B.length - x) x y z
def next (x : Nat) : Nat := nx k q (B.length - x) x
def nextO (i : Nat) : Nat := if i < B.length then (k i).getD 0 else O.length
/-- The chunks, from three places on. -/
def ch : Nat → Nat → Nat → Nat → List Ch
  | 0, _, _, _ => []
  | f + 1, x, y, z =>
    if x < B.length ∨ y < O.length ∨ z < T.length then
      if runs B k q x y z ≠ 0 then
        ⟨x, x + runs B k q x y z, y, y + runs B k q x y z, z, z + runs B k q x y z, 1⟩ :: ch f (x + runs B k q x y z) (y + runs B k q x y z) (z + runs B k q x y z)
      else
        ⟨x, next B k q x, y, nextO B O k (next B k q x), z, nextO B T q (next B k q x), outc (part B x (next B k q x)) (part O y (nextO B O k (next B k q x))) (part T z (nextO B T q (next B k q x)))⟩ ::
          ch f (next B k q x) (nextO B O k (next B k q x)) (nextO B T q (next B k q x))
    else []
structure Inv (x y z : Nat) : Prop where
  bx : x ≤ B.length
  by' : y ≤ O.length
  bz : z ≤ T.length
  ko : ∀ i j, x ≤ i → k i = some j → y ≤ j
  kt : ∀ i j, x ≤ i → q i = some j → z ≤ j
variable {B O T k q}
theorem Inv.start : Inv B O T k q 0 0 0 := ⟨Nat.zero_le _, Nat.zero_le _, Nat.zero_le _, fun _ _ _ _ => Nat.zero_le _, fun _ _ _ _ => Nat.zero_le _⟩
theorem Inv.run (K : Keeps B O k) (Q : Keeps B T q) {x y z : Nat} (I : Inv B O T k q x y z) (h : runs B k q x y z ≠ 0) :
    Inv B O T k q (x + runs B k q x y z) (y + runs B k q x y z) (z + runs B k q x y z) := by
  have hall := rn_all k q (B.length - x) x y z
  have hl := rn_le k q (B.length - x) x y z
  change ∀ m, m < runs B k q x y z → _ at hall
  change runs B k q x y z ≤ _ at hl
  generalize runs B k q x y z = n at *
  have hla := hall (n - 1) (by omega)
  have k1 := K.ok _ _ hla.1
  have k2 := Q.ok _ _ hla.2
  refine ⟨by omega, by omega, by omega, fun i j hi hj => ?_, fun i j hi hj => ?_⟩
  · have := K.up _ _ _ _ (show x + (n - 1) < i by omega) hla.1 hj; omega
  · have := Q.up _ _ _ _ (show x + (n - 1) < i by omega) hla.2 hj; omega
theorem next_le {x : Nat} (h : x ≤ B.length) : x ≤ next B k q x ∧ next B k q x ≤ B.length := by
  have := nx_ge k q (B.length - x) x
  unfold next
  omega
theorem next_some {x : Nat} (h : next B k q x < B.length) (hx : x ≤ B.length) : k (next B k q x) = some (nextO B O k (next B k q x)) ∧ q (next B k q x) = some (nextO B T q (next B k q x)) := by
  have hf : (k (next B k q x)).isSome = true ∧ (q (next B k q x)).isSome = true := nx_found k q (B.length - x) x (by unfold next at h; omega)
  unfold nextO
  rw [if_pos h, if_pos h]
  generalize next B k q x = i at *
  obtain ⟨h1, h2⟩ := hf
  exact ⟨by cases hk : k i with | none => rw [hk] at h1; cases h1 | some j => rfl, by cases hk : q i with | none => rw [hk] at h2; cases h2 | some j => rfl⟩
theorem Inv.gap (K : Keeps B O k) (Q : Keeps B T q) {x y z : Nat} (I : Inv B O T k q x y z) :
    Inv B O T k q (next B k q x) (nextO B O k (next B k q x)) (nextO B T q (next B k q x)) ∧ x ≤ next B k q x ∧ y ≤ nextO B O k (next B k q x) ∧ z ≤ nextO B T q (next B k q x) := by
  have hn := next_le (k := k) (q := q) I.bx
  by_cases h : next B k q x < B.length
  · obtain ⟨h1, h2⟩ := next_some (O := O) (T := T) h I.bx
    have k1 := K.ok _ _ h1
    have k2 := Q.ok _ _ h2
    refine ⟨⟨hn.2, by omega, by omega, fun i j hi hj => ?_, fun i j hi hj => ?_⟩, hn.1, I.ko _ _ hn.1 h1, I.kt _ _ hn.1 h2⟩
    · rcases Nat.lt_or_ge (next B k q x) i with hlt | hge
      · exact Nat.le_of_lt (K.up _ _ _ _ hlt h1 hj)
      · obtain rfl : i = next B k q x := by omega
        rw [h1] at hj; cases hj; exact Nat.le_refl _
    · rcases Nat.lt_or_ge (next B k q x) i with hlt | hge
      · exact Nat.le_of_lt (Q.up _ _ _ _ hlt h2 hj)
      · obtain rfl : i = next B k q x := by omega
        rw [h2] at hj; cases hj; exact Nat.le_refl _
  · have e : next B k q x = B.length := by omega
    have e1 : nextO B O k (next B k q x) = O.length := by unfold nextO; rw [if_neg h]
    have e2 : nextO B T q (next B k q x) = T.length := by unfold nextO; rw [if_neg h]
    rw [e1, e2, e]
    refine ⟨⟨Nat.le_refl _, Nat.le_refl _, Nat.le_refl _, fun i j hi hj => ?_, fun i j hi hj => ?_⟩, by omega, I.by', I.bz⟩
    · have := (K.ok _ _ hj).1; omega
    · have := (Q.ok _ _ hj).1; omega
theorem gap_goes (K : Keeps B O k) (Q : Keeps B T q) {x y z : Nat} (I : Inv B O T k q x y z) (h0 : runs B k q x y z = 0) (hr : x < B.length ∨ y < O.length ∨ z < T.length) :
    x + y + z < next B k q x + nextO B O k (next B k q x) + nextO B T q (next B k q x) := by
  obtain ⟨I', h1, h2, h3⟩ := I.gap K Q
  rcases Nat.lt_or_ge (x + y + z) (next B k q x + nextO B O k (next B k q x) + nextO B T q (next B k q x)) with h | h
  · exact h
  exfalso
  have e1 : next B k q x = x := by omega
  have e2 : nextO B O k (next B k q x) = y := by omega
  have e3 : nextO B T q (next B k q x) = z := by omega
  by_cases hx : next B k q x < B.length
  · obtain ⟨s1, s2⟩ := next_some (O := O) (T := T) hx I.bx
    rw [e2, e1] at s1
    rw [e3, e1] at s2
    have : ¬ (k (x + runs B k q x y z) = some (y + runs B k q x y z) ∧ q (x + runs B k q x y z) = some (z + runs B k q x y z)) := rn_stop k q (B.length - x) x y z (by show runs B k q x y z < _; omega)
    rw [h0] at this
    exact this ⟨s1, s2⟩
  · unfold nextO at e2 e3
    rw [if_neg hx] at e2 e3
    have := next_le (k := k) (q := q) I.bx
    omega
/-- A step: the first chunk, and what it is. -/
theorem ch_step (K : Keeps B O k) (Q : Keeps B T q) {x y z : Nat} (I : Inv B O T k q x y z) (f : Nat) (hr : x < B.length ∨ y < O.length ∨ z < T.length) :
    ∃ x' y' z' o, ch B O T k q (f + 1) x y z = ⟨x, x', y, y', z, z', o⟩ :: ch B O T k q f x' y' z' ∧ Inv B O T k q x' y' z' ∧ x ≤ x' ∧ y ≤ y' ∧ z ≤ z' ∧ x + y + z < x' + y' + z' ∧
      ((o = 1 ∧ ∃ n, n ≠ 0 ∧ n = runs B k q x y z ∧ x' = x + n ∧ y' = y + n ∧ z' = z + n ∧ (∀ m, m < n → k (x + m) = some (y + m) ∧ q (x + m) = some (z + m)) ∧ (x' < B.length → ¬ (k x' = some y' ∧ q x' = some z'))) ∨
       (o = outc (part B x x') (part O y y') (part T z z') ∧ runs B k q x y z = 0 ∧ (x' < B.length ∧ k x' = some y' ∧ q x' = some z' ∨ x' = B.length ∧ y' = O.length ∧ z' = T.length))) := by
  by_cases h0 : runs B k q x y z ≠ 0
  · refine ⟨_, _, _, _, by rw [ch, if_pos hr, if_pos h0], I.run K Q h0, by omega, by omega, by omega, by omega, Or.inl ⟨rfl, runs B k q x y z, h0, rfl, rfl, rfl, rfl, fun m hm => rn_all k q (B.length - x) x y z m hm, fun hx => ?_⟩⟩
    exact rn_stop k q (B.length - x) x y z (by show runs B k q x y z < _; omega)
  · have h0' : runs B k q x y z = 0 := by omega
    obtain ⟨I', h1, h2, h3⟩ := I.gap K Q
    refine ⟨_, _, _, _, by rw [ch, if_pos hr, if_neg h0], I', h1, h2, h3, gap_goes K Q I h0' hr, Or.inr ⟨rfl, h0', ?_⟩⟩
    by_cases hx : next B k q x < B.length
    · exact Or.inl ⟨hx, next_some hx I.bx⟩
    · exact Or.inr ⟨by have := next_le (k := k) (q := q) I.bx; omega, by unfold nextO; rw [if_neg hx], by unfold nextO; rw [if_neg hx]⟩
theorem ch_end (f x y z : Nat) (h : ¬ (x < B.length ∨ y < O.length ∨ z < T.length)) : ch B O T k q f x y z = [] := by
  cases f with
  | zero => rfl
  | succ f => rw [ch, if_neg h]
end

/-- The chunks of three lists. -/
def chunks (B O T : List Int) : List Ch := ch B O T (kp (pairs B O)) (kp (pairs B T)) (rest B O T 0 0 0) 0 0 0
def cleanB (l : List Ch) : Bool := l.all fun c => c.out != 5
def mg (O T : List Int) (l : List Ch) : List Int := l.flatMap fun c => if c.out = 1 ∨ c.out = 3 then part T c.t1 c.t2 else part O c.o1 c.o2
def merge (B O T : List Int) : List Int × Bool := if cleanB (chunks B O T) then (mg O T (chunks B O T), true) else ([], false)

end Go.Proofs.Ytipgofglidmffaa.Wv
