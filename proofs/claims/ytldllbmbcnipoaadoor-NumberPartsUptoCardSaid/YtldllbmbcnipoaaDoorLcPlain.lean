/-
  WHAT TWO LISTS HAVE IN COMMON, in plain words: the most, the places, how alike they are, and what is true of them. No program.
-/
import Derived.Lib.Hide
namespace Go.Proofs.YtldllbmbcnipoaaDoor.Lc
set_option linter.unusedVariables false

/-- The most that two lists can have in common. -/
def lcs : List Int → List Int → Nat
  | [], _ => 0
  | _ :: _, [] => 0
  | x :: a, y :: b => if x = y then lcs a b + 1 else max (lcs a (y :: b)) (lcs (x :: a) b)
termination_by a b => a.length + b.length
theorem lcs_nil (b : List Int) : lcs [] b = 0 := by unfold lcs; rfl
theorem lcs_nil2 (a : List Int) : lcs a [] = 0 := by cases a <;> (unfold lcs; rfl)
theorem lcs_yes {x y : Int} (h : x = y) (a b : List Int) : lcs (x :: a) (y :: b) = lcs a b + 1 := by rw [lcs, if_pos h]
theorem lcs_no {x y : Int} (h : x ≠ y) (a b : List Int) : lcs (x :: a) (y :: b) = max (lcs a (y :: b)) (lcs (x :: a) b) := by rw [lcs, if_neg h]
/-- Some choice has that much. -/
theorem lcs_has : ∀ (n : Nat) (a b : List Int), a.length + b.length ≤ n → ∃ s, List.Sublist s a ∧ List.Sublist s b ∧ s.length = lcs a b
  | _, [], b, _ => ⟨[], List.Sublist.refl _, List.nil_sublist _, (lcs_nil b).symm⟩
  | _, x :: a, [], _ => ⟨[], List.nil_sublist _, List.Sublist.refl _, (lcs_nil2 _).symm⟩
  | 0, x :: a, y :: b, h => by simp at h
  | n + 1, x :: a, y :: b, h => by
    simp only [List.length_cons] at h
    by_cases e : x = y
    · subst e
      obtain ⟨s, h1, h2, h3⟩ := lcs_has n a b (by omega)
      exact ⟨x :: s, h1.cons_cons x, h2.cons_cons x, by rw [lcs_yes rfl, List.length_cons, h3]⟩
    · rw [lcs_no e]
      by_cases hm : lcs (x :: a) b ≤ lcs a (y :: b)
      · obtain ⟨s, h1, h2, h3⟩ := lcs_has n a (y :: b) (by simp; omega)
        exact ⟨s, h1.cons x, h2, by omega⟩
      · obtain ⟨s, h1, h2, h3⟩ := lcs_has n (x :: a) b (by simp; omega)
        exact ⟨s, h1, h2.cons y, by omega⟩
/-- No choice has more. -/
theorem lcs_most : ∀ (n : Nat) (a b s : List Int), a.length + b.length ≤ n → List.Sublist s a → List.Sublist s b → s.length ≤ lcs a b
  | _, [], b, s, _, h1, _ => by rw [List.sublist_nil.1 h1]; exact Nat.zero_le _
  | _, x :: a, [], s, _, _, h2 => by rw [List.sublist_nil.1 h2]; exact Nat.zero_le _
  | 0, x :: a, y :: b, s, h, _, _ => by simp at h
  | n + 1, x :: a, y :: b, s, h, h1, h2 => by
    simp only [List.length_cons] at h
    cases s with
    | nil => exact Nat.zero_le _
    | cons z s =>
      by_cases e : x = y
      · subst e
        rw [lcs_yes rfl, List.length_cons]
        have k1 : List.Sublist s a := by
          cases h1 with
          | cons _ h => exact (List.sublist_cons_self z s).trans h
          | cons_cons _ h => exact h
        have k2 : List.Sublist s b := by
          cases h2 with
          | cons _ h => exact (List.sublist_cons_self z s).trans h
          | cons_cons _ h => exact h
        have := lcs_most n a b s (by omega) k1 k2
        omega
      · rw [lcs_no e]
        cases h1 with
        | cons _ k1 =>
          have := lcs_most n a (y :: b) (z :: s) (by simp; omega) k1 h2
          omega
        | cons_cons _ k1 =>
          cases h2 with
          | cons _ k2 =>
            have := lcs_most n (x :: a) b (x :: s) (by simp; omega) (k1.cons_cons x) k2
            omega
          | cons_cons _ k2 => exact absurd rfl e
theorem has (a b : List Int) : ∃ s, List.Sublist s a ∧ List.Sublist s b ∧ s.length = lcs a b := lcs_has _ a b (Nat.le_refl _)
theorem most {a b s : List Int} (h1 : List.Sublist s a) (h2 : List.Sublist s b) : s.length ≤ lcs a b := lcs_most _ a b s (Nat.le_refl _) h1 h2
theorem lcs_comm (a b : List Int) : lcs a b = lcs b a := by
  obtain ⟨s, h1, h2, h3⟩ := has a b
  obtain ⟨t, k1, k2, k3⟩ := has b a
  have := most h2 h1
  have := most k2 k1
  omega
theorem lcs_rev (a b : List Int) : lcs a.reverse b.reverse = lcs a b := by
  obtain ⟨s, h1, h2, h3⟩ := has a b
  obtain ⟨t, k1, k2, k3⟩ := has a.reverse b.reverse
  have l1 := most h1.reverse h2.reverse
  have l2 := most (a := a) (b := b) (by simpa using k1.reverse) (by simpa using k2.reverse)
  rw [List.length_reverse] at l1 l2
  omega
theorem lcs_mono {a a' b b' : List Int} (h : List.Sublist a a') (k : List.Sublist b b') : lcs a b ≤ lcs a' b' := by
  obtain ⟨s, h1, h2, h3⟩ := has a b
  have := most (h1.trans h) (h2.trans k)
  omega
theorem lcs_le_left (a b : List Int) : lcs a b ≤ a.length := by
  obtain ⟨s, h1, h2, h3⟩ := has a b
  have := h1.length_le
  omega
theorem lcs_le_right (a b : List Int) : lcs a b ≤ b.length := by rw [lcs_comm]; exact lcs_le_left b a
theorem lcs_sub {a b : List Int} (h : List.Sublist a b) : lcs a b = a.length :=
  Nat.le_antisymm (lcs_le_left a b) (most (List.Sublist.refl a) h)
theorem lcs_self (a : List Int) : lcs a a = a.length := lcs_sub (List.Sublist.refl a)
theorem lcs_more (a b : List Int) (x : Int) : lcs (a ++ [x]) b ≤ lcs a b + 1 := by
  obtain ⟨s, h1, h2, h3⟩ := has (a ++ [x]) b
  obtain ⟨s1, s2, rfl, k1, k2⟩ := List.sublist_append_iff.1 h1
  have l1 := most k1 ((List.sublist_append_left s1 s2).trans h2)
  have l2 := k2.length_le
  rw [List.length_append] at h3
  simp at l2
  omega
theorem lcs_both (a b : List Int) (x : Int) : lcs (a ++ [x]) (b ++ [x]) = lcs a b + 1 := by
  rw [← lcs_rev (a ++ [x]), List.reverse_append, List.reverse_append]
  show lcs (x :: a.reverse) (x :: b.reverse) = _
  rw [lcs_yes rfl, lcs_rev]
theorem lcs_part (a b : List Int) (i j : Nat) : lcs ((a.drop i).take j) b ≤ lcs a b :=
  lcs_mono ((List.take_sublist _ _).trans (List.drop_sublist _ _)) (List.Sublist.refl b)
theorem lcs_apart {a b : List Int} (h : ∀ x ∈ a, x ∉ b) : lcs a b = 0 := by
  obtain ⟨s, h1, h2, h3⟩ := has a b
  cases s with
  | nil => exact h3.symm
  | cons x s => exact absurd (h2.subset (List.mem_cons_self ..)) (h x (h1.subset (List.mem_cons_self ..)))
theorem filter_split (p : Int → Bool) : ∀ a : List Int, (a.filter p).length + (a.filter (fun x => !p x)).length = a.length
  | [] => rfl
  | x :: a => by
    have := filter_split p a
    cases h : p x <;> simp [h] <;> omega
theorem lcs_bound (a b : List Int) : lcs a b + (a.filter (fun x => !b.contains x)).length ≤ a.length := by
  obtain ⟨s, h1, h2, h3⟩ := has a b
  have hs : s.filter (fun x => b.contains x) = s := List.filter_eq_self.2 (fun x hx => by simpa using h2.subset hx)
  have h4 := (h1.filter (fun x => b.contains x)).length_le
  rw [hs] at h4
  have := filter_split (fun x => b.contains x) a
  omega

/-! The table, place by place. -/
def tb (a b : List Int) (i k : Nat) : Nat := lcs (a.drop i) (b.drop k)
theorem tb_end (a b : List Int) (i k : Nat) (h : a.length ≤ i) : tb a b i k = 0 := by unfold tb; rw [List.drop_eq_nil_of_le h, lcs_nil]
theorem tb_end2 (a b : List Int) (i k : Nat) (h : b.length ≤ k) : tb a b i k = 0 := by unfold tb; rw [List.drop_eq_nil_of_le h, lcs_nil2]
theorem tb_yes {a b : List Int} {i k : Nat} (hi : i < a.length) (hk : k < b.length) (h : a[i] = b[k]) : tb a b i k = tb a b (i + 1) (k + 1) + 1 := by
  unfold tb; rw [List.drop_eq_getElem_cons hi, List.drop_eq_getElem_cons hk, lcs_yes h]
theorem tb_no {a b : List Int} {i k : Nat} (hi : i < a.length) (hk : k < b.length) (h : a[i] ≠ b[k]) : tb a b i k = max (tb a b (i + 1) k) (tb a b i (k + 1)) := by
  unfold tb; rw [List.drop_eq_getElem_cons hi, List.drop_eq_getElem_cons hk, lcs_no h]
theorem tb_zero (a b : List Int) : tb a b 0 0 = lcs a b := by unfold tb; rw [List.drop_zero, List.drop_zero]
theorem tb_le (a b : List Int) (i k : Nat) : tb a b i k ≤ a.length - i := by unfold tb; have := lcs_le_left (a.drop i) (b.drop k); rwa [List.length_drop] at this

/-! The places. -/
def pp : Nat → Nat → List Int → List Int → List (Nat × Nat)
  | _, _, [], _ => []
  | _, _, _ :: _, [] => []
  | i, k, x :: a, y :: b =>
    if x = y then (i, k) :: pp (i + 1) (k + 1) a b
    else if lcs (x :: a) b ≤ lcs a (y :: b) then pp (i + 1) k a (y :: b) else pp i (k + 1) (x :: a) b
termination_by _ _ a b => a.length + b.length
def pairs (a b : List Int) : List (Nat × Nat) := pp 0 0 a b
theorem pp_nil (i k : Nat) (b : List Int) : pp i k [] b = [] := by unfold pp; rfl
theorem pp_nil2 (i k : Nat) (a : List Int) : pp i k a [] = [] := by cases a <;> (unfold pp; rfl)
theorem pp_yes {x y : Int} (h : x = y) (i k : Nat) (a b : List Int) : pp i k (x :: a) (y :: b) = (i, k) :: pp (i + 1) (k + 1) a b := by rw [pp, if_pos h]
theorem pp_left {x y : Int} (h : x ≠ y) (i k : Nat) (a b : List Int) (hl : lcs (x :: a) b ≤ lcs a (y :: b)) : pp i k (x :: a) (y :: b) = pp (i + 1) k a (y :: b) := by rw [pp, if_neg h, if_pos hl]
theorem pp_right {x y : Int} (h : x ≠ y) (i k : Nat) (a b : List Int) (hl : ¬ lcs (x :: a) b ≤ lcs a (y :: b)) : pp i k (x :: a) (y :: b) = pp i (k + 1) (x :: a) b := by rw [pp, if_neg h, if_neg hl]
theorem pp_len : ∀ (n i k : Nat) (a b : List Int), a.length + b.length ≤ n → (pp i k a b).length = lcs a b
  | _, i, k, [], b, _ => by rw [pp_nil, lcs_nil]; rfl
  | _, i, k, x :: a, [], _ => by rw [pp_nil2, lcs_nil2]; rfl
  | 0, i, k, x :: a, y :: b, h => by simp at h
  | n + 1, i, k, x :: a, y :: b, h => by
    simp only [List.length_cons] at h
    by_cases e : x = y
    · rw [pp_yes e, lcs_yes e, List.length_cons, pp_len n _ _ a b (by omega)]
    · rw [lcs_no e]
      by_cases hl : lcs (x :: a) b ≤ lcs a (y :: b)
      · rw [pp_left e _ _ _ _ hl, pp_len n _ _ a (y :: b) (by simp; omega)]; omega
      · rw [pp_right e _ _ _ _ hl, pp_len n _ _ (x :: a) b (by simp; omega)]; omega
theorem pairs_len (a b : List Int) : (pairs a b).length = lcs a b := pp_len _ 0 0 a b (Nat.le_refl _)
/-- From a place of both on: a step. -/
theorem pp_at_yes {a b : List Int} {i k : Nat} (hi : i < a.length) (hk : k < b.length) (h : a[i] = b[k]) : pp i k (a.drop i) (b.drop k) = (i, k) :: pp (i + 1) (k + 1) (a.drop (i + 1)) (b.drop (k + 1)) := by
  rw [List.drop_eq_getElem_cons hi, List.drop_eq_getElem_cons hk, pp_yes h]
theorem pp_at_left {a b : List Int} {i k : Nat} (hi : i < a.length) (hk : k < b.length) (h : a[i] ≠ b[k]) (hl : tb a b i (k + 1) ≤ tb a b (i + 1) k) : pp i k (a.drop i) (b.drop k) = pp (i + 1) k (a.drop (i + 1)) (b.drop k) := by
  unfold tb at hl
  rw [List.drop_eq_getElem_cons hi, List.drop_eq_getElem_cons hk] at hl ⊢
  exact pp_left h _ _ _ _ hl
theorem pp_at_right {a b : List Int} {i k : Nat} (hi : i < a.length) (hk : k < b.length) (h : a[i] ≠ b[k]) (hl : ¬ tb a b i (k + 1) ≤ tb a b (i + 1) k) : pp i k (a.drop i) (b.drop k) = pp i (k + 1) (a.drop i) (b.drop (k + 1)) := by
  unfold tb at hl
  rw [List.drop_eq_getElem_cons hi, List.drop_eq_getElem_cons hk] at hl ⊢
  exact pp_right h _ _ _ _ hl
theorem pp_end {a b : List Int} {i k : Nat} (h : a.length ≤ i ∨ b.length ≤ k) : pp i k (a.drop i) (b.drop k) = [] := by
  rcases h with h | h
  · rw [List.drop_eq_nil_of_le h, pp_nil]
  · rw [List.drop_eq_nil_of_le h, pp_nil2]
/-- The places lie in both lists, the same numbers stand there, and they rise. -/
theorem pp_ok (A B : List Int) : ∀ (n i k : Nat), (A.drop i).length + (B.drop k).length ≤ n → ∀ p ∈ pp i k (A.drop i) (B.drop k), i ≤ p.1 ∧ k ≤ p.2 ∧ ∃ (h1 : p.1 < A.length) (h2 : p.2 < B.length), A[p.1] = B[p.2]
  | n, i, k, hn, p, hp => by
    by_cases hi : i < A.length
    · by_cases hk : k < B.length
      · have hl1 : (A.drop i).length = A.length - i := List.length_drop
        have hl2 : (B.drop k).length = B.length - k := List.length_drop
        have hl3 : (A.drop (i + 1)).length = A.length - (i + 1) := List.length_drop
        have hl4 : (B.drop (k + 1)).length = B.length - (k + 1) := List.length_drop
        match n, hn with
        | 0, hn => omega
        | n + 1, hn =>
          by_cases e : A[i] = B[k]
          · rw [pp_at_yes hi hk e] at hp
            rcases List.mem_cons.1 hp with rfl | hp
            · exact ⟨Nat.le_refl _, Nat.le_refl _, hi, hk, e⟩
            · obtain ⟨h1, h2, h3⟩ := pp_ok A B n (i + 1) (k + 1) (by omega) p hp
              exact ⟨by omega, by omega, h3⟩
          · by_cases hl : tb A B i (k + 1) ≤ tb A B (i + 1) k
            · rw [pp_at_left hi hk e hl] at hp
              obtain ⟨h1, h2, h3⟩ := pp_ok A B n (i + 1) k (by omega) p hp
              exact ⟨by omega, by omega, h3⟩
            · rw [pp_at_right hi hk e hl] at hp
              obtain ⟨h1, h2, h3⟩ := pp_ok A B n i (k + 1) (by omega) p hp
              exact ⟨by omega, by omega, h3⟩
      · rw [pp_end (Or.inr (by omega))] at hp; cases hp
    · rw [pp_end (Or.inl (by omega))] at hp; cases hp
theorem pp_rise (A B : List Int) : ∀ (n i k : Nat), (A.drop i).length + (B.drop k).length ≤ n → (pp i k (A.drop i) (B.drop k)).Pairwise (fun p q => p.1 < q.1 ∧ p.2 < q.2)
  | n, i, k, hn => by
    by_cases hi : i < A.length
    · by_cases hk : k < B.length
      · have hl1 : (A.drop i).length = A.length - i := List.length_drop
        have hl2 : (B.drop k).length = B.length - k := List.length_drop
        have hl3 : (A.drop (i + 1)).length = A.length - (i + 1) := List.length_drop
        have hl4 : (B.drop (k + 1)).length = B.length - (k + 1) := List.length_drop
        match n, hn with
        | 0, hn => omega
        | n + 1, hn =>
          by_cases e : A[i] = B[k]
          · rw [pp_at_yes hi hk e]
            refine List.pairwise_cons.2 ⟨fun q hq => ?_, pp_rise A B n (i + 1) (k + 1) (by omega)⟩
            obtain ⟨h1, h2, _⟩ := pp_ok A B n (i + 1) (k + 1) (by omega) q hq
            exact ⟨by show i < q.1; omega, by show k < q.2; omega⟩
          · by_cases hl : tb A B i (k + 1) ≤ tb A B (i + 1) k
            · rw [pp_at_left hi hk e hl]; exact pp_rise A B n (i + 1) k (by omega)
            · rw [pp_at_right hi hk e hl]; exact pp_rise A B n i (k + 1) (by omega)
      · rw [pp_end (Or.inr (by omega))]; exact List.Pairwise.nil
    · rw [pp_end (Or.inl (by omega))]; exact List.Pairwise.nil
theorem pairs_ok (a b : List Int) : ∀ p ∈ pairs a b, ∃ (h1 : p.1 < a.length) (h2 : p.2 < b.length), a[p.1] = b[p.2] := by
  intro p hp
  have := pp_ok a b _ 0 0 (Nat.le_refl _) p (by rw [List.drop_zero, List.drop_zero]; exact hp)
  exact this.2.2
theorem pairs_rise (a b : List Int) : (pairs a b).Pairwise (fun p q => p.1 < q.1 ∧ p.2 < q.2) := by
  have := pp_rise a b _ 0 0 (Nat.le_refl _)
  rw [List.drop_zero, List.drop_zero] at this
  exact this
theorem pp_self (A : List Int) : ∀ (n i : Nat), A.length - i ≤ n → pp i i (A.drop i) (A.drop i) = (List.range' i (A.length - i)).map (fun j => (j, j))
  | 0, i, h => by
    rw [pp_end (Or.inl (by omega)), show A.length - i = 0 by omega]; rfl
  | n + 1, i, h => by
    by_cases hi : i < A.length
    · rw [pp_at_yes hi hi rfl, pp_self A n (i + 1) (by omega), show A.length - i = (A.length - (i + 1)) + 1 by omega, List.range'_succ]
      rfl
    · rw [pp_end (Or.inl (by omega)), show A.length - i = 0 by omega]; rfl
theorem pairs_self (a : List Int) : pairs a a = (List.range a.length).map (fun j => (j, j)) := by
  have := pp_self a _ 0 (Nat.le_refl _)
  rw [List.drop_zero, Nat.sub_zero] at this
  rw [List.range_eq_range']
  exact this

/-! How alike, in thousandths. -/
def dice (a b : List Int) : Nat := if a.length + b.length = 0 then 1000 else 2000 * lcs a b / (a.length + b.length)
theorem dice_self (a : List Int) : dice a a = 1000 := by
  unfold dice
  rw [lcs_self]
  split
  · rfl
  · exact Nat.div_eq_of_eq_mul_left (by omega) (by omega)
theorem dice_sub {a b : List Int} (h : List.Sublist a b) : dice a b = 1000 ↔ b.length = a.length := by
  have hl := h.length_le
  unfold dice
  rw [lcs_sub h]
  split
  · simp; omega
  · rename_i h0
    constructor
    · intro he
      rcases Nat.lt_or_ge a.length b.length with hlt | hge
      · exfalso
        have := Nat.div_lt_of_lt_mul (show 2000 * a.length < (a.length + b.length) * 1000 by omega)
        omega
      · omega
    · intro he
      rw [he]
      exact Nat.div_eq_of_eq_mul_left (by omega) (by omega)
theorem dice_zero {a b : List Int} (h : lcs a b = 0) (h0 : a.length + b.length ≠ 0) : dice a b = 0 := by
  unfold dice
  rw [if_neg h0, h]
  simp

/-! Greedy: is a list found in another one? -/
/-- Where the next number stands, from a place on; one past it. -/
def seek (b : List Int) (x : Int) : Option (List Int) := match b with
  | [] => none
  | y :: b => if y = x then some b else seek b x
def fits : List Int → List Int → Bool
  | [], _ => true
  | x :: s, b => match seek b x with
    | none => false
    | some b' => fits s b'
theorem seek_some : ∀ (b : List Int) (x : Int) (b' : List Int), seek b x = some b' → List.Sublist (x :: b') b
  | [], x, b', h => by simp [seek] at h
  | y :: b, x, b', h => by
    unfold seek at h
    split at h
    · rename_i e
      cases h
      rw [e]
      exact List.Sublist.refl _
    · exact (seek_some b x b' h).cons y
theorem seek_best : ∀ (b : List Int) (x : Int) (s : List Int), List.Sublist (x :: s) b → ∃ b', seek b x = some b' ∧ List.Sublist s b'
  | [], x, s, h => by simp at h
  | y :: b, x, s, h => by
    unfold seek
    by_cases e : y = x
    · rw [if_pos e]
      refine ⟨b, rfl, ?_⟩
      cases h with
      | cons _ h => exact (List.sublist_cons_self x s).trans h
      | cons_cons _ h => exact h
    · rw [if_neg e]
      cases h with
      | cons _ h => exact seek_best b x s h
      | cons_cons _ h => exact absurd rfl e
theorem fits_iff : ∀ (s b : List Int), fits s b = true ↔ List.Sublist s b
  | [], b => ⟨fun _ => List.nil_sublist _, fun _ => rfl⟩
  | x :: s, b => by
    unfold fits
    constructor
    · intro h
      cases hs : seek b x with
      | none => rw [hs] at h; cases h
      | some b' =>
        rw [hs] at h
        exact (((fits_iff s b').1 h).cons_cons x).trans (seek_some b x b' hs)
    · intro h
      obtain ⟨b', h1, h2⟩ := seek_best b x s h
      rw [h1]
      exact (fits_iff s b').2 h2

/-! All choices of some places, by numbers. -/
def choose : List Int → Nat → List Int
  | [], _ => []
  | x :: a, w => if w % 2 = 1 then x :: choose a (w / 2) else choose a (w / 2)
theorem choose_sub : ∀ (a : List Int) (w : Nat), List.Sublist (choose a w) a
  | [], w => List.Sublist.refl _
  | x :: a, w => by
    unfold choose
    split
    · exact (choose_sub a _).cons_cons x
    · exact (choose_sub a _).cons x
theorem choose_all : ∀ (a s : List Int), List.Sublist s a → ∃ w, w < 2 ^ a.length ∧ choose a w = s
  | [], s, h => ⟨0, by simp, by rw [List.sublist_nil.1 h]; rfl⟩
  | x :: a, s, h => by
    rw [List.length_cons, Nat.pow_succ]
    cases h with
    | cons _ h =>
      obtain ⟨w, h1, h2⟩ := choose_all a s h
      refine ⟨2 * w, by omega, ?_⟩
      unfold choose
      rw [if_neg (by omega), Nat.mul_div_cancel_left w (by omega)]
      exact h2
    | cons_cons _ h =>
      rename_i s'
      obtain ⟨w, h1, h2⟩ := choose_all a s' h
      refine ⟨2 * w + 1, by omega, ?_⟩
      unfold choose
      rw [if_pos (by omega), show (2 * w + 1) / 2 = w by omega, h2]
/-- The best of the first choices. -/
def best (a b : List Int) : Nat → Nat
  | 0 => 0
  | w + 1 => max (best a b w) (if fits (choose a w) b then (choose a w).length else 0)
theorem best_le (a b : List Int) : ∀ w, best a b w ≤ lcs a b
  | 0 => Nat.zero_le _
  | w + 1 => by
    have h1 := best_le a b w
    show max _ _ ≤ _
    split
    · rename_i h
      have := most (choose_sub a w) ((fits_iff _ _).1 h)
      omega
    · omega
theorem best_ge (a b : List Int) (w : Nat) (h : List.Sublist (choose a w) b) : ∀ n, w < n → (choose a w).length ≤ best a b n
  | 0, hn => absurd hn (Nat.not_lt_zero _)
  | n + 1, hn => by
    show _ ≤ max _ _
    by_cases e : w = n
    · subst e
      rw [if_pos ((fits_iff _ _).2 h)]
      omega
    · have := best_ge a b w h n (by omega)
      omega
theorem best_lcs (a b : List Int) : best a b (2 ^ a.length) = lcs a b := by
  obtain ⟨s, h1, h2, h3⟩ := has a b
  obtain ⟨w, k1, rfl⟩ := choose_all a s h1
  have l1 := best_ge a b w h2 _ k1
  have l2 := best_le a b (2 ^ a.length)
  omega

end Go.Proofs.YtldllbmbcnipoaaDoor.Lc
