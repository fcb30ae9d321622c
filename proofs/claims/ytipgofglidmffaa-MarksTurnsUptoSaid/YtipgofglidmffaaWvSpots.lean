/-
  STABLE PLACES, in a row, and the chunks told by them. No program.
-/
import Derived.Test.YtipgofglidmffaaWvFar
namespace Go.Proofs.Ytipgofglidmffaa.Wv
open Go.Proofs.Ytipgofglidmffaa.Lc
set_option linter.unusedVariables false

/-- Three places. -/
structure Spot where
  b : Nat
  o : Nat
  t : Nat
deriving DecidableEq
/-- The stable places, by the pairs of both sides. -/
def spots : List (Nat × Nat) → List (Nat × Nat) → List Spot
  | [], _ => []
  | _ :: _, [] => []
  | p :: P, q :: Q =>
    if p.1 = q.1 then ⟨p.1, p.2, q.2⟩ :: spots P Q
    else if p.1 < q.1 then spots P (q :: Q)
    else spots (p :: P) Q
termination_by P Q => P.length + Q.length
theorem spots_nil (P : List (Nat × Nat)) : spots P [] = [] := by cases P <;> simp [spots]
theorem spots_nil' (Q : List (Nat × Nat)) : spots [] Q = [] := by simp [spots]
theorem spots_eq {p q : Nat × Nat} (P Q : List (Nat × Nat)) (h : p.1 = q.1) : spots (p :: P) (q :: Q) = ⟨p.1, p.2, q.2⟩ :: spots P Q := by rw [spots, if_pos h]
theorem spots_lt {p q : Nat × Nat} (P Q : List (Nat × Nat)) (h : p.1 < q.1) : spots (p :: P) (q :: Q) = spots P (q :: Q) := by rw [spots, if_neg (by omega), if_pos h]
theorem spots_gt {p q : Nat × Nat} (P Q : List (Nat × Nat)) (h : q.1 < p.1) : spots (p :: P) (q :: Q) = spots (p :: P) Q := by rw [spots, if_neg (by omega), if_neg (by omega)]

abbrev Rise (l : List (Nat × Nat)) : Prop := l.Pairwise (fun p q => p.1 < q.1 ∧ p.2 < q.2)
theorem spots_mem : ∀ (n : Nat) (P Q : List (Nat × Nat)), P.length + Q.length ≤ n → Rise P → Rise Q → ∀ s, s ∈ spots P Q ↔ (s.b, s.o) ∈ P ∧ (s.b, s.t) ∈ Q := by
  intro n
  induction n with
  | zero =>
    intro P Q h _ _ s
    obtain rfl := List.eq_nil_of_length_eq_zero (show P.length = 0 by omega)
    simp [spots_nil']
  | succ n ih =>
    intro P Q h hP hQ s
    cases P with
    | nil => simp [spots_nil']
    | cons p P =>
      cases Q with
      | nil => simp [spots_nil]
      | cons q Q =>
        obtain ⟨hp, hP'⟩ := List.pairwise_cons.1 hP
        obtain ⟨hq, hQ'⟩ := List.pairwise_cons.1 hQ
        simp only [List.length_cons] at h
        rcases Nat.lt_trichotomy p.1 q.1 with hlt | heq | hgt
        · rw [spots_lt P Q hlt, ih P (q :: Q) (by simp; omega) hP' hQ s]
          constructor
          · rintro ⟨h1, h2⟩; exact ⟨List.mem_cons_of_mem _ h1, h2⟩
          · rintro ⟨h1, h2⟩
            refine ⟨?_, h2⟩
            rcases List.mem_cons.1 h1 with e | h1
            · exfalso
              have e1 : s.b = p.1 := by rw [← e]
              rcases List.mem_cons.1 h2 with e' | h2
              · have : s.b = q.1 := by rw [← e']
                omega
              · have := (hq _ h2).1
                simp only at this
                omega
            · exact h1
        · rw [spots_eq P Q heq, List.mem_cons, ih P Q (by omega) hP' hQ' s]
          constructor
          · rintro (rfl | ⟨h1, h2⟩)
            · exact ⟨List.mem_cons_self .., by rw [heq]; exact List.mem_cons_self ..⟩
            · exact ⟨List.mem_cons_of_mem _ h1, List.mem_cons_of_mem _ h2⟩
          · rintro ⟨h1, h2⟩
            rcases List.mem_cons.1 h1 with e | h1
            · rcases List.mem_cons.1 h2 with e' | h2
              · left; rw [← e, ← e']
              · exfalso
                have := (hq _ h2).1
                have e1 : s.b = p.1 := by rw [← e]
                simp only at this
                omega
            · rcases List.mem_cons.1 h2 with e' | h2
              · exfalso
                have := (hp _ h1).1
                have e1 : s.b = q.1 := by rw [← e']
                simp only at this
                omega
              · exact Or.inr ⟨h1, h2⟩
        · rw [spots_gt P Q hgt, ih (p :: P) Q (by simp; omega) hP hQ' s]
          constructor
          · rintro ⟨h1, h2⟩; exact ⟨h1, List.mem_cons_of_mem _ h2⟩
          · rintro ⟨h1, h2⟩
            refine ⟨h1, ?_⟩
            rcases List.mem_cons.1 h2 with e | h2
            · exfalso
              have e1 : s.b = q.1 := by rw [← e]
              rcases List.mem_cons.1 h1 with e' | h1
              · have : s.b = p.1 := by rw [← e']
                omega
              · have := (hp _ h1).1
                simp only at this
                omega
            · exact h2
theorem spots_rise : ∀ (n : Nat) (P Q : List (Nat × Nat)), P.length + Q.length ≤ n → Rise P → Rise Q → (spots P Q).Pairwise (fun s u => s.b < u.b) := by
  intro n
  induction n with
  | zero =>
    intro P Q h _ _
    obtain rfl := List.eq_nil_of_length_eq_zero (show P.length = 0 by omega)
    rw [spots_nil']; exact List.Pairwise.nil
  | succ n ih =>
    intro P Q h hP hQ
    cases P with
    | nil => rw [spots_nil']; exact List.Pairwise.nil
    | cons p P =>
      cases Q with
      | nil => rw [spots_nil]; exact List.Pairwise.nil
      | cons q Q =>
        obtain ⟨hp, hP'⟩ := List.pairwise_cons.1 hP
        obtain ⟨hq, hQ'⟩ := List.pairwise_cons.1 hQ
        simp only [List.length_cons] at h
        rcases Nat.lt_trichotomy p.1 q.1 with hlt | heq | hgt
        · rw [spots_lt P Q hlt]; exact ih P (q :: Q) (by simp; omega) hP' hQ
        · rw [spots_eq P Q heq, List.pairwise_cons]
          refine ⟨fun s hs => ?_, ih P Q (by omega) hP' hQ'⟩
          exact (hp _ ((spots_mem n P Q (by omega) hP' hQ' s).1 hs).1).1
        · rw [spots_gt P Q hgt]; exact ih (p :: P) Q (by simp; omega) hP hQ'
theorem spots_len : ∀ (n : Nat) (P Q : List (Nat × Nat)), P.length + Q.length ≤ n → (spots P Q).length ≤ P.length := by
  intro n
  induction n with
  | zero =>
    intro P Q h
    obtain rfl := List.eq_nil_of_length_eq_zero (show P.length = 0 by omega)
    rw [spots_nil']; exact Nat.le_refl _
  | succ n ih =>
    intro P Q h
    cases P with
    | nil => rw [spots_nil']; exact Nat.le_refl _
    | cons p P =>
      cases Q with
      | nil => rw [spots_nil]; exact Nat.zero_le _
      | cons q Q =>
        simp only [List.length_cons] at h
        rcases Nat.lt_trichotomy p.1 q.1 with hlt | heq | hgt
        · rw [spots_lt P Q hlt]; have := ih P (q :: Q) (by simp; omega); simp only [List.length_cons]; omega
        · rw [spots_eq P Q heq]; have := ih P Q (by omega); simp only [List.length_cons]; omega
        · rw [spots_gt P Q hgt]; exact ih (p :: P) Q (by simp; omega)

/-- Just these places are stable, from x on. -/
structure Stb (k q : Nat → Option Nat) (x : Nat) (S : List Spot) : Prop where
  mem : ∀ s, s ∈ S ↔ x ≤ s.b ∧ k s.b = some s.o ∧ q s.b = some s.t
  up : S.Pairwise (fun s u => s.b < u.b)
theorem stb_start (B O T : List Int) : Stb (kp (pairs B O)) (kp (pairs B T)) 0 (spots (pairs B O) (pairs B T)) where
  mem s := by
    rw [spots_mem _ _ _ (Nat.le_refl _) (pairs_rise B O) (pairs_rise B T) s, kp_iff (pairs_rise B O), kp_iff (pairs_rise B T)]
    exact ⟨fun h => ⟨Nat.zero_le _, h⟩, fun h => h.2⟩
  up := spots_rise _ _ _ (Nat.le_refl _) (pairs_rise B O) (pairs_rise B T)
theorem Stb.tail {k q : Nat → Option Nat} {x : Nat} {s : Spot} {S : List Spot} (h : Stb k q x (s :: S)) : Stb k q (s.b + 1) S where
  mem u := by
    obtain ⟨h1, h2⟩ := List.pairwise_cons.1 h.up
    have hs := (h.mem s).1 (List.mem_cons_self ..)
    constructor
    · intro hu
      have := h1 u hu
      exact ⟨by omega, ((h.mem u).1 (List.mem_cons_of_mem _ hu)).2⟩
    · rintro ⟨hx, hk⟩
      rcases List.mem_cons.1 ((h.mem u).2 ⟨by omega, hk⟩) with rfl | hu
      · omega
      · exact hu
  up := (List.pairwise_cons.1 h.up).2
theorem Stb.head {k q : Nat → Option Nat} {x : Nat} {s : Spot} {S : List Spot} (h : Stb k q x (s :: S)) : Stb k q s.b (s :: S) where
  mem u := by
    obtain ⟨h1, h2⟩ := List.pairwise_cons.1 h.up
    have hs := (h.mem s).1 (List.mem_cons_self ..)
    constructor
    · intro hu
      refine ⟨?_, ((h.mem u).1 hu).2⟩
      rcases List.mem_cons.1 hu with rfl | hu
      · exact Nat.le_refl _
      · exact Nat.le_of_lt (h1 u hu)
    · rintro ⟨hx, hk⟩
      exact (h.mem u).2 ⟨by omega, hk⟩
  up := h.up
/-- How many of the places follow upon one another, from these on. -/
def pre : List Spot → Nat → Nat → Nat → Nat
  | [], _, _, _ => 0
  | s :: S, x, y, z => if s = ⟨x, y, z⟩ then pre S (x + 1) (y + 1) (z + 1) + 1 else 0
theorem pre_le : ∀ (S : List Spot) (x y z : Nat), pre S x y z ≤ S.length
  | [], _, _, _ => Nat.le_refl _
  | s :: S, x, y, z => by
    unfold pre
    split
    · have := pre_le S (x + 1) (y + 1) (z + 1); simp only [List.length_cons]; omega
    · exact Nat.zero_le _
/-- One place more. -/
theorem pre_at : ∀ (S : List Spot) (x y z n : Nat), (∀ m (h : m < S.length), m < n → S[m] = ⟨x + m, y + m, z + m⟩) → n ≤ S.length → (∀ h : n < S.length, S[n] ≠ ⟨x + n, y + n, z + n⟩) → pre S x y z = n
  | [], _, _, _, n, _, hn, _ => by simp at hn; simp [pre, hn]
  | s :: S, x, y, z, n, ha, hn, hs => by
    cases n with
    | zero =>
      have := hs (by simp)
      simp only [List.getElem_cons_zero, Nat.add_zero] at this
      unfold pre
      rw [if_neg this]
    | succ n =>
      have h0 := ha 0 (by simp) (by omega)
      simp only [List.getElem_cons_zero, Nat.add_zero] at h0
      unfold pre
      rw [if_pos h0, pre_at S (x + 1) (y + 1) (z + 1) n (fun m h hm => ?_) (by simpa using hn) (fun h => ?_)]
      · have := ha (m + 1) (by simpa using h) (by omega)
        simp only [List.getElem_cons_succ] at this
        rw [this]; congr 1 <;> omega
      · have := hs (by simpa using h)
        simp only [List.getElem_cons_succ] at this
        intro e
        apply this
        rw [e]; congr 1 <;> omega

section
variable {B O T : List Int} {k q : Nat → Option Nat}
theorem rn_pre (K : Keeps B O k) : ∀ (S : List Spot) (x y z : Nat), Stb k q x S → rn k q (B.length - x) x y z = pre S x y z
  | [], x, y, z, h => by
    unfold pre
    by_cases hx : x < B.length
    · rw [show B.length - x = (B.length - (x + 1)) + 1 by omega]
      exact if_neg (fun hh => by have := (h.mem ⟨x, y, z⟩).2 ⟨Nat.le_refl _, hh.1, hh.2⟩; cases this)
    · rw [show B.length - x = 0 by omega]; rfl
  | s :: S, x, y, z, h => by
    have hs := (h.mem s).1 (List.mem_cons_self ..)
    unfold pre
    by_cases e : s = ⟨x, y, z⟩
    · subst e
      have hx := (K.ok _ _ hs.2.1).1
      simp only at hs hx
      rw [if_pos rfl, show B.length - x = (B.length - (x + 1)) + 1 by omega, ← rn_pre K S (x + 1) (y + 1) (z + 1) h.tail]
      exact if_pos hs.2
    · rw [if_neg e]
      by_cases hx : x < B.length
      · rw [show B.length - x = (B.length - (x + 1)) + 1 by omega]
        refine if_neg (fun hh => e ?_)
        rcases List.mem_cons.1 ((h.mem ⟨x, y, z⟩).2 ⟨Nat.le_refl _, hh.1, hh.2⟩) with e' | hu
        · exact e'.symm
        · have := (List.pairwise_cons.1 h.up).1 _ hu
          simp only at this
          omega
      · rw [show B.length - x = 0 by omega]; rfl
theorem Stb.drop : ∀ (S : List Spot) (x y z : Nat), Stb k q x S → pre S x y z ≠ 0 → Stb k q (x + pre S x y z) (S.drop (pre S x y z))
  | [], x, y, z, h, hn => absurd rfl hn
  | s :: S, x, y, z, h, hn => by
    unfold pre at hn ⊢
    split at hn
    · rename_i e
      have ht := h.tail
      rw [if_pos e]
      subst e
      simp only at ht
      rw [List.drop_succ_cons]
      by_cases h0 : pre S (x + 1) (y + 1) (z + 1) = 0
      · rw [h0]; exact ht
      · have := Stb.drop S (x + 1) (y + 1) (z + 1) ht h0
        rw [show x + (pre S (x + 1) (y + 1) (z + 1) + 1) = x + 1 + pre S (x + 1) (y + 1) (z + 1) by omega]
        exact this
    · exact absurd rfl hn
theorem next_nil {x : Nat} (h : Stb k q x []) (hx : x ≤ B.length) : next B k q x = B.length := by
  unfold next
  refine nx_is k q _ x B.length hx (by omega) (fun j h1 h2 hh => ?_) (fun h => by omega)
  obtain ⟨h3, h4⟩ := hh
  cases hk : k j with
  | none => rw [hk] at h3; cases h3
  | some a =>
    cases hq : q j with
    | none => rw [hq] at h4; cases h4
    | some b => have := (h.mem ⟨j, a, b⟩).2 ⟨h1, hk, hq⟩; cases this
theorem next_cons (K : Keeps B O k) {x : Nat} {s : Spot} {S : List Spot} (h : Stb k q x (s :: S)) : next B k q x = s.b ∧ nextO B O k s.b = s.o ∧ nextO B T q s.b = s.t ∧ s.b < B.length := by
  have hs := (h.mem s).1 (List.mem_cons_self ..)
  have hb := (K.ok _ _ hs.2.1).1
  refine ⟨?_, by unfold nextO; rw [if_pos hb, hs.2.1]; rfl, by unfold nextO; rw [if_pos hb, hs.2.2]; rfl, hb⟩
  unfold next
  refine nx_is k q _ x s.b hs.1 (by omega) (fun j h1 h2 hh => ?_) (fun _ => by rw [hs.2.1, hs.2.2]; exact ⟨rfl, rfl⟩)
  obtain ⟨h3, h4⟩ := hh
  cases hk : k j with
  | none => rw [hk] at h3; cases h3
  | some a =>
    cases hq : q j with
    | none => rw [hq] at h4; cases h4
    | some b =>
      rcases List.mem_cons.1 ((h.mem ⟨j, a, b⟩).2 ⟨h1, hk, hq⟩) with e | hu
      · have : j = s.b := by rw [← e]
        omega
      · have := (List.pairwise_cons.1 h.up).1 _ hu
        simp only at this
        omega
end

end Go.Proofs.Ytipgofglidmffaa.Wv
