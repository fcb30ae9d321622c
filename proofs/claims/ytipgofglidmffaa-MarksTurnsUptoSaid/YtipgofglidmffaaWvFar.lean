/-
  THREE LISTS WOVEN: what each side puts in the place of a number that isn't near to the other side's comes. No program.
-/
import Derived.Test.YtipgofglidmffaaWvEnds
namespace Go.Proofs.Ytipgofglidmffaa.Wv
open Go.Proofs.Ytipgofglidmffaa.Lc
set_option linter.unusedVariables false

/-! Pairs of a list and one with a number's place taken by others. -/
theorem lcs_skip {a : Int} : ∀ (R b : List Int), a ∉ b → lcs (a :: R) b = lcs R b := by
  intro R b h
  refine Nat.le_antisymm ?_ (lcs_mono (List.sublist_cons_self a R) (List.Sublist.refl b))
  obtain ⟨s, h1, h2, h3⟩ := has (a :: R) b
  rw [← h3]
  cases h1 with
  | cons _ h1 => exact most h1 h2
  | cons_cons _ h1 => exact absurd (h2.subset (List.mem_cons_self ..)) h
theorem pp_same : ∀ (R : List Int) (i k : Nat), pp i k R R = (List.range R.length).map (fun j => (i + j, k + j))
  | [], i, k => by rw [pp_nil]; rfl
  | x :: R, i, k => by
    rw [pp_yes rfl, pp_same R, List.length_cons, List.range_succ_eq_map, List.map_cons, List.map_map]
    congr 1
    apply List.map_congr_left
    intro j _
    show (i + 1 + j, k + 1 + j) = (i + (j + 1), k + (j + 1))
    rw [Nat.add_right_comm i 1 j, Nat.add_right_comm k 1 j]
    rfl
theorem pp_new (R : List Int) : ∀ (U : List Int) (i k : Nat), (∀ u ∈ U, u ∉ R) → pp i k R (U ++ R) = (List.range R.length).map (fun j => (i + j, k + U.length + j))
  | [], i, k, _ => by rw [List.nil_append, pp_same]; rfl
  | u :: U, i, k, h => by
    cases R with
    | nil => rw [pp_nil]; rfl
    | cons r R =>
      have e : r ≠ u := fun e => h u (List.mem_cons_self ..) (by rw [← e]; exact List.mem_cons_self ..)
      have hl : ¬ lcs (r :: R) (U ++ r :: R) ≤ lcs R (u :: (U ++ r :: R)) := by
        rw [lcs_sub (List.sublist_append_right U (r :: R))]
        have := lcs_le_left R (u :: (U ++ r :: R))
        rw [List.length_cons]
        omega
      rw [List.cons_append, pp_right e _ _ _ _ hl, pp_new (r :: R) U i (k + 1) (fun v hv => h v (List.mem_cons_of_mem _ hv))]
      apply List.map_congr_left
      intro j _
      rw [List.length_cons]
      congr 1
      omega
theorem pp_gone (a : Int) (R U : List Int) (i k : Nat) (h : a ∉ U ++ R) : pp i k (a :: R) (U ++ R) = pp (i + 1) k R (U ++ R) := by
  cases hUR : U ++ R with
  | nil =>
    rw [pp_nil2, pp_nil2]
  | cons u r =>
    rw [hUR] at h
    have e : a ≠ u := fun e => h (by rw [e]; exact List.mem_cons_self ..)
    refine pp_left e _ _ _ _ ?_
    rw [lcs_skip R r (fun h' => h (List.mem_cons_of_mem _ h'))]
    exact lcs_mono (List.Sublist.refl R) (List.sublist_cons_self u r)
theorem pp_ahead : ∀ (P a b : List Int) (i k : Nat), pp i k (P ++ a) (P ++ b) = (List.range P.length).map (fun j => (i + j, k + j)) ++ pp (i + P.length) (k + P.length) a b
  | [], a, b, i, k => rfl
  | x :: P, a, b, i, k => by
    rw [List.cons_append, List.cons_append, pp_yes rfl, pp_ahead P a b, List.length_cons, List.range_succ_eq_map, List.map_cons, List.map_map, List.cons_append]
    congr 1
    congr 1
    · apply List.map_congr_left
      intro j _
      show (i + 1 + j, k + 1 + j) = (i + (j + 1), k + (j + 1))
      rw [Nat.add_right_comm i 1 j, Nat.add_right_comm k 1 j]
      rfl
    · rw [show i + 1 + P.length = i + (P.length + 1) by omega, show k + 1 + P.length = k + (P.length + 1) by omega]
theorem pairs_put (P U R : List Int) (a : Int) (ha : a ∉ U ++ R) (hU : ∀ u ∈ U, u ∉ R) :
    pairs (P ++ a :: R) (P ++ (U ++ R)) = (List.range P.length).map (fun j => (j, j)) ++ (List.range R.length).map (fun j => (P.length + 1 + j, P.length + U.length + j)) := by
  unfold pairs
  rw [pp_ahead, pp_gone a R U _ _ ha, pp_new R U _ _ hU]
  simp
/-- Where places are kept, then. -/
def fk (p u r : Nat) : Nat → Option Nat := fun i => if i < p then some i else if i = p then none else if i < p + 1 + r then some (i - 1 + u) else none
theorem kp_iff {l : List (Nat × Nat)} (h : l.Pairwise (fun p q => p.1 < q.1 ∧ p.2 < q.2)) (i j : Nat) : kp l i = some j ↔ (i, j) ∈ l := by
  refine ⟨kp_mem, fun hm => ?_⟩
  cases hk : kp l i with
  | none =>
    exfalso
    unfold kp at hk
    rw [Option.map_eq_none_iff, List.find?_eq_none] at hk
    exact hk _ hm (by simp)
  | some j' =>
    have hm' := kp_mem hk
    congr 1
    rcases Nat.lt_trichotomy j j' with hlt | he | hlt
    · exfalso
      clear hk
      induction l with
      | nil => cases hm
      | cons c l ih =>
        obtain ⟨h1, h2⟩ := List.pairwise_cons.1 h
        rcases List.mem_cons.1 hm with e1 | m1
        · rcases List.mem_cons.1 hm' with e2 | m2
          · rw [← e1] at e2; cases e2; omega
          · have := (h1 _ m2).1; rw [← e1] at this; exact Nat.lt_irrefl _ this
        · rcases List.mem_cons.1 hm' with e2 | m2
          · have := (h1 _ m1).1; rw [← e2] at this; exact Nat.lt_irrefl _ this
          · exact ih h2 m1 m2
    · exact he.symm
    · exfalso
      clear hk
      induction l with
      | nil => cases hm
      | cons c l ih =>
        obtain ⟨h1, h2⟩ := List.pairwise_cons.1 h
        rcases List.mem_cons.1 hm with e1 | m1
        · rcases List.mem_cons.1 hm' with e2 | m2
          · rw [← e1] at e2; cases e2; omega
          · have := (h1 _ m2).1; rw [← e1] at this; exact Nat.lt_irrefl _ this
        · rcases List.mem_cons.1 hm' with e2 | m2
          · have := (h1 _ m1).1; rw [← e2] at this; exact Nat.lt_irrefl _ this
          · exact ih h2 m1 m2
theorem kp_put (P U R : List Int) (a : Int) (ha : a ∉ U ++ R) (hU : ∀ u ∈ U, u ∉ R) : kp (pairs (P ++ a :: R) (P ++ (U ++ R))) = fk P.length U.length R.length := by
  funext i
  apply Option.ext
  intro j
  rw [kp_iff (pairs_rise _ _), pairs_put P U R a ha hU, List.mem_append, List.mem_map, List.mem_map]
  unfold fk
  constructor
  · rintro (⟨m, hm, he⟩ | ⟨m, hm, he⟩)
    · have := List.mem_range.1 hm
      cases he
      rw [if_pos (by omega)]
    · have := List.mem_range.1 hm
      cases he
      rw [if_neg (by omega), if_neg (by omega), if_pos (by omega)]
      congr 1
      omega
  · intro h
    split at h
    · rename_i hlt
      cases h
      exact Or.inl ⟨i, List.mem_range.2 hlt, rfl⟩
    · split at h
      · cases h
      · split at h
        · cases h
          refine Or.inr ⟨i - (P.length + 1), List.mem_range.2 (by omega), ?_⟩
          have e1 : P.length + 1 + (i - (P.length + 1)) = i := by omega
          have e2 : P.length + U.length + (i - (P.length + 1)) = i - 1 + U.length := by omega
          rw [e1, e2]
        · cases h

/-! Runs and next places, told. -/
theorem rn_is (k q : Nat → Option Nat) : ∀ (n f x y z : Nat), n ≤ f → (∀ m, m < n → k (x + m) = some (y + m) ∧ q (x + m) = some (z + m)) → (n < f → ¬ (k (x + n) = some (y + n) ∧ q (x + n) = some (z + n))) → rn k q f x y z = n := by
  intro n f x y z hf hall hstop
  rcases Nat.lt_trichotomy (rn k q f x y z) n with h | h | h
  · exact absurd (hall _ h) (rn_stop k q f x y z (by omega))
  · exact h
  · exact absurd (rn_all k q f x y z n h) (hstop (by have := rn_le k q f x y z; omega))
theorem nx_is (k q : Nat → Option Nat) (f x i : Nat) (h1 : x ≤ i) (h2 : i ≤ x + f) (hno : ∀ j, x ≤ j → j < i → ¬ ((k j).isSome = true ∧ (q j).isSome = true)) (hyes : i < x + f → (k i).isSome = true ∧ (q i).isSome = true) : nx k q f x = i := by
  have hg := nx_ge k q f x
  rcases Nat.lt_trichotomy (nx k q f x) i with h | h | h
  · exact absurd (nx_found k q f x (by omega)) (hno _ hg.1 h)
  · exact h
  · exact absurd (hyes (by omega)) (nx_none k q f x i h1 h)

section
variable {B O T : List Int} {k q : Nat → Option Nat}
/-- All that is left. -/
def left (B O T : List Int) (k q : Nat → Option Nat) (x y z : Nat) : List Ch := ch B O T k q (rest B O T x y z) x y z
theorem left_run (K : Keeps B O k) (Q : Keeps B T q) {x y z n : Nat} (I : Inv B O T k q x y z) (hn : runs B k q x y z = n) :
    Inv B O T k q (x + n) (y + n) (z + n) ∧ cleanB (left B O T k q x y z) = cleanB (left B O T k q (x + n) (y + n) (z + n)) ∧ mg O T (left B O T k q x y z) = part T z (z + n) ++ mg O T (left B O T k q (x + n) (y + n) (z + n)) := by
  by_cases h0 : n = 0
  · subst h0
    exact ⟨I, rfl, by rw [Nat.add_zero, part_nil]; rfl⟩
  · have I' := I.run K Q (by rw [hn]; exact h0)
    rw [hn] at I'
    have hl : runs B k q x y z ≤ B.length - x := rn_le k q (B.length - x) x y z
    have c1 := I'.bx
    have c2 := I'.by'
    have c3 := I'.bz
    obtain ⟨r, hr⟩ : ∃ r, rest B O T x y z = r + 1 := ⟨rest B O T x y z - 1, by unfold rest; omega⟩
    have hx : x < B.length := by omega
    have e : left B O T k q x y z = ⟨x, x + n, y, y + n, z, z + n, 1⟩ :: left B O T k q (x + n) (y + n) (z + n) := by
      unfold left
      rw [hr, ch, if_pos (Or.inl hx), hn, if_pos h0, ch_fuel K Q r (rest B O T (x + n) (y + n) (z + n)) _ _ _ I' (by unfold rest at hr ⊢; omega) (Nat.le_refl _)]
    rw [e, mg_cons, clean_cons]
    exact ⟨I', rfl, rfl⟩
theorem left_gap (K : Keeps B O k) (Q : Keeps B T q) {x y z i y' z' o : Nat} (I : Inv B O T k q x y z) (hn : runs B k q x y z = 0) (hr : x < B.length ∨ y < O.length ∨ z < T.length)
    (hi : next B k q x = i) (hy : nextO B O k i = y') (hz : nextO B T q i = z') (ho : outc (part B x i) (part O y y') (part T z z') = o) :
    Inv B O T k q i y' z' ∧ cleanB (left B O T k q x y z) = (o != 5 && cleanB (left B O T k q i y' z')) ∧ mg O T (left B O T k q x y z) = (if o = 1 ∨ o = 3 then part T z z' else part O y y') ++ mg O T (left B O T k q i y' z') := by
  obtain ⟨I', h1, h2, h3⟩ := I.gap K Q
  have hg := gap_goes K Q I hn hr
  rw [hi] at I' h1 h2 h3 hg
  rw [hy] at I' h2 hg
  rw [hz] at I' h3 hg
  have c1 := I'.bx
  have c2 := I'.by'
  have c3 := I'.bz
  obtain ⟨r, hR⟩ : ∃ r, rest B O T x y z = r + 1 := ⟨rest B O T x y z - 1, by unfold rest; omega⟩
  have e : left B O T k q x y z = ⟨x, i, y, y', z, z', o⟩ :: left B O T k q i y' z' := by
    unfold left
    rw [hR, ch, if_pos hr, hn, if_neg (by omega), hi, hy, hz, ho, ch_fuel K Q r (rest B O T i y' z') _ _ _ I' (by unfold rest at hR ⊢; omega) (Nat.le_refl _)]
  rw [e, mg_cons, clean_cons]
  exact ⟨I', rfl, rfl⟩
end
theorem part_mid {l X Y Z : List Int} {a b : Nat} (hl : l = X ++ (Y ++ Z)) (ha : a = X.length) (hb : b = X.length + Y.length) : part l a b = Y := by
  subst hl; subst ha; subst hb
  unfold part
  rw [List.drop_left, Nat.add_sub_cancel_left, List.take_left]

theorem merge_far (P M Q U V : List Int) (a b : Int) (hM : M ≠ []) (haU : a ∉ U ++ (M ++ b :: Q)) (hU : ∀ u ∈ U, u ∉ M ++ b :: Q) (hbV : b ∉ V ++ Q) (hV : ∀ v ∈ V, v ∉ Q) :
    merge (P ++ a :: (M ++ b :: Q)) (P ++ (U ++ (M ++ b :: Q))) (P ++ a :: (M ++ (V ++ Q))) = (P ++ (U ++ (M ++ (V ++ Q))), true) := by
  have hB2 : P ++ a :: (M ++ b :: Q) = (P ++ a :: M) ++ b :: Q := by simp
  have hT2 : P ++ a :: (M ++ (V ++ Q)) = (P ++ a :: M) ++ (V ++ Q) := by simp
  have k1 := kp_put P U (M ++ b :: Q) a haU hU
  have k2 : kp (pairs (P ++ a :: (M ++ b :: Q)) (P ++ a :: (M ++ (V ++ Q)))) = fk (P ++ a :: M).length V.length Q.length := by
    rw [hB2, hT2]; exact kp_put (P ++ a :: M) V Q b hbV hV
  have K := keeps_pairs (P ++ a :: (M ++ b :: Q)) (P ++ (U ++ (M ++ b :: Q)))
  have Q' := keeps_pairs (P ++ a :: (M ++ b :: Q)) (P ++ a :: (M ++ (V ++ Q)))
  rw [k1] at K
  rw [k2] at Q'
  have lr : (M ++ b :: Q).length = M.length + 1 + Q.length := by simp; omega
  have lp : (P ++ a :: M).length = P.length + 1 + M.length := by simp; omega
  have lB : (P ++ a :: (M ++ b :: Q)).length = P.length + 1 + M.length + 1 + Q.length := by simp; omega
  have lO : (P ++ (U ++ (M ++ b :: Q))).length = P.length + U.length + M.length + 1 + Q.length := by simp; omega
  have lT : (P ++ a :: (M ++ (V ++ Q))).length = P.length + 1 + M.length + V.length + Q.length := by simp; omega
  have hm : 0 < M.length := List.length_pos_iff.2 hM
  rw [lr] at K k1
  rw [lp] at Q' k2
  have pB1 : part (P ++ a :: (M ++ b :: Q)) P.length (P.length + 1) = [a] := part_mid (X := P) (Y := [a]) (Z := M ++ b :: Q) (by simp) rfl rfl
  have pO1 : part (P ++ (U ++ (M ++ b :: Q))) P.length (P.length + U.length) = U := part_mid (X := P) (Y := U) (Z := M ++ b :: Q) rfl rfl rfl
  have pT1 : part (P ++ a :: (M ++ (V ++ Q))) P.length (P.length + 1) = [a] := part_mid (X := P) (Y := [a]) (Z := M ++ (V ++ Q)) (by simp) rfl rfl
  have pT0 : part (P ++ a :: (M ++ (V ++ Q))) 0 P.length = P := part_mid (X := []) (Y := P) (Z := a :: (M ++ (V ++ Q))) rfl rfl (by simp)
  have pT2 : part (P ++ a :: (M ++ (V ++ Q))) (P.length + 1) (P.length + 1 + M.length) = M := part_mid (X := P ++ [a]) (Y := M) (Z := V ++ Q) (by simp) (by simp) (by simp)
  have pB3 : part (P ++ a :: (M ++ b :: Q)) (P.length + 1 + M.length) (P.length + 1 + M.length + 1) = [b] := part_mid (X := P ++ a :: M) (Y := [b]) (Z := Q) (by simp) (by simp; omega) (by simp; omega)
  have pO3 : part (P ++ (U ++ (M ++ b :: Q))) (P.length + U.length + M.length) (P.length + U.length + M.length + 1) = [b] := part_mid (X := P ++ (U ++ M)) (Y := [b]) (Z := Q) (by simp) (by simp; omega) (by simp; omega)
  have pT3 : part (P ++ a :: (M ++ (V ++ Q))) (P.length + 1 + M.length) (P.length + 1 + M.length + V.length) = V := part_mid (X := P ++ a :: M) (Y := V) (Z := Q) (by simp) (by simp; omega) (by simp; omega)
  have pT4 : part (P ++ a :: (M ++ (V ++ Q))) (P.length + 1 + M.length + V.length) (P.length + 1 + M.length + V.length + Q.length) = Q := part_mid (X := P ++ a :: (M ++ V)) (Y := Q) (Z := []) (by simp) (by simp; omega) (by simp; omega)
  have o1 : outc [a] U [a] = 2 := by
    have : U ≠ [a] := fun e => haU (by rw [e]; simp)
    unfold outc
    rw [if_neg this, if_neg this, if_pos rfl]
  have o2 : outc [b] [b] V = 3 := by
    have : ¬ [b] = V := fun e => hbV (by rw [← e]; simp)
    unfold outc
    rw [if_neg this, if_pos rfl]
  have hch : chunks (P ++ a :: (M ++ b :: Q)) (P ++ (U ++ (M ++ b :: Q))) (P ++ a :: (M ++ (V ++ Q))) = left (P ++ a :: (M ++ b :: Q)) (P ++ (U ++ (M ++ b :: Q))) (P ++ a :: (M ++ (V ++ Q))) (fk P.length U.length (M.length + 1 + Q.length)) (fk (P.length + 1 + M.length) V.length Q.length) 0 0 0 := by
    unfold chunks left
    rw [k1, k2]
  unfold merge
  rw [hch]
  clear hch k1 k2 hB2 hT2 haU hU hbV hV
  generalize P ++ a :: (M ++ b :: Q) = B at *
  generalize P ++ (U ++ (M ++ b :: Q)) = O at *
  generalize P ++ a :: (M ++ (V ++ Q)) = T at *
  generalize P.length = p at *
  generalize hu : U.length = u at *
  generalize hv : V.length = v at *
  generalize M.length = m at *
  generalize Q.length = n at *
  -- 1: as far as a
  obtain ⟨I1, c1, g1⟩ := left_run K Q' (n := p) Inv.start (rn_is _ _ p _ 0 0 0 (by omega) (fun j hj => by unfold fk; constructor <;> rw [if_pos (by omega)]) (fun _ h => by
    have := h.1
    unfold fk at this
    rw [if_neg (by omega), if_pos (by omega)] at this
    cases this))
  simp only [Nat.zero_add] at I1 c1 g1
  -- 2: a's place
  obtain ⟨I2, c2, g2⟩ := left_gap K Q' (i := p + 1) (y' := p + u) (z' := p + 1) (o := 2) I1 (runs_no (fun _ h => by
      have := h.1
      unfold fk at this
      rw [if_neg (by omega), if_pos (by omega)] at this
      cases this)) (Or.inl (by omega))
    (nx_is _ _ _ _ _ (by omega) (by omega) (fun j h1 h2 h => by
      have := h.1
      obtain rfl : j = p := by omega
      unfold fk at this
      rw [if_neg (by omega), if_pos rfl] at this
      cases this) (fun _ => by
      unfold fk
      rw [if_neg (by omega), if_neg (by omega), if_pos (by omega), if_pos (by omega)]
      exact ⟨rfl, rfl⟩))
    (by unfold nextO fk; rw [if_pos (by omega), if_neg (by omega), if_neg (by omega), if_pos (by omega)]; simp)
    (by unfold nextO fk; rw [if_pos (by omega), if_pos (by omega)]; rfl)
    (by rw [pB1, pO1, pT1]; exact o1)
  -- 3: as far as b
  obtain ⟨I3, c3, g3⟩ := left_run K Q' (n := m) I2 (rn_is _ _ m _ _ _ _ (by omega) (fun j hj => by
      unfold fk
      constructor
      · rw [if_neg (by omega), if_neg (by omega), if_pos (by omega)]; congr 1; omega
      · rw [if_pos (by omega)]) (fun _ h => by
      have := h.2
      unfold fk at this
      rw [if_neg (by omega), if_pos (by omega)] at this
      cases this))
  -- 4: b's place
  obtain ⟨I4, c4, g4⟩ := left_gap K Q' (i := p + 1 + m + 1) (y' := p + u + m + 1) (z' := p + 1 + m + v) (o := 3) I3 (runs_no (fun _ h => by
      have := h.2
      unfold fk at this
      rw [if_neg (by omega), if_pos (by omega)] at this
      cases this)) (Or.inl (by omega))
    (nx_is _ _ _ _ _ (by omega) (by omega) (fun j h1 h2 h => by
      have := h.2
      obtain rfl : j = p + 1 + m := by omega
      unfold fk at this
      rw [if_neg (by omega), if_pos rfl] at this
      cases this) (fun _ => by
      unfold fk
      rw [if_neg (by omega), if_neg (by omega), if_pos (by omega), if_neg (by omega), if_neg (by omega), if_pos (by omega)]
      exact ⟨rfl, rfl⟩))
    (by
      unfold nextO fk
      by_cases h : p + 1 + m + 1 < B.length
      · rw [if_pos h, if_neg (by omega), if_neg (by omega), if_pos (by omega)]; simp; omega
      · rw [if_neg h]; omega)
    (by
      unfold nextO fk
      by_cases h : p + 1 + m + 1 < B.length
      · rw [if_pos h, if_neg (by omega), if_neg (by omega), if_pos (by omega)]; simp
      · rw [if_neg h]; omega)
    (by rw [pB3, pO3, pT3]; exact o2)
  -- 5: to the end
  obtain ⟨I5, c5, g5⟩ := left_run K Q' (n := n) I4 (rn_is _ _ n _ _ _ _ (by omega) (fun j hj => by
      unfold fk
      constructor
      · rw [if_neg (by omega), if_neg (by omega), if_pos (by omega)]; congr 1; omega
      · rw [if_neg (by omega), if_neg (by omega), if_pos (by omega)]; congr 1; omega) (fun h => by omega))
  have e5 : left B O T (fk p u (m + 1 + n)) (fk (p + 1 + m) v n) (p + 1 + m + 1 + n) (p + u + m + 1 + n) (p + 1 + m + v + n) = [] := ch_end _ _ _ _ (by omega)
  rw [e5] at c5 g5
  have hc : cleanB (left B O T (fk p u (m + 1 + n)) (fk (p + 1 + m) v n) 0 0 0) = true := by rw [c1, c2, c3, c4, c5]; rfl
  have hg : mg O T (left B O T (fk p u (m + 1 + n)) (fk (p + 1 + m) v n) 0 0 0) = P ++ (U ++ (M ++ (V ++ Q))) := by
    rw [g1, g2, g3, g4, g5, pT0, if_neg (by omega), pO1, pT2, if_pos (by omega), pT3, pT4]
    show P ++ (U ++ (M ++ (V ++ (Q ++ [])))) = _
    rw [List.append_nil]
  rw [hc, if_pos rfl, hg]

end Go.Proofs.Ytipgofglidmffaa.Wv
