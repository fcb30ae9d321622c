/-
  THREE LISTS WOVEN: with the same new number ahead of all three, or behind. No program.
-/
import Derived.Test.YtipgofglidmffaaWvLaws
namespace Go.Proofs.Ytipgofglidmffaa.Wv
open Go.Proofs.Ytipgofglidmffaa.Lc
set_option linter.unusedVariables false

section
variable {B O T : List Int} {k q : Nat → Option Nat}
theorem ch_fuel (K : Keeps B O k) (Q : Keeps B T q) : ∀ (f f' x y z : Nat), Inv B O T k q x y z → rest B O T x y z ≤ f → rest B O T x y z ≤ f' → ch B O T k q f x y z = ch B O T k q f' x y z
  | f, f', x, y, z, I, h, h' => by
    by_cases hr : x < B.length ∨ y < O.length ∨ z < T.length
    · have b1 := I.bx
      have b2 := I.by'
      have b3 := I.bz
      unfold rest at h h'
      match f, f', h, h' with
      | 0, _, h, _ => omega
      | _ + 1, 0, _, h' => omega
      | f + 1, f' + 1, h, h' =>
        rw [ch, ch, if_pos hr, if_pos hr]
        by_cases h0 : runs B k q x y z ≠ 0
        · have I' := I.run K Q h0
          have c1 := I'.bx
          rw [if_pos h0, if_pos h0, ch_fuel K Q f f' _ _ _ I' (by unfold rest; omega) (by unfold rest; omega)]
        · obtain ⟨I', h1, h2, h3⟩ := I.gap K Q
          have hg := gap_goes K Q I (by omega) hr
          have c1 := I'.bx
          have c2 := I'.by'
          have c3 := I'.bz
          rw [if_neg h0, if_neg h0, ch_fuel K Q f f' _ _ _ I' (by unfold rest; omega) (by unfold rest; omega)]
    · rw [ch_end f x y z hr, ch_end f' x y z hr]
end

/-! Ahead. -/
def sh (p : Nat × Nat) : Nat × Nat := (p.1 + 1, p.2 + 1)
theorem pp_shift : ∀ (n i k : Nat) (a b : List Int), a.length + b.length ≤ n → pp (i + 1) (k + 1) a b = (pp i k a b).map sh
  | _, i, k, [], b, _ => by rw [pp_nil, pp_nil]; rfl
  | _, i, k, x :: a, [], _ => by rw [pp_nil2, pp_nil2]; rfl
  | 0, i, k, x :: a, y :: b, h => by simp at h
  | n + 1, i, k, x :: a, y :: b, h => by
    simp only [List.length_cons] at h
    by_cases e : x = y
    · rw [pp_yes e, pp_yes e, pp_shift n (i + 1) (k + 1) a b (by omega)]; rfl
    · by_cases hl : lcs (x :: a) b ≤ lcs a (y :: b)
      · rw [pp_left e _ _ _ _ hl, pp_left e _ _ _ _ hl, pp_shift n (i + 1) k a (y :: b) (by simp; omega)]
      · rw [pp_right e _ _ _ _ hl, pp_right e _ _ _ _ hl, pp_shift n i (k + 1) (x :: a) b (by simp; omega)]
theorem pairs_cons (x : Int) (a b : List Int) : pairs (x :: a) (x :: b) = (0, 0) :: (pairs a b).map sh := by
  unfold pairs
  rw [pp_yes rfl, pp_shift _ 0 0 a b (Nat.le_refl _)]
def up (k : Nat → Option Nat) : Nat → Option Nat
  | 0 => some 0
  | i + 1 => (k i).map (· + 1)
theorem kp_up (l : List (Nat × Nat)) : kp ((0, 0) :: l.map sh) = up (kp l) := by
  funext i
  cases i with
  | zero => rfl
  | succ i =>
    show Option.map Prod.snd (List.find? (fun p => p.1 == i + 1) ((0, 0) :: l.map sh)) = Option.map (· + 1) (Option.map Prod.snd (l.find? (fun p => p.1 == i)))
    rw [List.find?_cons_of_neg (by simp), List.find?_map]
    have : ((fun p : Nat × Nat => p.1 == i + 1) ∘ sh) = fun p => p.1 == i := by
      funext p
      show (p.1 + 1 == i + 1) = (p.1 == i)
      simp
    rw [this]
    cases l.find? (fun p => p.1 == i) with
    | none => rfl
    | some p => rfl
theorem up_iff (k : Nat → Option Nat) (x y : Nat) : up k (x + 1) = some (y + 1) ↔ k x = some y := by
  show (k x).map (· + 1) = some (y + 1) ↔ _
  cases k x with
  | none => simp
  | some j => simp
theorem up_some (k : Nat → Option Nat) (x : Nat) : (up k (x + 1)).isSome = (k x).isSome := by
  show ((k x).map (· + 1)).isSome = _
  cases k x <;> rfl
theorem rn_up (k q : Nat → Option Nat) : ∀ f x y z, rn (up k) (up q) f (x + 1) (y + 1) (z + 1) = rn k q f x y z
  | 0, _, _, _ => rfl
  | f + 1, x, y, z => by
    unfold rn
    rw [rn_up k q f]
    by_cases h : k x = some y ∧ q x = some z
    · rw [if_pos h, if_pos ⟨(up_iff k x y).2 h.1, (up_iff q x z).2 h.2⟩]
    · rw [if_neg h, if_neg (fun e => h ⟨(up_iff k x y).1 e.1, (up_iff q x z).1 e.2⟩)]
theorem nx_up (k q : Nat → Option Nat) : ∀ f x, nx (up k) (up q) f (x + 1) = nx k q f x + 1
  | 0, _ => rfl
  | f + 1, x => by
    unfold nx
    rw [nx_up k q f, up_some, up_some]
    split <;> rfl
def shc (c : Ch) : Ch := ⟨c.b1 + 1, c.b2 + 1, c.o1 + 1, c.o2 + 1, c.t1 + 1, c.t2 + 1, c.out⟩
theorem part_cons (x : Int) (l : List Int) (a b : Nat) : part (x :: l) (a + 1) (b + 1) = part l a b := by
  unfold part
  rw [List.drop_succ_cons, Nat.add_sub_add_right]
theorem nextO_up {B O : List Int} {k : Nat → Option Nat} (x : Int) {i : Nat} (h : i < B.length → (k i).isSome = true) : nextO (x :: B) (x :: O) (up k) (i + 1) = nextO B O k i + 1 := by
  unfold nextO
  by_cases hi : i < B.length
  · rw [if_pos (by simpa using hi), if_pos hi]
    show ((k i).map (· + 1)).getD 0 = (k i).getD 0 + 1
    have := h hi
    cases hk : k i with
    | none => rw [hk] at this; cases this
    | some j => rfl
  · rw [if_neg (by simpa using hi), if_neg hi]
    rfl
theorem ch_up (w : Int) (B O T : List Int) (k q : Nat → Option Nat) : ∀ f x y z, x ≤ B.length → ch (w :: B) (w :: O) (w :: T) (up k) (up q) f (x + 1) (y + 1) (z + 1) = (ch B O T k q f x y z).map shc
  | 0, _, _, _, _ => rfl
  | f + 1, x, y, z, hx => by
    have r : runs (w :: B) (up k) (up q) (x + 1) (y + 1) (z + 1) = runs B k q x y z := by
      unfold runs; rw [List.length_cons, Nat.add_sub_add_right, rn_up]
    have nn : next (w :: B) (up k) (up q) (x + 1) = next B k q x + 1 := by
      unfold next; rw [List.length_cons, Nat.add_sub_add_right, nx_up]
    have hn := next_le (k := k) (q := q) hx
    have hs : next B k q x < B.length → (k (next B k q x)).isSome = true ∧ (q (next B k q x)).isSome = true := fun h => nx_found k q (B.length - x) x (by unfold next at h; omega)
    have n1 := nextO_up (B := B) (O := O) (k := k) w (fun h => (hs h).1)
    have n2 := nextO_up (B := B) (O := T) (k := q) w (fun h => (hs h).2)
    have hl := rn_le k q (B.length - x) x y z
    by_cases hr : x < B.length ∨ y < O.length ∨ z < T.length
    · have hr' : x + 1 < (w :: B).length ∨ y + 1 < (w :: O).length ∨ z + 1 < (w :: T).length := by simpa using hr
      rw [ch, ch, if_pos hr, if_pos hr', r, nn, n1, n2]
      by_cases h0 : runs B k q x y z ≠ 0
      · rw [if_pos h0, if_pos h0, List.map_cons]
        rw [show x + 1 + runs B k q x y z = x + runs B k q x y z + 1 by omega, show y + 1 + runs B k q x y z = y + runs B k q x y z + 1 by omega, show z + 1 + runs B k q x y z = z + runs B k q x y z + 1 by omega,
          ch_up w B O T k q f _ _ _ (by change runs B k q x y z ≤ _ at hl; omega)]
        rfl
      · rw [if_neg h0, if_neg h0, List.map_cons, part_cons, part_cons, part_cons, ch_up w B O T k q f _ _ _ hn.2]
        rfl
    · have hr' : ¬ (x + 1 < (w :: B).length ∨ y + 1 < (w :: O).length ∨ z + 1 < (w :: T).length) := by simpa using hr
      rw [ch, ch, if_neg hr, if_neg hr']; rfl
theorem mg_up (w : Int) (O T : List Int) (l : List Ch) : mg (w :: O) (w :: T) (l.map shc) = mg O T l := by
  unfold mg
  rw [List.flatMap_map]
  congr 1
  funext c
  show (if c.out = 1 ∨ c.out = 3 then part (w :: T) (c.t1 + 1) (c.t2 + 1) else part (w :: O) (c.o1 + 1) (c.o2 + 1)) = _
  rw [part_cons, part_cons]
theorem clean_up (l : List Ch) : cleanB (l.map shc) = cleanB l := by
  unfold cleanB
  rw [List.all_map]
  rfl
theorem mg_cons (O T : List Int) (c : Ch) (l : List Ch) : mg O T (c :: l) = (if c.out = 1 ∨ c.out = 3 then part T c.t1 c.t2 else part O c.o1 c.o2) ++ mg O T l := rfl
theorem clean_cons (c : Ch) (l : List Ch) : cleanB (c :: l) = (c.out != 5 && cleanB l) := rfl
theorem part_zero (w : Int) (l : List Int) (n : Nat) : part (w :: l) 0 (n + 1) = w :: part l 0 n := rfl
theorem part_nil (l : List Int) (a : Nat) : part l a a = [] := by unfold part; rw [Nat.sub_self, List.take_zero]
theorem merge_ahead (w : Int) (B O T : List Int) : merge (w :: B) (w :: O) (w :: T) = if (merge B O T).2 then (w :: (merge B O T).1, true) else ([], false) := by
  have K := keeps_pairs B O
  have Q := keeps_pairs B T
  have e1 : kp (pairs (w :: B) (w :: O)) = up (kp (pairs B O)) := by rw [pairs_cons, kp_up]
  have e2 : kp (pairs (w :: B) (w :: T)) = up (kp (pairs B T)) := by rw [pairs_cons, kp_up]
  have main : cleanB (chunks (w :: B) (w :: O) (w :: T)) = cleanB (chunks B O T) ∧ mg (w :: O) (w :: T) (chunks (w :: B) (w :: O) (w :: T)) = w :: mg O T (chunks B O T) := by
    unfold chunks
    rw [e1, e2]
    generalize kp (pairs B O) = k at *
    generalize kp (pairs B T) = q at *
    have I0 : Inv B O T k q 0 0 0 := Inv.start
    rw [show rest (w :: B) (w :: O) (w :: T) 0 0 0 = rest B O T 0 0 0 + 2 + 1 by unfold rest; simp only [List.length_cons]; omega]
    have hr : runs (w :: B) (up k) (up q) 0 0 0 = runs B k q 0 0 0 + 1 := by
      unfold runs
      show rn (up k) (up q) (B.length + 1) 0 0 0 = _
      rw [rn, if_pos ⟨rfl, rfl⟩, rn_up]
      rfl
    have hl : runs B k q 0 0 0 ≤ B.length := rn_le k q (B.length - 0) 0 0 0
    rw [ch, if_pos (Or.inl (by simp)), if_pos (by rw [hr]; omega), hr]
    simp only [Nat.zero_add]
    rw [ch_up w B O T k q _ _ _ _ hl, mg_cons, clean_cons, mg_up, clean_up]
    show ((1 : Nat) != 5 && _) = _ ∧ part (w :: T) 0 (runs B k q 0 0 0 + 1) ++ _ = _
    rw [part_zero]
    by_cases h0 : runs B k q 0 0 0 ≠ 0
    · have I' := I0.run K Q h0
      simp only [Nat.zero_add] at I'
      have c2 := I'.by'
      have c3 := I'.bz
      have hB : 0 < B.length := by omega
      obtain ⟨r, hR⟩ : ∃ r, rest B O T 0 0 0 = r + 1 := ⟨rest B O T 0 0 0 - 1, by unfold rest; omega⟩
      have hk : rest B O T (runs B k q 0 0 0) (runs B k q 0 0 0) (runs B k q 0 0 0) ≤ r := by unfold rest at hR ⊢; omega
      have hf := ch_fuel K Q (r + 1 + 2) r _ _ _ I' (by omega) hk
      rw [hR, hf]
      rw [show ch B O T k q (r + 1) 0 0 0 = ⟨0, runs B k q 0 0 0, 0, runs B k q 0 0 0, 0, runs B k q 0 0 0, 1⟩ :: ch B O T k q r (runs B k q 0 0 0) (runs B k q 0 0 0) (runs B k q 0 0 0) by
        rw [ch, if_pos (Or.inl hB), if_pos h0]; simp only [Nat.zero_add]]
      rw [mg_cons, clean_cons]
      exact ⟨rfl, rfl⟩
    · have e0 : runs B k q 0 0 0 = 0 := by omega
      rw [e0, ch_fuel K Q (rest B O T 0 0 0 + 2) (rest B O T 0 0 0) 0 0 0 I0 (by omega) (Nat.le_refl _), part_nil]
      exact ⟨by simp, rfl⟩
  unfold merge
  rw [main.1, main.2]
  cases cleanB (chunks B O T) <;> rfl

/-! Behind. -/
theorem pp_app (w : Int) : ∀ (n i k : Nat) (a b : List Int), a.length + b.length ≤ n → w ∉ a → w ∉ b → pp i k (a ++ [w]) (b ++ [w]) = pp i k a b ++ [(i + a.length, k + b.length)]
  | 0, i, k, [], [], _, _, _ => by rw [pp_nil, List.nil_append, pp_yes rfl, pp_nil]; rfl
  | n + 1, i, k, [], [], _, _, _ => by rw [pp_nil, List.nil_append, pp_yes rfl, pp_nil]; rfl
  | 0, i, k, [], y :: b, h, _, _ => by simp at h
  | n + 1, i, k, [], y :: b, h, ha, hb => by
    have e : w ≠ y := fun e => hb (by rw [e]; exact List.mem_cons_self ..)
    have ih := pp_app w n i (k + 1) [] b (by simp at h ⊢; omega) ha (fun h' => hb (List.mem_cons_of_mem _ h'))
    rw [List.nil_append, List.cons_append]
    have hl : ¬ lcs [w] (b ++ [w]) ≤ lcs [] (y :: (b ++ [w])) := by
      rw [lcs_nil]
      have := most (List.Sublist.refl [w]) (List.sublist_append_right b [w])
      simp at this
      omega
    rw [pp_right e _ _ _ _ hl]
    rw [List.nil_append] at ih
    rw [ih, pp_nil, pp_nil]
    simp
    omega
  | 0, i, k, x :: a, b, h, _, _ => by simp at h
  | n + 1, i, k, x :: a, [], h, ha, hb => by
    have e : x ≠ w := fun e => ha (by rw [e]; exact List.mem_cons_self ..)
    have ih := pp_app w n (i + 1) k a [] (by simp at h ⊢; omega) (fun h' => ha (List.mem_cons_of_mem _ h')) hb
    rw [List.nil_append] at ih
    rw [List.cons_append, List.nil_append, pp_left e _ _ _ _ (by rw [lcs_nil2]; exact Nat.zero_le _), ih, pp_nil2, pp_nil2]
    simp
    omega
  | n + 1, i, k, x :: a, y :: b, h, ha, hb => by
    simp only [List.length_cons] at h
    have ha' : w ∉ a := fun h' => ha (List.mem_cons_of_mem _ h')
    have hb' : w ∉ b := fun h' => hb (List.mem_cons_of_mem _ h')
    have l1 := lcs_both (x :: a) b w
    have l2 := lcs_both a (y :: b) w
    have i1 := pp_app w n i (k + 1) (x :: a) b (by simp; omega) ha hb'
    have i2 := pp_app w n (i + 1) k a (y :: b) (by simp; omega) ha' hb
    rw [List.cons_append] at l1 l2 i1 i2
    rw [List.cons_append, List.cons_append]
    by_cases e : x = y
    · rw [pp_yes e, pp_yes e, pp_app w n (i + 1) (k + 1) a b (by omega) ha' hb', List.cons_append]
      simp
      omega
    · by_cases hl : lcs (x :: a) b ≤ lcs a (y :: b)
      · rw [pp_left e _ _ _ _ (by rw [l1, l2]; omega), pp_left e _ _ _ _ hl, i2]
        simp
        omega
      · rw [pp_right e _ _ _ _ (by rw [l1, l2]; omega), pp_right e _ _ _ _ hl, i1]
        simp
        omega
theorem pairs_app (w : Int) (a b : List Int) (ha : w ∉ a) (hb : w ∉ b) : pairs (a ++ [w]) (b ++ [w]) = pairs a b ++ [(a.length, b.length)] := by
  unfold pairs
  rw [pp_app w _ 0 0 a b (Nat.le_refl _) ha hb]
  simp
def dn (k : Nat → Option Nat) (n m : Nat) : Nat → Option Nat := fun i => if i = n then some m else k i
theorem kp_dn (a b : List Int) : kp (pairs a b ++ [(a.length, b.length)]) = dn (kp (pairs a b)) a.length b.length := by
  funext i
  unfold dn kp
  rw [List.find?_append]
  by_cases e : i = a.length
  · subst e
    rw [if_pos rfl]
    cases hf : (pairs a b).find? (fun p => p.1 == a.length) with
    | none => simp
    | some p =>
      exfalso
      have h1 := List.find?_some hf
      obtain ⟨h2, _⟩ := pairs_ok a b p (List.mem_of_find?_eq_some hf)
      simp at h1
      omega
  · rw [if_neg e]
    cases hf : (pairs a b).find? (fun p => p.1 == i) with
    | none =>
      have : ¬ a.length = i := fun h => e h.symm
      simp [this]
    | some p => simp
theorem rn_dn (k q : Nat → Option Nat) (N M L : Nat) : ∀ f x y z, x + f = N → rn (dn k N M) (dn q N L) (f + 1) x y z = rn k q f x y z + (if x + rn k q f x y z = N ∧ y + rn k q f x y z = M ∧ z + rn k q f x y z = L then 1 else 0)
  | 0, x, y, z, h => by
    rw [rn, rn, rn]
    have hx : x = N := by omega
    subst hx
    simp only [dn, if_true, Nat.add_zero, Nat.zero_add, true_and, Option.some.injEq]
    by_cases h' : M = y ∧ L = z
    · rw [if_pos h', if_pos ⟨h'.1.symm, h'.2.symm⟩]
    · rw [if_neg h', if_neg (fun e => h' ⟨e.1.symm, e.2.symm⟩)]
  | f + 1, x, y, z, h => by
    have hx : x ≠ N := by omega
    have ih := rn_dn k q N M L f (x + 1) (y + 1) (z + 1) (by omega)
    rw [rn, show rn k q (f + 1) x y z = if k x = some y ∧ q x = some z then rn k q f (x + 1) (y + 1) (z + 1) + 1 else 0 from rfl]
    have d1 : dn k N M x = k x := if_neg hx
    have d2 : dn q N L x = q x := if_neg hx
    rw [d1, d2]
    by_cases hs : k x = some y ∧ q x = some z
    · rw [if_pos hs, if_pos hs, ih]
      rw [show x + (rn k q f (x + 1) (y + 1) (z + 1) + 1) = x + 1 + rn k q f (x + 1) (y + 1) (z + 1) by omega, show y + (rn k q f (x + 1) (y + 1) (z + 1) + 1) = y + 1 + rn k q f (x + 1) (y + 1) (z + 1) by omega, show z + (rn k q f (x + 1) (y + 1) (z + 1) + 1) = z + 1 + rn k q f (x + 1) (y + 1) (z + 1) by omega]
      omega
    · rw [if_neg hs, if_neg hs, if_neg (by omega)]
theorem nx_dn (k q : Nat → Option Nat) (N M L : Nat) : ∀ f x, x + f = N → nx (dn k N M) (dn q N L) (f + 1) x = nx k q f x
  | 0, x, h => by
    have hx : x = N := by omega
    subst hx
    rw [nx, nx, nx]
    simp [dn]
  | f + 1, x, h => by
    have hx : x ≠ N := by omega
    have ih := nx_dn k q N M L f (x + 1) (by omega)
    rw [nx, show nx k q (f + 1) x = if (k x).isSome = true ∧ (q x).isSome = true then x else nx k q f (x + 1) from rfl, ih]
    have d1 : dn k N M x = k x := if_neg hx
    have d2 : dn q N L x = q x := if_neg hx
    rw [d1, d2]
theorem part_app (l : List Int) (w : Int) {a b : Nat} (hb : b ≤ l.length) : part (l ++ [w]) a b = part l a b := by
  unfold part
  apply List.ext_getElem?
  intro m
  by_cases hm : m < b - a
  · rw [List.getElem?_take_of_lt hm, List.getElem?_take_of_lt hm, List.getElem?_drop, List.getElem?_drop, List.getElem?_append_left (by omega)]
  · rw [List.getElem?_eq_none_iff.2 (by rw [List.length_take]; omega), List.getElem?_eq_none_iff.2 (by rw [List.length_take]; omega)]
theorem part_last (l : List Int) (w : Int) {a : Nat} (ha : a ≤ l.length) : part (l ++ [w]) a (l.length + 1) = part l a l.length ++ [w] := by
  unfold part
  rw [List.drop_append_of_le_length ha, List.take_of_length_le (by rw [List.length_append, List.length_drop]; simp; omega), List.take_of_length_le (by rw [List.length_drop]; omega)]
theorem nextO_dn {B O : List Int} {k : Nat → Option Nat} (w : Int) {i : Nat} (hi : i ≤ B.length) : nextO (B ++ [w]) (O ++ [w]) (dn k B.length O.length) i = nextO B O k i := by
  unfold nextO
  rw [if_pos (by rw [List.length_append]; simp; omega)]
  by_cases h : i < B.length
  · rw [if_pos h, show dn k B.length O.length i = k i from if_neg (by omega)]
  · rw [if_neg h, show dn k B.length O.length i = some O.length from if_pos (by omega)]
    rfl
section
variable {B O T : List Int} {k q : Nat → Option Nat}
theorem ch_behind (w : Int) (K : Keeps B O k) (Q : Keeps B T q) : ∀ (f g x y z : Nat), Inv B O T k q x y z → rest B O T x y z ≤ f → f + 1 ≤ g →
    cleanB (ch (B ++ [w]) (O ++ [w]) (T ++ [w]) (dn k B.length O.length) (dn q B.length T.length) g x y z) = cleanB (ch B O T k q f x y z) ∧
    mg (O ++ [w]) (T ++ [w]) (ch (B ++ [w]) (O ++ [w]) (T ++ [w]) (dn k B.length O.length) (dn q B.length T.length) g x y z) = mg O T (ch B O T k q f x y z) ++ [w]
  | f, g, x, y, z, I, hf, hg => by
    have b1 := I.bx
    have b2 := I.by'
    have b3 := I.bz
    have L1 : (B ++ [w]).length = B.length + 1 := by simp
    have L2 : (O ++ [w]).length = O.length + 1 := by simp
    have L3 : (T ++ [w]).length = T.length + 1 := by simp
    have hrn : runs (B ++ [w]) (dn k B.length O.length) (dn q B.length T.length) x y z = runs B k q x y z + (if x + runs B k q x y z = B.length ∧ y + runs B k q x y z = O.length ∧ z + runs B k q x y z = T.length then 1 else 0) := by
      unfold runs
      rw [L1, show B.length + 1 - x = B.length - x + 1 by omega]
      exact rn_dn k q B.length O.length T.length (B.length - x) x y z (by omega)
    have hnx : next (B ++ [w]) (dn k B.length O.length) (dn q B.length T.length) x = next B k q x := by
      unfold next
      rw [L1, show B.length + 1 - x = B.length - x + 1 by omega]
      exact nx_dn k q B.length O.length T.length (B.length - x) x (by omega)
    have hr' : x < (B ++ [w]).length ∨ y < (O ++ [w]).length ∨ z < (T ++ [w]).length := Or.inl (by omega)
    obtain ⟨g, rfl⟩ : ∃ g', g = g' + 1 := ⟨g - 1, by omega⟩
    by_cases hr : x < B.length ∨ y < O.length ∨ z < T.length
    · unfold rest at hf
      match f, hf, hg with
      | 0, hf, _ => omega
      | f + 1, hf, hg =>
        by_cases h0 : runs B k q x y z ≠ 0
        · have I' := I.run K Q h0
          have c1 := I'.bx
          have c2 := I'.by'
          have c3 := I'.bz
          by_cases he : x + runs B k q x y z = B.length ∧ y + runs B k q x y z = O.length ∧ z + runs B k q x y z = T.length
          · obtain ⟨e1, e2, e3⟩ := he
            rw [if_pos ⟨e1, e2, e3⟩] at hrn
            rw [ch, if_pos hr', hrn, if_pos (by omega), ch, if_pos hr, if_pos h0, ch_end _ _ _ _ (by omega), ch_end _ _ _ _ (by omega), mg_cons, mg_cons, clean_cons, clean_cons]
            refine ⟨rfl, ?_⟩
            show part (T ++ [w]) z (z + (runs B k q x y z + 1)) ++ mg _ _ [] = (part T z (z + runs B k q x y z) ++ mg _ _ []) ++ [w]
            rw [show z + (runs B k q x y z + 1) = T.length + 1 by omega, e3, part_last T w b3]
            show (part T z T.length ++ [w]) ++ [] = (part T z T.length ++ []) ++ [w]
            rw [List.append_nil, List.append_nil]
          · rw [if_neg he, Nat.add_zero] at hrn
            rw [ch, if_pos hr', hrn, if_pos h0, ch, if_pos hr, if_pos h0]
            obtain ⟨i1, i2⟩ := ch_behind w K Q f g _ _ _ I' (by unfold rest; omega) (by omega)
            rw [mg_cons, mg_cons, clean_cons, clean_cons, i1, i2]
            refine ⟨rfl, ?_⟩
            show part (T ++ [w]) z (z + runs B k q x y z) ++ _ = _
            rw [part_app T w c3, ← List.append_assoc]
            rfl
        · have e0 : runs B k q x y z = 0 := by omega
          obtain ⟨I', h1, h2, h3⟩ := I.gap K Q
          have hgo := gap_goes K Q I e0 hr
          have c1 := I'.bx
          have c2 := I'.by'
          have c3 := I'.bz
          rw [e0, if_neg (by omega)] at hrn
          rw [ch, if_pos hr', hrn, if_neg (by omega), ch, if_pos hr, if_neg h0, hnx, nextO_dn (O := O) w c1, nextO_dn (O := T) w c1, part_app B w c1, part_app O w c2, part_app T w c3]
          obtain ⟨i1, i2⟩ := ch_behind w K Q f g _ _ _ I' (by unfold rest; omega) (by omega)
          rw [mg_cons, mg_cons, clean_cons, clean_cons, i1, i2]
          refine ⟨rfl, ?_⟩
          rw [← List.append_assoc]
          congr 1
          congr 1
          show (if _ then part (T ++ [w]) z (nextO B T q (next B k q x)) else part (O ++ [w]) y (nextO B O k (next B k q x))) = _
          rw [part_app O w c2, part_app T w c3]
    · have ex : x = B.length := by omega
      have ey : y = O.length := by omega
      have ez : z = T.length := by omega
      subst ex; subst ey; subst ez
      have e0 : runs B k q B.length O.length T.length = 0 := by unfold runs; rw [Nat.sub_self]; rfl
      rw [ch_end f _ _ _ hr, ch, if_pos hr', hrn, e0]
      simp only [Nat.add_zero, and_self, if_true, Nat.zero_add]
      rw [if_pos (by omega), ch_end _ _ _ _ (by omega), mg_cons, clean_cons]
      refine ⟨rfl, ?_⟩
      show part (T ++ [w]) T.length (T.length + 1) ++ [] = [] ++ [w]
      rw [part_last T w (Nat.le_refl _), part_nil]
      rfl
end
theorem merge_behind (w : Int) (B O T : List Int) (hB : w ∉ B) (hO : w ∉ O) (hT : w ∉ T) : merge (B ++ [w]) (O ++ [w]) (T ++ [w]) = if (merge B O T).2 then ((merge B O T).1 ++ [w], true) else ([], false) := by
  have e1 : kp (pairs (B ++ [w]) (O ++ [w])) = dn (kp (pairs B O)) B.length O.length := by rw [pairs_app w B O hB hO, kp_dn]
  have e2 : kp (pairs (B ++ [w]) (T ++ [w])) = dn (kp (pairs B T)) B.length T.length := by rw [pairs_app w B T hB hT, kp_dn]
  have main := ch_behind w (keeps_pairs B O) (keeps_pairs B T) (rest B O T 0 0 0) (rest (B ++ [w]) (O ++ [w]) (T ++ [w]) 0 0 0) 0 0 0 Inv.start (Nat.le_refl _) (by unfold rest; simp; omega)
  have m1 : cleanB (chunks (B ++ [w]) (O ++ [w]) (T ++ [w])) = cleanB (chunks B O T) := by unfold chunks; rw [e1, e2]; exact main.1
  have m2 : mg (O ++ [w]) (T ++ [w]) (chunks (B ++ [w]) (O ++ [w]) (T ++ [w])) = mg O T (chunks B O T) ++ [w] := by unfold chunks; rw [e1, e2]; exact main.2
  unfold merge
  rw [m1, m2]
  cases cleanB (chunks B O T) <;> rfl

end Go.Proofs.Ytipgofglidmffaa.Wv
