/-
  Several texts in one:
  TOKENS, in plain words: the tokens of a list of bytes, and the numbers of texts among lists, and what is true of them. No program.
  SPANS, in plain words: reading, writing, and that what is written is read as it was. No program.
  SPANS: what is written is read as it was. No program.
  SPANS: what is read can be: kinds, kids, neighbours. No program.
-/
import Derived.Sort.Walk0
namespace Go.Proofs.YtjgmfgnfdaeelaaGreatDoor.Tk
set_option linter.unusedVariables false

/-! Tokens. -/
def cls (b : UInt8) : Nat :=
  if b = 10 ∨ b = 13 then 3 else if b = 9 ∨ b = 32 then 2
  else if (33 ≤ b ∧ b ≤ 47) ∨ (58 ≤ b ∧ b ≤ 64) ∨ (91 ≤ b ∧ b ≤ 96) ∨ (123 ≤ b ∧ b ≤ 126) then 4 else 1
def joins (a b : UInt8) : Bool := cls a == cls b && decide (cls b < 3)
/-- The tokens of what is left, behind what the token that is open holds. -/
def tc : List UInt8 → List UInt8 → List (List UInt8)
  | cur, [] => if cur = [] then [] else [cur]
  | cur, b :: r =>
    match cur.getLast? with
    | none => tc [b] r
    | some a => if joins a b then tc (cur ++ [b]) r else cur :: tc [b] r
def toks (l : List UInt8) : List (List UInt8) := tc [] l
theorem tc_nil : tc [] [] = [] := rfl
theorem tc_end (cur : List UInt8) (h : cur ≠ []) : tc cur [] = [cur] := by rw [tc, if_neg h]
theorem tc_new (b : UInt8) (r : List UInt8) : tc [] (b :: r) = tc [b] r := rfl
theorem tc_on (c : List UInt8) (a b : UInt8) (r : List UInt8) (h : joins a b = true) : tc (c ++ [a]) (b :: r) = tc (c ++ [a] ++ [b]) r := by
  rw [tc, List.getLast?_concat]; simp only [h, if_true]
theorem tc_cut (c : List UInt8) (a b : UInt8) (r : List UInt8) (h : joins a b = false) : tc (c ++ [a]) (b :: r) = (c ++ [a]) :: tc [b] r := by
  rw [tc, List.getLast?_concat]; simp [h]
theorem snoc_of {c : List UInt8} (h : c ≠ []) : ∃ d a, c = d ++ [a] := ⟨c.dropLast, c.getLast h, (List.dropLast_concat_getLast h).symm⟩
theorem tc_flat : ∀ (r cur : List UInt8), (tc cur r).flatten = cur ++ r
  | [], cur => by
    by_cases h : cur = []
    · subst h; rfl
    · rw [tc_end _ h]; simp
  | b :: r, cur => by
    by_cases h : cur = []
    · subst h; rw [tc_new, tc_flat r [b]]; rfl
    · obtain ⟨c, a, rfl⟩ := snoc_of h
      cases hj : joins a b with
      | true => rw [tc_on _ _ _ _ hj, tc_flat r]; simp
      | false => rw [tc_cut _ _ _ _ hj, List.flatten_cons, tc_flat r]; simp
theorem toks_flat (l : List UInt8) : (toks l).flatten = l := tc_flat l []
/-- Bytes of one token. -/
def isRun : List UInt8 → Prop
  | [] => False
  | [_] => True
  | a :: b :: r => joins a b = true ∧ isRun (b :: r)
theorem isRun_ne {l : List UInt8} (h : isRun l) : l ≠ [] := by intro e; subst e; exact h
theorem isRun_snoc (a b : UInt8) (hj : joins a b = true) : ∀ c : List UInt8, isRun (c ++ [a]) → isRun (c ++ [a] ++ [b])
  | [], _ => ⟨hj, trivial⟩
  | [x], h => ⟨h.1, hj, trivial⟩
  | x :: y :: c, h => ⟨h.1, isRun_snoc a b hj (y :: c) h.2⟩
theorem isRun_joins (a b : UInt8) (r : List UInt8) : ∀ c : List UInt8, isRun (c ++ [a] ++ b :: r) → joins a b = true
  | [], h => h.1
  | [x], h => h.2.1
  | x :: y :: c, h => isRun_joins a b r (y :: c) h.2
theorem tc_runs : ∀ (r cur : List UInt8), (cur = [] ∨ isRun cur) → ∀ t ∈ tc cur r, isRun t
  | [], cur, h, t, ht => by
    by_cases hc : cur = []
    · subst hc; rw [tc_nil] at ht; cases ht
    · rw [tc_end _ hc] at ht
      simp at ht
      subst ht
      exact h.resolve_left hc
  | b :: r, cur, h, t, ht => by
    by_cases hc : cur = []
    · subst hc; exact tc_runs r [b] (Or.inr trivial) t ht
    · obtain ⟨c, a, rfl⟩ := snoc_of hc
      have hr := h.resolve_left hc
      cases hj : joins a b with
      | true =>
        rw [tc_on _ _ _ _ hj] at ht
        exact tc_runs r _ (Or.inr (isRun_snoc a b hj c hr)) t ht
      | false =>
        rw [tc_cut _ _ _ _ hj] at ht
        rcases List.mem_cons.1 ht with rfl | ht
        · exact hr
        · exact tc_runs r [b] (Or.inr trivial) t ht
theorem tc_run : ∀ (r cur : List UInt8), cur ≠ [] → isRun (cur ++ r) → tc cur r = [cur ++ r]
  | [], cur, hc, _ => by rw [tc_end _ hc, List.append_nil]
  | b :: r, cur, hc, h => by
    obtain ⟨c, a, rfl⟩ := snoc_of hc
    have hj := isRun_joins a b r c h
    rw [tc_on _ _ _ _ hj, tc_run r _ (by simp) (by simpa using h)]
    simp
theorem toks_run (t : List UInt8) (h : isRun t) : toks t = [t] := by
  cases t with
  | nil => exact absurd h (by simp [isRun])
  | cons b r => exact tc_run r [b] (by simp) h
theorem toks_again (l t : List UInt8) (h : t ∈ toks l) : toks t = [t] := toks_run t (tc_runs l [] (Or.inl rfl) t h)
theorem toks_ne (l t : List UInt8) (h : t ∈ toks l) : t ≠ [] := isRun_ne (tc_runs l [] (Or.inl rfl) t h)
theorem tc_len : ∀ (r cur : List UInt8), (tc cur r).length ≤ r.length + (if cur = [] then 0 else 1)
  | [], cur => by
    by_cases h : cur = []
    · subst h; simp [tc]
    · rw [tc_end _ h, if_neg h]; simp
  | b :: r, cur => by
    by_cases h : cur = []
    · subst h
      have := tc_len r [b]
      rw [if_neg (by simp)] at this
      rw [tc_new, if_pos rfl]
      simpa using this
    · rw [if_neg h]
      obtain ⟨c, a, rfl⟩ := snoc_of h
      cases hj : joins a b with
      | true =>
        have := tc_len r (c ++ [a] ++ [b])
        rw [if_neg (by simp)] at this
        rw [tc_on _ _ _ _ hj]
        simp only [List.length_cons]
        omega
      | false =>
        have := tc_len r [b]
        rw [if_neg (by simp)] at this
        rw [tc_cut _ _ _ _ hj]
        simp only [List.length_cons]
        omega
theorem toks_len (l : List UInt8) : (toks l).length ≤ l.length := by
  have := tc_len l []
  rwa [if_pos rfl] at this
theorem tc_mem_len : ∀ (r cur t : List UInt8), t ∈ tc cur r → t.length ≤ cur.length + r.length := by
  intro r cur t h
  have hf := tc_flat r cur
  obtain ⟨p, q, hpq⟩ := List.append_of_mem h
  rw [hpq] at hf
  have := congrArg List.length hf
  simp at this
  omega
/-- What a token's beginning is plays no part behind it. -/
theorem tc_pre : ∀ (r p q : List UInt8), q ≠ [] → ∃ t ts, tc q r = t :: ts ∧ tc (p ++ q) r = (p ++ t) :: ts
  | [], p, q, h => ⟨q, [], tc_end _ h, tc_end _ (by simp [h])⟩
  | b :: r, p, q, h => by
    obtain ⟨c, a, rfl⟩ := snoc_of h
    cases hj : joins a b with
    | true =>
      obtain ⟨t, ts, h1, h2⟩ := tc_pre r p (c ++ [a] ++ [b]) (by simp)
      refine ⟨t, ts, by rw [tc_on _ _ _ _ hj]; exact h1, ?_⟩
      rw [← List.append_assoc, tc_on _ _ _ _ hj, ← h2]
      simp
    | false =>
      refine ⟨c ++ [a], tc [b] r, tc_cut _ _ _ _ hj, ?_⟩
      rw [← List.append_assoc, tc_cut _ _ _ _ hj]
theorem tc_app (b : List UInt8) : ∀ (a cur : List UInt8), (cur ≠ [] ∨ a ≠ []) → ∃ ts t, tc cur a = ts ++ [t] ∧ tc cur (a ++ b) = ts ++ tc t b ∧ t ≠ []
  | [], cur, h => by
    have hc : cur ≠ [] := h.resolve_right (by simp)
    exact ⟨[], cur, tc_end _ hc, rfl, hc⟩
  | x :: a, cur, h => by
    by_cases hc : cur = []
    · subst hc
      exact tc_app b a [x] (Or.inl (by simp))
    · obtain ⟨c, y, rfl⟩ := snoc_of hc
      cases hj : joins y x with
      | true =>
        obtain ⟨ts, t, h1, h2, h3⟩ := tc_app b a (c ++ [y] ++ [x]) (Or.inl (by simp))
        exact ⟨ts, t, by rw [tc_on _ _ _ _ hj]; exact h1, by rw [List.cons_append, tc_on _ _ _ _ hj]; exact h2, h3⟩
      | false =>
        obtain ⟨ts, t, h1, h2, h3⟩ := tc_app b a [x] (Or.inl (by simp))
        exact ⟨(c ++ [y]) :: ts, t, by rw [tc_cut _ _ _ _ hj, h1]; rfl, by rw [List.cons_append, tc_cut _ _ _ _ hj, h2]; rfl, h3⟩
/-- Tokens of two texts, one behind the other. -/
theorem toks_parts (a b : List UInt8) : toks (a ++ b) = toks a ++ toks b ∨ ∃ ts t u us, toks a = ts ++ [t] ∧ toks b = u :: us ∧ toks (a ++ b) = ts ++ (t ++ u) :: us := by
  by_cases ha : a = []
  · subst ha; exact Or.inl rfl
  obtain ⟨ts, t, h1, h2, h3⟩ := tc_app b a [] (Or.inr ha)
  cases b with
  | nil =>
    left
    show tc [] (a ++ []) = tc [] a ++ tc [] []
    simp [tc_nil]
  | cons y r =>
    obtain ⟨c, x, rfl⟩ := snoc_of h3
    cases hj : joins x y with
    | true =>
      right
      obtain ⟨u, us, k1, k2⟩ := tc_pre r (c ++ [x]) [y] (by simp)
      exact ⟨ts, c ++ [x], u, us, h1, k1, by show tc [] (a ++ y :: r) = _; rw [h2, tc_on _ _ _ _ hj, k2]⟩
    | false =>
      left
      show tc [] (a ++ y :: r) = tc [] a ++ tc [] (y :: r)
      rw [h2, h1, tc_cut _ _ _ _ hj, tc_new]
      simp
theorem isRun_rep (c : UInt8) (h : cls c < 3) : ∀ n, isRun (List.replicate (n + 1) c)
  | 0 => trivial
  | n + 1 => ⟨by simp [joins, h], isRun_rep c h n⟩
theorem toks_rep_run (c : UInt8) (h : cls c < 3) (n : Nat) : (toks (List.replicate n c)).length = min n 1 := by
  cases n with
  | zero => rfl
  | succ n =>
    rw [toks_run _ (isRun_rep c h n)]
    simp
theorem tc_rep (c : UInt8) (h : ¬ cls c < 3) : ∀ n, (tc [c] (List.replicate n c)).length = n + 1
  | 0 => rfl
  | n + 1 => by
    rw [List.replicate_succ, show ([c] : List UInt8) = [] ++ [c] from rfl, tc_cut _ _ _ _ (by simp [joins, h]), List.length_cons, tc_rep c h n]
theorem toks_rep_mark (c : UInt8) (h : ¬ cls c < 3) (n : Nat) : (toks (List.replicate n c)).length = n := by
  cases n with
  | zero => rfl
  | succ n => exact tc_rep c h n

/-! Numbers of texts. -/
abbrev Tx := List UInt8
/-- Each text once. -/
def dd : List Tx → List Tx
  | [] => []
  | x :: r => if x ∈ r then dd r else x :: dd r
theorem mem_dd (y : Tx) : ∀ l, y ∈ dd l ↔ y ∈ l
  | [] => Iff.rfl
  | x :: r => by
    unfold dd
    split
    · rename_i h
      rw [mem_dd y r, List.mem_cons]
      exact ⟨Or.inr, fun h' => h'.elim (fun e => e ▸ h) id⟩
    · rw [List.mem_cons, List.mem_cons, mem_dd y r]
theorem dd_nodup : ∀ l, (dd l).Nodup
  | [] => List.nodup_nil
  | x :: r => by
    unfold dd
    split
    · exact dd_nodup r
    · rename_i h
      exact List.nodup_cons.2 ⟨fun h' => h ((mem_dd x r).1 h'), dd_nodup r⟩
theorem perm_dd {l : List Tx} (hn : l.Nodup) {m : List Tx} (h : ∀ y, y ∈ l ↔ y ∈ m) : l.Perm (dd m) :=
  (List.perm_ext_iff_of_nodup hn (dd_nodup m)).2 (fun y => (h y).trans (mem_dd y m).symm)
/-- How many unlike texts stand ahead. -/
def rank (all : List Tx) (x : Tx) : Nat := ((dd all).filter (fun y => decide (y < x))).length
theorem rank_of {l : List Tx} (hn : l.Nodup) {m : List Tx} (h : ∀ y, y ∈ l ↔ y ∈ m) (x : Tx) : (l.filter (fun y => decide (y < x))).length = rank m x :=
  ((perm_dd hn h).filter _).length_eq
theorem rank_same {l m : List Tx} (h : ∀ y, y ∈ l ↔ y ∈ m) (x : Tx) : rank l x = rank m x :=
  rank_of (dd_nodup l) (fun y => (mem_dd y l).trans (h y)) x
theorem dd_len {l m : List Tx} (h : ∀ y, y ∈ l ↔ y ∈ m) : (dd l).length = (dd m).length :=
  (perm_dd (dd_nodup l) (fun y => (mem_dd y l).trans (h y))).length_eq
theorem dd_snoc (l : List Tx) (x : Tx) : (dd (l ++ [x])).length = (dd l).length + (if x ∈ l then 0 else 1) := by
  by_cases h : x ∈ l
  · rw [if_pos h, Nat.add_zero]
    refine dd_len (fun y => ?_)
    simp only [List.mem_append, List.mem_singleton]
    exact ⟨fun h' => h'.elim id (fun e => e ▸ h), Or.inl⟩
  · rw [if_neg h]
    have : (x :: l).Perm (l ++ [x]) := (List.perm_append_singleton x l).symm
    have h2 : (dd (l ++ [x])).length = (dd (x :: l)).length := dd_len (fun y => (this.mem_iff).symm)
    rw [h2, dd, if_neg h]
    rfl
theorem lt_tri (x y : Tx) : x < y ∨ x = y ∨ y < x := by
  by_cases h1 : x < y
  · exact Or.inl h1
  · by_cases h2 : y < x
    · exact Or.inr (Or.inr h2)
    · exact Or.inr (Or.inl (List.le_antisymm (List.not_lt.1 h2) (List.not_lt.1 h1)))
theorem filter_strict {l : List Tx} {x y : Tx} (hx : x ∈ l) (h : x < y) : (l.filter (fun z => decide (z < x))).length < (l.filter (fun z => decide (z < y))).length := by
  induction l with
  | nil => cases hx
  | cons a l ih =>
    have hle : (l.filter (fun z => decide (z < x))).length ≤ (l.filter (fun z => decide (z < y))).length := by
      have : ∀ m : List Tx, (m.filter (fun z => decide (z < x))).length ≤ (m.filter (fun z => decide (z < y))).length := by
        intro m
        induction m with
        | nil => exact Nat.le_refl _
        | cons c m ih2 =>
          rw [List.filter_cons, List.filter_cons]
          by_cases hc : c < x
          · have hc2 : c < y := List.lt_trans hc h
            simp only [hc, hc2, decide_true, if_true, List.length_cons]
            omega
          · by_cases hc2 : c < y
            · simp only [hc, hc2, decide_true, decide_false, if_true, List.length_cons]
              simp only [Bool.false_eq_true, if_false]
              omega
            · simp only [hc, hc2, decide_false, Bool.false_eq_true, if_false]
              exact ih2
      exact this l
    rw [List.filter_cons, List.filter_cons]
    rcases List.mem_cons.1 hx with rfl | hx
    · have h0 : ¬ x < x := List.lt_irrefl x
      simp only [h0, h, decide_true, decide_false, if_true, Bool.false_eq_true, if_false, List.length_cons]
      omega
    · have ih' := ih hx
      by_cases hc : a < x
      · have hc2 : a < y := List.lt_trans hc h
        simp only [hc, hc2, decide_true, if_true, List.length_cons]
        omega
      · by_cases hc2 : a < y
        · simp only [hc, hc2, decide_true, decide_false, if_true, Bool.false_eq_true, if_false, List.length_cons]
          omega
        · simp only [hc, hc2, decide_false, Bool.false_eq_true, if_false]
          exact ih'
theorem rank_lt {all : List Tx} {x y : Tx} (hx : x ∈ all) (hy : y ∈ all) : x < y ↔ rank all x < rank all y := by
  have up : ∀ {x y : Tx}, x ∈ all → x < y → rank all x < rank all y := fun hx h => filter_strict ((mem_dd _ _).2 hx) h
  constructor
  · exact up hx
  · intro h
    rcases lt_tri x y with h' | rfl | h'
    · exact h'
    · omega
    · have := up hy h'; omega
theorem rank_eq {all : List Tx} {x y : Tx} (hx : x ∈ all) (hy : y ∈ all) : x = y ↔ rank all x = rank all y := by
  constructor
  · intro h; rw [h]
  · intro h
    rcases lt_tri x y with h' | h' | h'
    · have := (rank_lt hx hy).1 h'; omega
    · exact h'
    · have := (rank_lt hy hx).1 h'; omega
theorem rank_bound {all : List Tx} {x : Tx} (hx : x ∈ all) : rank all x < (dd all).length := by
  have hmem : x ∈ dd all := (mem_dd _ _).2 hx
  have hle : rank all x ≤ (dd all).length := List.length_filter_le _ _
  rcases Nat.lt_or_ge (rank all x) (dd all).length with h | h
  · exact h
  · exfalso
    have he : ((dd all).filter (fun y => decide (y < x))).length = (dd all).length := Nat.le_antisymm hle h
    have := List.length_filter_eq_length_iff.1 he x hmem
    exact List.lt_irrefl x (of_decide_eq_true this)

/-! A list that rises. -/
def Rises (l : List Tx) : Prop := l.Pairwise (· < ·)
theorem Rises.nodup {l : List Tx} (h : Rises l) : l.Nodup := by
  refine List.Pairwise.imp ?_ h
  intro a b hab e
  subst e
  exact List.lt_irrefl a hab
/-- How many stand ahead, from the left. -/
def at_ (l : List Tx) (s : Tx) : Nat := (l.takeWhile (fun y => decide (y < s))).length
theorem at_le (l : List Tx) (s : Tx) : at_ l s ≤ l.length := (List.takeWhile_sublist _).length_le
theorem at_cons_yes {x s : Tx} (h : x < s) (l : List Tx) : at_ (x :: l) s = at_ l s + 1 := by
  unfold at_; rw [List.takeWhile_cons_of_pos (by simpa using h)]; rfl
theorem at_cons_no {x s : Tx} (h : ¬ x < s) (l : List Tx) : at_ (x :: l) s = 0 := by
  unfold at_; rw [List.takeWhile_cons_of_neg (by simpa using h)]; rfl
theorem at_filter (s : Tx) : ∀ l : List Tx, Rises l → at_ l s = (l.filter (fun y => decide (y < s))).length
  | [], _ => rfl
  | x :: l, h => by
    obtain ⟨h1, h2⟩ := List.pairwise_cons.1 h
    by_cases hx : x < s
    · rw [at_cons_yes hx, at_filter s l h2, List.filter_cons_of_pos (by simpa using hx)]
      rfl
    · rw [at_cons_no hx, List.filter_cons_of_neg (by simpa using hx)]
      rw [List.filter_eq_nil_iff.2]
      · rfl
      · intro y hy
        have : ¬ y < s := fun h' => hx (List.lt_trans (h1 y hy) h')
        simpa using this
theorem at_rank {l all : List Tx} (h : Rises l) (hm : ∀ y, y ∈ l ↔ y ∈ all) (s : Tx) : at_ l s = rank all s := by
  rw [at_filter s l h, rank_of h.nodup hm]
/-- Into a list that rises, once. -/
def put (l : List Tx) (s : Tx) : List Tx := if l[at_ l s]? = some s then l else l.take (at_ l s) ++ s :: l.drop (at_ l s)
theorem put_cons_yes {x s : Tx} (h : x < s) (l : List Tx) : put (x :: l) s = x :: put l s := by
  unfold put
  rw [at_cons_yes h, List.getElem?_cons_succ]
  split <;> rfl
theorem put_ok (s : Tx) : ∀ l : List Tx, Rises l → Rises (put l s) ∧ ∀ y, y ∈ put l s ↔ y ∈ l ∨ y = s
  | [], _ => ⟨List.pairwise_singleton _ _, fun y => by simp [put, at_]⟩
  | x :: l, h => by
    obtain ⟨h1, h2⟩ := List.pairwise_cons.1 h
    by_cases hx : x < s
    · rw [put_cons_yes hx]
      obtain ⟨i1, i2⟩ := put_ok s l h2
      refine ⟨List.pairwise_cons.2 ⟨fun y hy => ?_, i1⟩, fun y => ?_⟩
      · rcases (i2 y).1 hy with hy | rfl
        · exact h1 y hy
        · exact hx
      · rw [List.mem_cons, i2, List.mem_cons]
        exact ⟨fun h => h.elim (fun e => Or.inl (Or.inl e)) (fun h => h.elim (fun h => Or.inl (Or.inr h)) Or.inr), fun h => h.elim (fun h => h.elim Or.inl (fun h => Or.inr (Or.inl h))) (fun h => Or.inr (Or.inr h))⟩
    · unfold put
      rw [at_cons_no hx]
      by_cases e : x = s
      · subst e
        rw [List.getElem?_cons_zero, if_pos rfl]
        exact ⟨h, fun y => ⟨Or.inl, fun h => h.elim id (fun e => by rw [e]; exact List.mem_cons_self ..)⟩⟩
      · rw [List.getElem?_cons_zero, if_neg (fun he => e (Option.some.inj he))]
        have hsx : s < x := by
          rcases lt_tri x s with h' | h' | h'
          · exact absurd h' hx
          · exact absurd h' e
          · exact h'
        refine ⟨List.pairwise_cons.2 ⟨fun y hy => ?_, h⟩, fun y => ?_⟩
        · rcases List.mem_cons.1 hy with rfl | hy
          · exact hsx
          · exact List.lt_trans hsx (h1 y hy)
        · show y ∈ s :: x :: l ↔ _
          rw [List.mem_cons]
          exact ⟨fun h => h.elim Or.inr Or.inl, fun h => h.elim Or.inr Or.inl⟩
/-- All of a list, put in one by one. -/
def puts (l : List Tx) (xs : List Tx) : List Tx := xs.foldl put l
theorem puts_snoc (l xs : List Tx) (x : Tx) : puts l (xs ++ [x]) = put (puts l xs) x := by unfold puts; rw [List.foldl_append]; rfl
theorem puts_ok : ∀ (xs l : List Tx), Rises l → Rises (puts l xs) ∧ ∀ y, y ∈ puts l xs ↔ y ∈ l ∨ y ∈ xs
  | [], l, h => ⟨h, fun y => by simp [puts]⟩
  | x :: xs, l, h => by
    obtain ⟨h1, h2⟩ := put_ok x l h
    obtain ⟨i1, i2⟩ := puts_ok xs (put l x) h1
    refine ⟨i1, fun y => ?_⟩
    show y ∈ puts (put l x) xs ↔ _
    rw [i2, h2, List.mem_cons, or_assoc]
theorem put_len (l : List Tx) (s : Tx) : (put l s).length ≤ l.length + 1 := by
  unfold put
  split
  · omega
  · rw [List.length_append, List.length_cons, List.length_take, List.length_drop]
    have := at_le l s
    omega
/-- The document's numbers of a list, beside another one. -/
def ids (a b : List Tx) : List Nat := a.map (at_ (puts (puts [] a) b))
theorem ids_rank (a b : List Tx) : ids a b = a.map (rank (a ++ b)) := by
  unfold ids
  refine List.map_congr_left (fun x _ => ?_)
  obtain ⟨h1, h2⟩ := puts_ok a [] List.Pairwise.nil
  obtain ⟨h3, h4⟩ := puts_ok b _ h1
  exact at_rank h3 (fun y => by rw [h4, h2]; simp) x
theorem less_eq (x y : Tx) : Op.bytesLess x y = decide (x < y) := bytesLess_eq x y

end Go.Proofs.YtjgmfgnfdaeelaaGreatDoor.Tk

namespace Go.Proofs.YtjgmfgnfdaeelaaGreatDoor.Sp
open Go.Proofs.YtjgmfgnfdaeelaaGreatDoor.Tk (cls)
set_option linter.unusedVariables false

/-- A span: its kind, its text, its kids. -/
inductive Sp where
  | mk (kind : Int) (s : List UInt8) (kids : List Sp)
def Sp.kind : Sp → Int | .mk k _ _ => k
def Sp.s : Sp → List UInt8 | .mk _ s _ => s
def Sp.kids : Sp → List Sp | .mk _ _ l => l

/-! Backticks. -/
def ticks : List UInt8 → Nat
  | [] => 0
  | b :: r => if b = 96 then ticks r + 1 else 0
theorem ticks_rep (n : Nat) (t : List UInt8) (h : t.head? ≠ some 96) : ticks (List.replicate n 96 ++ t) = n := by
  induction n with
  | zero =>
    cases t with
    | nil => rfl
    | cons b r => exact if_neg (fun e => h (by rw [e]; rfl))
  | succ n ih =>
    rw [List.replicate_succ, List.cons_append]
    show (if (96 : UInt8) = 96 then ticks (List.replicate n 96 ++ t) + 1 else 0) = _
    rw [if_pos rfl, ih]
theorem ticks_le : ∀ l : List UInt8, ticks l ≤ l.length
  | [] => Nat.le_refl _
  | b :: r => by
    have := ticks_le r
    unfold ticks
    split <;> simp <;> omega
/-- The code that n backticks close: what lies ahead, and what stands behind them. -/
def code (n : Nat) : Nat → List UInt8 → List UInt8 → Option (List UInt8 × List UInt8)
  | 0, _, _ => none
  | f + 1, acc, t => match t with
    | [] => none
    | b :: r =>
      if b = 10 then none
      else if ticks (b :: r) = n then some (acc, (b :: r).drop n)
      else code n f (acc ++ (b :: r).take (max (ticks (b :: r)) 1)) ((b :: r).drop (max (ticks (b :: r)) 1))
def onlySp (s : List UInt8) : Bool := s.all (· == 32)
def strip (s : List UInt8) : List UInt8 := if onlySp s = false ∧ s.head? = some 32 ∧ s.getLast? = some 32 then s.tail.dropLast else s
/-- Does a run of just n backticks stand there? -/
def hasRun (n : Nat) : Nat → List UInt8 → Bool
  | 0, _ => false
  | f + 1, t => match t with
    | [] => false
    | b :: r => if ticks (b :: r) = n then true else hasRun n f ((b :: r).drop (max (ticks (b :: r)) 1))
theorem drop_lt {b : UInt8} {r : List UInt8} : ((b :: r).drop (max (ticks (b :: r)) 1)).length < (b :: r).length := by
  rw [List.length_drop, List.length_cons]
  omega
/-- Ahead of what isn't a backtick runs are as they were. -/
theorem ticks_app : ∀ (p t : List UInt8), p.getLast? ≠ some 96 → p ≠ [] → ticks (p ++ t) = ticks p
  | [], t, _, h => absurd rfl h
  | b :: p, t, hl, _ => by
    by_cases e : b = 96
    · cases p with
      | nil => exact absurd (by rw [e]; rfl) hl
      | cons c p =>
        have := ticks_app (c :: p) t (by rwa [List.getLast?_cons_cons] at hl) (by simp)
        show (if b = 96 then ticks ((c :: p) ++ t) + 1 else 0) = (if b = 96 then ticks (c :: p) + 1 else 0)
        rw [this]
    · show (if b = 96 then ticks (p ++ t) + 1 else 0) = (if b = 96 then ticks p + 1 else 0)
      rw [if_neg e, if_neg e]
theorem ticks_lt : ∀ (p : List UInt8), p ≠ [] → p.getLast? ≠ some 96 → ticks p < p.length
  | [], h, _ => absurd rfl h
  | b :: p, _, hl => by
    by_cases e : b = 96
    · cases p with
      | nil => exact absurd (by rw [e]; rfl) hl
      | cons c p =>
        have := ticks_lt (c :: p) (by simp) (by rwa [List.getLast?_cons_cons] at hl)
        show (if b = 96 then ticks (c :: p) + 1 else 0) < _
        rw [if_pos e, List.length_cons]
        omega
    · show (if b = 96 then ticks p + 1 else 0) < _
      rw [if_neg e, List.length_cons]
      omega
theorem last_drop (p : List UInt8) (k : Nat) (h : k < p.length) : (p.drop k).getLast? = p.getLast? := by
  rw [List.getLast?_drop, if_neg (by omega)]
/-- A code is closed where it was laid. -/
theorem code_closes (n : Nat) (hn : 0 < n) (t : List UInt8) (ht : t.head? ≠ some 96) : ∀ (m : Nat) (p acc : List UInt8) (f g : Nat), p.length ≤ m → (10 : UInt8) ∉ p → (p ≠ [] → p.getLast? ≠ some 96) → hasRun n g p = false → p.length ≤ g → p.length < f →
    code n f acc (p ++ (List.replicate n 96 ++ t)) = some (acc ++ p, t)
  | m, [], acc, f, g, _, _, _, _, _, hf => by
    obtain ⟨f, rfl⟩ : ∃ f', f = f' + 1 := ⟨f - 1, by simp at hf; omega⟩
    obtain ⟨n', rfl⟩ : ∃ n', n = n' + 1 := ⟨n - 1, by omega⟩
    have hk := ticks_rep (n' + 1) t ht
    rw [List.nil_append, List.append_nil]
    rw [List.replicate_succ, List.cons_append] at hk ⊢
    show (if (96 : UInt8) = 10 then none else if ticks (96 :: (List.replicate n' 96 ++ t)) = n' + 1 then some (acc, _) else _) = _
    rw [if_neg (by decide), if_pos hk]
    congr 1
    rw [List.drop_succ_cons, List.drop_left' (List.length_replicate ..)]
  | 0, b :: p, acc, f, g, hm, _, _, _, _, _ => by simp at hm
  | m + 1, b :: p, acc, f, g, hm, h10, hl, hr, hg, hf => by
    have hl' := hl (by simp)
    obtain ⟨f, rfl⟩ : ∃ f', f = f' + 1 := ⟨f - 1, by omega⟩
    obtain ⟨g, rfl⟩ : ∃ g', g = g' + 1 := ⟨g - 1, by simp at hg; omega⟩
    have htk := ticks_app (b :: p) (List.replicate n 96 ++ t) hl' (by simp)
    have hlt := ticks_lt (b :: p) (by simp) hl'
    rw [List.cons_append] at htk
    have hr' : (if ticks (b :: p) = n then true else hasRun n g ((b :: p).drop (max (ticks (b :: p)) 1))) = false := hr
    by_cases en : ticks (b :: p) = n
    · rw [if_pos en] at hr'; cases hr'
    · rw [if_neg en] at hr'
      have hk : max (ticks (b :: p)) 1 ≤ (b :: p).length := by simp only [List.length_cons] at hlt ⊢; omega
      rw [List.cons_append]
      show (if b = 10 then none else if ticks (b :: (p ++ (List.replicate n 96 ++ t))) = n then some (acc, _) else code n f (acc ++ (b :: (p ++ (List.replicate n 96 ++ t))).take (max (ticks (b :: (p ++ (List.replicate n 96 ++ t)))) 1)) ((b :: (p ++ (List.replicate n 96 ++ t))).drop (max (ticks (b :: (p ++ (List.replicate n 96 ++ t)))) 1))) = _
      rw [if_neg (fun e => h10 (by rw [e]; exact List.mem_cons_self ..)), htk, if_neg en, ← List.cons_append, List.take_append_of_le_length hk, List.drop_append_of_le_length hk]
      generalize hkk : max (ticks (b :: p)) 1 = k at *
      have hld : ((b :: p).drop k).length = (b :: p).length - k := List.length_drop
      have ih := code_closes n hn t ht m ((b :: p).drop k) (acc ++ (b :: p).take k) f g (by simp only [List.length_cons] at hm hld ⊢; omega) (fun h => h10 (List.mem_of_mem_drop h))
        (fun hne => by
          have : k < (b :: p).length := by
            rcases Nat.lt_or_ge k (b :: p).length with h | h
            · exact h
            · exact absurd (List.drop_eq_nil_of_le h) hne
          rw [last_drop _ _ this]; exact hl') hr' (by simp only [List.length_cons] at hg hld ⊢; omega) (by simp only [List.length_cons] at hf hld ⊢; omega)
      rw [ih, List.append_assoc, List.take_append_drop]

/-! Reading. -/
def isText (x : Sp) : Bool := x.kind == 1
/-- Bytes of text ahead of spans. -/
def consT (s : List UInt8) : List Sp → List Sp
  | [] => [.mk 1 s []]
  | .mk k t kids :: l => if k = 1 then .mk 1 (s ++ t) kids :: l else .mk 1 s [] :: .mk k t kids :: l
def destB (c : UInt8) : Bool := (decide (97 ≤ c) && decide (c ≤ 122)) || (decide (65 ≤ c) && decide (c ≤ 90)) || (decide (48 ≤ c) && decide (c ≤ 57)) || [46, 47, 95, 45, 35, 63, 38, 58, 37].contains c
/-- Behind a [..]: where to, and what stands behind. -/
def dest : List UInt8 → Option (List UInt8 × List UInt8)
  | 40 :: t => match t.dropWhile destB with
    | 41 :: r => if t.takeWhile destB = [] then none else some (t.takeWhile destB, r)
    | _ => none
  | _ => none
def read : Nat → Bool → Bool → List UInt8 → List Sp × List UInt8
  | 0, _, _, t => ([], t)
  | f + 1, e, l, t => match t with
    | [] => ([], [])
    | c :: r =>
      if (c = 42 ∧ e = true) ∨ (c = 93 ∧ l = true) then ([], c :: r)
      else if c = 92 ∧ (r.head?.map cls) = some 4 then (consT (r.take 1) (read f e l r.tail).1, (read f e l r.tail).2)
      else if c = 96 then
        match code (ticks (c :: r)) (c :: r).length [] ((c :: r).drop (ticks (c :: r))) with
        | some (x, t') => (.mk 2 (strip x) [] :: (read f e l t').1, (read f e l t').2)
        | none => (consT (List.replicate (ticks (c :: r)) 96) (read f e l ((c :: r).drop (ticks (c :: r)))).1, (read f e l ((c :: r).drop (ticks (c :: r)))).2)
      else
        let plain := (consT [c] (read f e l r).1, (read f e l r).2)
        if c = 42 then
          match read f true l r with
          | (k :: kids, 42 :: t') => (.mk 3 [] (k :: kids) :: (read f e l t').1, (read f e l t').2)
          | _ => plain
        else if c = 91 ∧ l = false then
          match read f e true r with
          | (k :: kids, 93 :: t') => match dest t' with
            | some (s, t'') => (.mk 4 s (k :: kids) :: (read f e l t'').1, (read f e l t'').2)
            | none => plain
          | _ => plain
        else plain

/-! Writing. -/
def marked (c : UInt8) : Bool := [92, 42, 91, 93, 35, 62, 45, 96].contains c
def esc : List UInt8 → List UInt8
  | [] => []
  | c :: r => if marked c then 92 :: c :: esc r else c :: esc r
def fence (s : List UInt8) : Nat → Nat → Nat
  | 0, n => n
  | f + 1, n => if hasRun n s.length s then fence s f (n + 1) else n
def padded (s : List UInt8) : List UInt8 :=
  if s.head? = some 96 ∨ s.getLast? = some 96 ∨ (onlySp s = false ∧ s.head? = some 32 ∧ s.getLast? = some 32) then 32 :: (s ++ [32]) else s
def ticksOf (s : List UInt8) : Nat := fence s (s.length + 1) 1
mutual
def wr1 : Sp → List UInt8
  | .mk k s kids =>
    if k = 1 then esc s
    else if k = 2 then List.replicate (ticksOf s) 96 ++ (padded s ++ List.replicate (ticksOf s) 96)
    else if k = 3 then 42 :: (wrs kids ++ [42])
    else if k = 4 then 91 :: (wrs kids ++ (93 :: 40 :: (s ++ [41])))
    else []
def wrs : List Sp → List UInt8
  | [] => []
  | x :: l => wr1 x ++ wrs l
end

/-! What can be, in an Emph, in a Link. -/
mutual
def fit1 (e l : Bool) : Sp → Prop
  | .mk k s kids =>
    (k = 1 ∧ kids = [] ∧ s ≠ []) ∨
    (k = 2 ∧ kids = [] ∧ s ≠ [] ∧ (10 : UInt8) ∉ s) ∨
    (k = 3 ∧ s = [] ∧ kids ≠ [] ∧ e = false ∧ fits true l 0 kids) ∨
    (k = 4 ∧ s ≠ [] ∧ (∀ c ∈ s, destB c = true) ∧ kids ≠ [] ∧ l = false ∧ fits e true 0 kids)
def fits (e l : Bool) (prev : Int) : List Sp → Prop
  | [] => True
  | .mk k s kids :: r => fit1 e l (.mk k s kids) ∧ ¬ (k = prev ∧ k ≤ 2) ∧ fits e l k r
end

end Go.Proofs.YtjgmfgnfdaeelaaGreatDoor.Sp

namespace Go.Proofs.YtjgmfgnfdaeelaaGreatDoor.Sp
open Go.Proofs.YtjgmfgnfdaeelaaGreatDoor.Tk (cls)
set_option linter.unusedVariables false

/-! Texts. -/
theorem consT_consT (a b : List UInt8) : ∀ X : List Sp, consT a (consT b X) = consT (a ++ b) X
  | [] => by simp [consT]
  | .mk k t kids :: l => by
    unfold consT
    by_cases h : k = 1
    · simp [h]
    · simp [h]
theorem marked_cls (c : UInt8) (h : marked c = true) : cls c = 4 := by
  simp only [marked, List.contains_eq_mem, List.mem_cons, List.mem_nil_iff, or_false, decide_eq_true_eq] at h
  rcases h with rfl | rfl | rfl | rfl | rfl | rfl | rfl | rfl <;> decide
theorem unmarked (c : UInt8) (h : marked c = false) : c ≠ 92 ∧ c ≠ 42 ∧ c ≠ 91 ∧ c ≠ 93 ∧ c ≠ 96 := by
  simp only [marked, List.contains_eq_mem, List.mem_cons, List.mem_nil_iff, or_false, decide_eq_false_iff_not, not_or] at h
  exact ⟨h.1, h.2.1, h.2.2.1, h.2.2.2.1, h.2.2.2.2.2.2.2⟩
/-- A byte of text. -/
theorem read_plain (f : Nat) (e l : Bool) (c : UInt8) (r : List UInt8) (h : marked c = false) : read (f + 1) e l (c :: r) = (consT [c] (read f e l r).1, (read f e l r).2) := by
  obtain ⟨h1, h2, h3, h4, h5⟩ := unmarked c h
  rw [read]
  simp only [h1, h2, h3, h4, h5, false_and, or_self, if_false]
theorem read_escaped (f : Nat) (e l : Bool) (c : UInt8) (r : List UInt8) (h : marked c = true) : read (f + 1) e l (92 :: c :: r) = (consT [c] (read f e l r).1, (read f e l r).2) := by
  rw [read]
  simp only [List.head?_cons, Option.map_some, marked_cls c h, and_self, if_true, List.tail_cons]
  rw [if_neg (by simp)]
  rfl
theorem esc_len (s : List UInt8) : s.length ≤ (esc s).length := by
  induction s with
  | nil => exact Nat.le_refl _
  | cons c s ih =>
    unfold esc
    split <;> simp only [List.length_cons] <;> omega
theorem read_esc (e l : Bool) (rest : List UInt8) : ∀ (s : List UInt8) (f : Nat), s ≠ [] → (esc s ++ rest).length ≤ f → ∃ g, rest.length ≤ g ∧ read f e l (esc s ++ rest) = (consT s (read g e l rest).1, (read g e l rest).2)
  | [], f, h, _ => absurd rfl h
  | [c], f, _, hf => by
    unfold esc esc at *
    cases hc : marked c with
    | true =>
      rw [hc] at hf
      simp only [if_true] at hf ⊢
      obtain ⟨f, rfl⟩ : ∃ f', f = f' + 1 := ⟨f - 1, by simp at hf; omega⟩
      exact ⟨f, by simp at hf; omega, read_escaped f e l c rest hc⟩
    | false =>
      rw [hc] at hf
      simp only [Bool.false_eq_true, if_false] at hf ⊢
      obtain ⟨f, rfl⟩ : ∃ f', f = f' + 1 := ⟨f - 1, by simp at hf; omega⟩
      exact ⟨f, by simp at hf; omega, read_plain f e l c rest hc⟩
  | c :: d :: s, f, _, hf => by
    rw [esc] at hf ⊢
    cases hc : marked c with
    | true =>
      rw [hc, if_pos rfl] at hf
      rw [if_pos rfl]
      obtain ⟨f, rfl⟩ : ∃ f', f = f' + 1 := ⟨f - 1, by simp at hf; omega⟩
      obtain ⟨g, hg, he⟩ := read_esc e l rest (d :: s) f (by simp) (by simp only [List.cons_append, List.length_cons] at hf; omega)
      refine ⟨g, hg, ?_⟩
      rw [List.cons_append, List.cons_append, read_escaped f e l c _ hc, he, consT_consT]
      rfl
    | false =>
      rw [hc, if_neg (by decide)] at hf
      rw [if_neg (by decide)]
      obtain ⟨f, rfl⟩ : ∃ f', f = f' + 1 := ⟨f - 1, by simp at hf; omega⟩
      obtain ⟨g, hg, he⟩ := read_esc e l rest (d :: s) f (by simp) (by simp only [List.cons_append, List.length_cons] at hf; omega)
      refine ⟨g, hg, ?_⟩
      rw [List.cons_append, read_plain f e l c _ hc, he, consT_consT]
      rfl

/-! Codes. -/
theorem ticks_sp (q : List UInt8) : ∀ p : List UInt8, ticks (p ++ 32 :: q) = ticks p
  | [] => by show (if (32 : UInt8) = 96 then _ else 0) = _; rw [if_neg (by decide)]; rfl
  | b :: p => by
    show (if b = 96 then ticks (p ++ 32 :: q) + 1 else 0) = (if b = 96 then ticks p + 1 else 0)
    rw [ticks_sp q p]
theorem hasRun_nil (n g : Nat) : hasRun n g [] = false := by cases g <;> rfl
theorem hasRun_cons (n g : Nat) (b : UInt8) (r : List UInt8) : hasRun n (g + 1) (b :: r) = if ticks (b :: r) = n then true else hasRun n g ((b :: r).drop (max (ticks (b :: r)) 1)) := rfl
theorem hasRun_snoc (n : Nat) (hn : 0 < n) : ∀ (m g : Nat) (s : List UInt8), s.length ≤ m → s.length ≤ g → hasRun n (g + 1) (s ++ [32]) = hasRun n g s
  | m, g, [], _, _ => by
    rw [hasRun_nil, List.nil_append, hasRun_cons, if_neg (by show ¬ (if (32 : UInt8) = 96 then _ else 0) = n; rw [if_neg (by decide)]; omega)]
    show hasRun n g (([32] : List UInt8).drop (max (if (32 : UInt8) = 96 then _ else 0) 1)) = false
    rw [if_neg (by decide)]
    exact hasRun_nil n g
  | 0, g, b :: p, hm, _ => by simp at hm
  | m + 1, g, b :: p, hm, hg => by
    obtain ⟨g, rfl⟩ : ∃ g', g = g' + 1 := ⟨g - 1, by simp at hg; omega⟩
    have ht : ticks (b :: (p ++ [32])) = ticks (b :: p) := ticks_sp [] (b :: p)
    have hk : max (ticks (b :: p)) 1 ≤ (b :: p).length := by have := ticks_le (b :: p); simp only [List.length_cons] at this ⊢; omega
    have hl : ((b :: p).drop (max (ticks (b :: p)) 1)).length = (b :: p).length - max (ticks (b :: p)) 1 := List.length_drop
    rw [List.cons_append, hasRun_cons, hasRun_cons, ht]
    by_cases e : ticks (b :: p) = n
    · rw [if_pos e, if_pos e]
    · rw [if_neg e, if_neg e, ← List.cons_append, List.drop_append_of_le_length hk]
      exact hasRun_snoc n hn m g _ (by simp only [List.length_cons] at hm hl ⊢; omega) (by simp only [List.length_cons] at hg hl ⊢; omega)
theorem hasRun_le (n : Nat) (hn : 0 < n) : ∀ (m g : Nat) (s : List UInt8), s.length ≤ m → hasRun n g s = true → n ≤ s.length
  | m, 0, s, _, h => by cases h
  | m, g + 1, [], _, h => by cases h
  | 0, g + 1, b :: p, hm, _ => by simp at hm
  | m + 1, g + 1, b :: p, hm, h => by
    rw [hasRun_cons] at h
    have ht := ticks_le (b :: p)
    by_cases e : ticks (b :: p) = n
    · omega
    · rw [if_neg e] at h
      have hl : ((b :: p).drop (max (ticks (b :: p)) 1)).length = (b :: p).length - max (ticks (b :: p)) 1 := List.length_drop
      have := hasRun_le n hn m g _ (by simp only [List.length_cons] at hm hl ⊢; omega) h
      omega
theorem fence_ok (s : List UInt8) : ∀ f n, 0 < n → n + f = s.length + 2 → 0 < f → hasRun (fence s f n) s.length s = false ∧ n ≤ fence s f n
  | 0, n, _, _, h => absurd h (Nat.lt_irrefl _)
  | f + 1, n, hn, he, _ => by
    unfold fence
    cases hr : hasRun n s.length s with
    | false => exact ⟨by rw [if_neg (by decide)]; exact hr, by rw [if_neg (by decide)]; exact Nat.le_refl _⟩
    | true =>
      rw [if_pos rfl]
      have := hasRun_le n hn _ _ s (Nat.le_refl _) hr
      obtain ⟨h1, h2⟩ := fence_ok s f (n + 1) (by omega) (by omega) (by omega)
      exact ⟨h1, by omega⟩
theorem ticksOf_ok (s : List UInt8) : hasRun (ticksOf s) s.length s = false ∧ 0 < ticksOf s := fence_ok s (s.length + 1) 1 (by omega) (by omega) (by omega)
theorem padded_runs (n : Nat) (hn : 0 < n) (s : List UInt8) (h : hasRun n s.length s = false) : hasRun n (padded s).length (padded s) = false := by
  unfold padded
  split
  · rw [List.length_cons, hasRun_cons, if_neg (by show ¬ (if (32 : UInt8) = 96 then _ else 0) = n; rw [if_neg (by decide)]; omega)]
    show hasRun n _ ((32 :: (s ++ [32])).drop (max (if (32 : UInt8) = 96 then _ else 0) 1)) = false
    rw [if_neg (by decide)]
    show hasRun n (s ++ [32]).length (s ++ [32]) = false
    rw [List.length_append]
    show hasRun n (s.length + 1) (s ++ [32]) = false
    rw [hasRun_snoc n hn _ _ s (Nat.le_refl _) (Nat.le_refl _)]
    exact h
  · exact h
theorem padded_ne (s : List UInt8) (h : s ≠ []) : padded s ≠ [] := by
  unfold padded
  split
  · simp
  · exact h
theorem padded_head (s : List UInt8) : (padded s).head? ≠ some 96 := by
  unfold padded
  split
  · simp
  · rename_i h
    exact fun e => h (Or.inl e)
theorem padded_last (s : List UInt8) : (padded s).getLast? ≠ some 96 := by
  unfold padded
  split
  · rw [← List.cons_append, List.getLast?_concat]; decide
  · rename_i h
    exact fun e => h (Or.inr (Or.inl e))
theorem padded_lf (s : List UInt8) (h : (10 : UInt8) ∉ s) : (10 : UInt8) ∉ padded s := by
  unfold padded
  split
  · simp [h]
  · exact h
theorem strip_padded (s : List UInt8) : strip (padded s) = s := by
  unfold padded
  split
  · rename_i h
    have ho : onlySp (32 :: (s ++ [32])) = false := by
      rcases h with h | h | h
      · cases s with
        | nil => cases h
        | cons c s => simp at h; subst h; simp [onlySp]
      · have : (96 : UInt8) ∈ s := List.mem_of_getLast? h
        unfold onlySp
        rw [List.all_eq_false]
        exact ⟨96, by simp [this], by decide⟩
      · have h1 := h.1
        unfold onlySp at h1 ⊢
        rw [List.all_eq_false] at h1 ⊢
        obtain ⟨x, hx, hb⟩ := h1
        exact ⟨x, by simp [hx], hb⟩
    unfold strip
    rw [if_pos ⟨ho, rfl, by rw [← List.cons_append, List.getLast?_concat]⟩, List.tail_cons, List.dropLast_concat]
  · rename_i h
    unfold strip
    rw [if_neg (fun e => h (Or.inr (Or.inr e)))]

/-! The whole. -/
def Stop (e l : Bool) (t : List UInt8) : Prop := t = [] ∨ (∃ r, t = 42 :: r ∧ e = true) ∨ (∃ r, t = 93 :: r ∧ l = true)
theorem read_stop {e l : Bool} {t : List UInt8} (h : Stop e l t) (f : Nat) (hf : t.length ≤ f) : read f e l t = ([], t) := by
  cases f with
  | zero => rfl
  | succ f =>
    rcases h with rfl | ⟨r, rfl, rfl⟩ | ⟨r, rfl, rfl⟩
    · rfl
    · rw [read]; simp
    · rw [read]; simp
theorem esc_head (s : List UInt8) (t : List UInt8) (h : s ≠ []) : (esc s ++ t).head? ≠ some 96 := by
  cases s with
  | nil => exact absurd rfl h
  | cons c s =>
    rw [esc]
    cases hc : marked c with
    | true => simp
    | false =>
      rw [if_neg (by decide)]
      have := (unmarked c hc).2.2.2.2
      simpa using this
theorem next_head {e l : Bool} {t : List UInt8} (ht : Stop e l t) : ∀ L : List Sp, fits e l 2 L → (wrs L ++ t).head? ≠ some 96
  | [], _ => by
    rw [wrs]
    rcases ht with rfl | ⟨r, rfl, _⟩ | ⟨r, rfl, _⟩ <;> simp
  | .mk k s kids :: L, h => by
    rw [fits] at h
    obtain ⟨h1, h2, _⟩ := h
    rw [wrs, wr1]
    rw [fit1] at h1
    rcases h1 with ⟨rfl, rfl, hs⟩ | ⟨rfl, _⟩ | ⟨rfl, _⟩ | ⟨rfl, _⟩
    · rw [if_pos rfl, List.append_assoc]; exact esc_head s _ hs
    · exact absurd ⟨rfl, by decide⟩ h2
    · simp
    · simp
theorem consT_new {e l : Bool} {s : List UInt8} : ∀ L : List Sp, fits e l 1 L → consT s L = .mk 1 s [] :: L
  | [], _ => rfl
  | .mk k t kids :: L, h => by
    rw [fits] at h
    have hk : k ≠ 1 := fun e => h.2.1 ⟨e, by omega⟩
    show (if k = 1 then _ else _) = _
    rw [if_neg hk]
theorem take_dest (s t : List UInt8) (h : ∀ c ∈ s, destB c = true) : (s ++ 41 :: t).takeWhile destB = s ∧ (s ++ 41 :: t).dropWhile destB = 41 :: t := by
  induction s with
  | nil => exact ⟨rfl, rfl⟩
  | cons c s ih =>
    have hc := h c (List.mem_cons_self ..)
    obtain ⟨i1, i2⟩ := ih (fun d hd => h d (List.mem_cons_of_mem _ hd))
    rw [List.cons_append, List.takeWhile_cons_of_pos hc, List.dropWhile_cons_of_pos hc, i1, i2]
    exact ⟨rfl, rfl⟩
theorem read_back (e l : Bool) (prev : Int) (L : List Sp) (hL : fits e l prev L) (t : List UInt8) (ht : Stop e l t) (f : Nat) (hf : (wrs L ++ t).length ≤ f) : read f e l (wrs L ++ t) = (L, t) := by
  match L, hL with
  | [], _ => rw [wrs] at hf ⊢; exact read_stop ht f hf
  | .mk k s kids :: R, hL =>
    rw [fits] at hL
    obtain ⟨h1, h2, h3⟩ := hL
    rw [fit1] at h1
    rw [wrs, wr1] at hf ⊢
    rcases h1 with ⟨rfl, rfl, hs⟩ | ⟨rfl, rfl, hs, h10⟩ | ⟨rfl, rfl, hk, rfl, hkids⟩ | ⟨rfl, hs, hd, hk, rfl, hkids⟩
    · rw [if_pos rfl, List.append_assoc] at hf ⊢
      obtain ⟨g, hg, he⟩ := read_esc e l (wrs R ++ t) s f hs hf
      have ih := read_back e l 1 R h3 t ht g hg
      rw [he, ih, consT_new R h3]
    · rw [if_neg (by decide), if_pos rfl] at hf ⊢
      obtain ⟨r1, r2⟩ := ticksOf_ok s
      have hp := padded_runs _ r2 s r1
      have hh := next_head ht R h3
      generalize ticksOf s = n at *
      have e1 : (List.replicate n (96 : UInt8) ++ (padded s ++ List.replicate n 96)) ++ wrs R ++ t = List.replicate n 96 ++ (padded s ++ (List.replicate n 96 ++ (wrs R ++ t))) := by simp [List.append_assoc]
      rw [e1] at hf ⊢
      have hph : (padded s ++ (List.replicate n 96 ++ (wrs R ++ t))).head? ≠ some 96 := by
        have := padded_head s
        cases hps : padded s with
        | nil => exact absurd hps (padded_ne s hs)
        | cons c p => rw [hps] at this; exact this
      have hk := ticks_rep n _ hph
      have hcc := code_closes n r2 (wrs R ++ t) hh _ (padded s) [] (List.replicate n (96 : UInt8) ++ (padded s ++ (List.replicate n 96 ++ (wrs R ++ t)))).length _ (Nat.le_refl _) (padded_lf s h10) (fun _ => padded_last s) hp (Nat.le_refl _) (by simp; omega)
      obtain ⟨n, rfl⟩ : ∃ n', n = n' + 1 := ⟨n - 1, by omega⟩
      obtain ⟨f, rfl⟩ : ∃ f', f = f' + 1 := ⟨f - 1, by simp at hf; omega⟩
      have ih := read_back e l 2 R h3 t ht f (by simp at hf ⊢; omega)
      have hdr : (List.replicate (n + 1) (96 : UInt8) ++ (padded s ++ (List.replicate (n + 1) 96 ++ (wrs R ++ t)))).drop (n + 1) = padded s ++ (List.replicate (n + 1) 96 ++ (wrs R ++ t)) := List.drop_left' (List.length_replicate ..)
      generalize hX : List.replicate (n + 1) (96 : UInt8) ++ (padded s ++ (List.replicate (n + 1) 96 ++ (wrs R ++ t))) = X at *
      obtain ⟨r, rfl⟩ : ∃ r, X = 96 :: r := ⟨X.tail, by rw [← hX]; rfl⟩
      rw [read]
      simp only [show ¬ (((96 : UInt8) = 42 ∧ e = true) ∨ ((96 : UInt8) = 93 ∧ l = true)) from fun h => by rcases h with h | h <;> exact absurd h.1 (by decide), show ¬ ((96 : UInt8) = 92 ∧ (r.head?.map cls) = some 4) from fun h => absurd h.1 (by decide), if_false, if_true]
      rw [hk, hdr, hcc]
      simp only [List.nil_append]
      rw [ih, strip_padded]
    · rw [if_neg (by decide), if_neg (by decide), if_pos rfl] at hf ⊢
      have e1 : (42 :: (wrs kids ++ [42]) : List UInt8) ++ wrs R ++ t = 42 :: (wrs kids ++ 42 :: (wrs R ++ t)) := by simp
      rw [e1] at hf ⊢
      obtain ⟨f, rfl⟩ : ∃ f', f = f' + 1 := ⟨f - 1, by simp at hf; omega⟩
      have ihk := read_back true l 0 kids hkids (42 :: (wrs R ++ t)) (Or.inr (Or.inl ⟨_, rfl, rfl⟩)) f (by simp at hf ⊢; omega)
      have ih := read_back false l 3 R h3 t ht f (by simp at hf ⊢; omega)
      rw [read]
      simp only [show ¬ ((42 : UInt8) = 92 ∧ ((wrs kids ++ 42 :: (wrs R ++ t)).head?.map cls) = some 4) from fun h => absurd h.1 (by decide), show ¬ ((42 : UInt8) = 96) by decide, if_false, if_true]
      rw [ihk]
      cases kids with
      | nil => exact absurd rfl hk
      | cons k0 ks =>
        simp only
        rw [if_neg (by simp), ih]
    · rw [if_neg (by decide), if_neg (by decide), if_neg (by decide), if_pos rfl] at hf ⊢
      have e1 : (91 :: (wrs kids ++ (93 :: 40 :: (s ++ [41]))) : List UInt8) ++ wrs R ++ t = 91 :: (wrs kids ++ 93 :: (40 :: (s ++ 41 :: (wrs R ++ t)))) := by simp
      rw [e1] at hf ⊢
      obtain ⟨f, rfl⟩ : ∃ f', f = f' + 1 := ⟨f - 1, by simp at hf; omega⟩
      have ihk := read_back e true 0 kids hkids (93 :: (40 :: (s ++ 41 :: (wrs R ++ t)))) (Or.inr (Or.inr ⟨_, rfl, rfl⟩)) f (by simp at hf ⊢; omega)
      have ih := read_back e false 4 R h3 t ht f (by simp at hf ⊢; omega)
      obtain ⟨d1, d2⟩ := take_dest s (wrs R ++ t) hd
      have hdest : dest (40 :: (s ++ 41 :: (wrs R ++ t))) = some (s, wrs R ++ t) := by
        unfold dest
        simp only [d1, d2, if_neg hs]
      rw [read]
      simp only [show ¬ ((91 : UInt8) = 92 ∧ ((wrs kids ++ 93 :: (40 :: (s ++ 41 :: (wrs R ++ t)))).head?.map cls) = some 4) from fun h => absurd h.1 (by decide), show ¬ ((91 : UInt8) = 96) by decide, show ¬ ((91 : UInt8) = 42) by decide, if_false, and_self, if_true]
      rw [ihk]
      cases kids with
      | nil => exact absurd rfl hk
      | cons k0 ks =>
        simp only [hdest]
        rw [if_neg (by simp), ih]
termination_by SizeOf.sizeOf L
theorem parse_write (L : List Sp) (h : fits false false 0 L) : (read (wrs L).length false false (wrs L)).1 = L := by
  have := read_back false false 0 L h [] (Or.inl rfl) (wrs L).length (by rw [List.append_nil]; exact Nat.le_refl _)
  rw [List.append_nil] at this
  rw [this]

end Go.Proofs.YtjgmfgnfdaeelaaGreatDoor.Sp

namespace Go.Proofs.YtjgmfgnfdaeelaaGreatDoor.Sp
open Go.Proofs.YtjgmfgnfdaeelaaGreatDoor.Tk (cls)
set_option linter.unusedVariables false

theorem fits_of {e l : Bool} {p q : Int} : ∀ {L : List Sp}, fits e l p L → (∀ k s kids r, L = .mk k s kids :: r → ¬ (k = q ∧ k ≤ 2)) → fits e l q L
  | [], _, _ => by rw [fits]; trivial
  | .mk k s kids :: r, h, hq => by
    rw [fits] at h ⊢
    exact ⟨h.1, hq k s kids r rfl, h.2.2⟩
theorem fit_kind {e l : Bool} {k : Int} {s : List UInt8} {kids : List Sp} (h : fit1 e l (.mk k s kids)) : 1 ≤ k ∧ k ≤ 4 := by
  rw [fit1] at h
  rcases h with ⟨rfl, _⟩ | ⟨rfl, _⟩ | ⟨rfl, _⟩ | ⟨rfl, _⟩ <;> omega
theorem consT_fits {e l : Bool} {s : List UInt8} (hs : s ≠ []) : ∀ (L : List Sp), fits e l 0 L → ∀ p : Int, p ≠ 1 → fits e l p (consT s L)
  | [], _, p, hp => by
    rw [consT, fits, fit1, fits]
    exact ⟨Or.inl ⟨rfl, rfl, hs⟩, fun h => hp h.1.symm, trivial⟩
  | .mk k t kids :: r, h, p, hp => by
    show fits e l p (if k = 1 then .mk 1 (s ++ t) kids :: r else .mk 1 s [] :: .mk k t kids :: r)
    have h' := h
    rw [fits] at h
    by_cases hk : k = 1
    · subst hk
      rw [if_pos rfl, fits]
      have h1 := h.1
      rw [fit1] at h1
      rcases h1 with ⟨_, hkid, _⟩ | ⟨h2, _⟩ | ⟨h2, _⟩ | ⟨h2, _⟩
      · refine ⟨?_, fun h => hp h.1.symm, h.2.2⟩
        rw [fit1]
        exact Or.inl ⟨rfl, hkid, by simp [hs]⟩
      all_goals exact absurd h2 (by decide)
    · rw [if_neg hk, fits]
      refine ⟨?_, fun h => hp h.1.symm, fits_of h' (fun k' s' kids' r' he => by cases he; exact fun h => hk h.1)⟩
      rw [fit1]
      exact Or.inl ⟨rfl, rfl, hs⟩
theorem ticks_drop : ∀ l : List UInt8, (l.drop (ticks l)).head? ≠ some 96
  | [] => by simp
  | b :: r => by
    by_cases e : b = 96
    · rw [show ticks (b :: r) = ticks r + 1 from if_pos e, List.drop_succ_cons]
      exact ticks_drop r
    · rw [show ticks (b :: r) = 0 from if_neg e, List.drop_zero]
      simpa using e
theorem ticks_take : ∀ l : List UInt8, l.take (ticks l) = List.replicate (ticks l) 96
  | [] => rfl
  | b :: r => by
    by_cases e : b = 96
    · rw [show ticks (b :: r) = ticks r + 1 from if_pos e, List.take_succ_cons, List.replicate_succ, ticks_take r, e]
    · rw [show ticks (b :: r) = 0 from if_neg e]; rfl
theorem ticks_pos {b : UInt8} {r : List UInt8} (h : b = 96) : 0 < ticks (b :: r) := by rw [show ticks (b :: r) = ticks r + 1 from if_pos h]; omega
theorem code_some (n : Nat) (hn : 0 < n) : ∀ (f : Nat) (acc t x t' : List UInt8), code n f acc t = some (x, t') →
    t'.head? ≠ some 96 ∧ (acc ≠ [] ∨ t.head? ≠ some 96 → x ≠ []) ∧ ∃ y, x = acc ++ y ∧ t = y ++ (List.replicate n 96 ++ t') ∧ (10 : UInt8) ∉ y
  | 0, acc, t, x, t', h => by cases h
  | f + 1, acc, [], x, t', h => by cases h
  | f + 1, acc, b :: r, x, t', h => by
    rw [code] at h
    by_cases h10 : b = 10
    · rw [if_pos h10] at h; cases h
    · rw [if_neg h10] at h
      by_cases ht : ticks (b :: r) = n
      · rw [if_pos ht] at h
        simp only [Option.some.injEq, Prod.mk.injEq] at h
        obtain ⟨rfl, rfl⟩ := h
        refine ⟨by rw [← ht]; exact ticks_drop _, fun ha => ?_, [], by simp, ?_, by simp⟩
        · rcases ha with ha | ha
          · exact ha
          · exfalso
            have : ticks (b :: r) = 0 := if_neg (fun e => ha (by rw [e]; rfl))
            omega
        · rw [List.nil_append, ← ht, ← ticks_take, List.take_append_drop]
      · rw [if_neg ht] at h
        have hk : 1 ≤ max (ticks (b :: r)) 1 := by omega
        have hk2 : max (ticks (b :: r)) 1 ≤ (b :: r).length := by have := ticks_le (b :: r); simp only [List.length_cons] at this ⊢; omega
        obtain ⟨i1, i2, y, i3, i4, i5⟩ := code_some n hn f _ _ x t' h
        have hne : acc ++ (b :: r).take (max (ticks (b :: r)) 1) ≠ [] := by
          intro e
          have := congrArg List.length e
          rw [List.length_append, List.length_take] at this
          simp at this
        refine ⟨i1, fun _ => i2 (Or.inl hne), (b :: r).take (max (ticks (b :: r)) 1) ++ y, by rw [i3, List.append_assoc], by rw [List.append_assoc, ← i4, List.take_append_drop], ?_⟩
        intro hm
        rcases List.mem_append.1 hm with hm | hm
        · by_cases e : b = 96
          · rw [show max (ticks (b :: r)) 1 = ticks (b :: r) by have := ticks_pos (r := r) e; omega, ticks_take] at hm
            have := List.eq_of_mem_replicate hm
            exact absurd this (by decide)
          · rw [show ticks (b :: r) = 0 from if_neg e] at hm
            simp at hm
            exact h10 hm.symm
        · exact i5 hm
theorem strip_ne {x : List UInt8} (h : x ≠ []) : strip x ≠ [] := by
  unfold strip
  split
  · rename_i hh
    obtain ⟨h1, h2, h3⟩ := hh
    cases x with
    | nil => exact absurd rfl h
    | cons c x =>
      rw [List.head?_cons, Option.some.injEq] at h2
      subst h2
      rw [List.tail_cons]
      cases x with
      | nil => simp [onlySp] at h1
      | cons d x =>
        rw [List.getLast?_cons_cons] at h3
        intro e
        have hl := congrArg List.length e
        rw [List.length_dropLast] at hl
        simp at hl
        subst hl
        simp at h3
        subst h3
        simp [onlySp] at h1
  · exact h
theorem strip_mem {x : List UInt8} {c : UInt8} (h : c ∈ strip x) : c ∈ x := by
  unfold strip at h
  split at h
  · exact List.mem_of_mem_tail ((List.dropLast_sublist _).subset h)
  · exact h
theorem mem_tw : ∀ (l : List UInt8) (c : UInt8), c ∈ l.takeWhile destB → destB c = true
  | [], c, h => by cases h
  | b :: l, c, h => by
    cases hb : destB b with
    | false => rw [List.takeWhile_cons_of_neg (by simp [hb])] at h; cases h
    | true =>
      rw [List.takeWhile_cons_of_pos hb] at h
      rcases List.mem_cons.1 h with rfl | h
      · exact hb
      · exact mem_tw l c h
theorem dest_some {t s r : List UInt8} (h : dest t = some (s, r)) : s ≠ [] ∧ (∀ c ∈ s, destB c = true) ∧ t = 40 :: (s ++ 41 :: r) := by
  unfold dest at h
  split at h
  · rename_i t'
    split at h
    · rename_i r' hd
      split at h
      · cases h
      · rename_i hne
        simp only [Option.some.injEq, Prod.mk.injEq] at h
        obtain ⟨rfl, rfl⟩ := h
        refine ⟨hne, mem_tw _, ?_⟩
        rw [← hd, List.takeWhile_append_dropWhile]
    · cases h
  · cases h
/-- What is read can be, in an Emph or not, in a Link or not. -/
theorem read_fits : ∀ (f : Nat) (e l : Bool) (t : List UInt8), fits e l 0 (read f e l t).1 ∧ (t.head? ≠ some 96 → fits e l 2 (read f e l t).1)
  | 0, e, l, t => ⟨by rw [read, fits]; trivial, fun _ => by rw [read, fits]; trivial⟩
  | f + 1, e, l, [] => ⟨by rw [read, fits]; trivial, fun _ => by rw [read, fits]; trivial⟩
  | f + 1, e, l, c :: r => by
    have ih := fun e l t => read_fits f e l t
    have plain : ∀ t, fits e l 0 (consT [c] (read f e l t).1) ∧ (c ≠ 96 → fits e l 2 (consT [c] (read f e l t).1)) := fun t => ⟨consT_fits (by simp) _ (ih e l t).1 0 (by decide), fun _ => consT_fits (by simp) _ (ih e l t).1 2 (by decide)⟩
    have hh : (c :: r).head? ≠ some 96 ↔ c ≠ 96 := by simp
    rw [hh, read]
    split
    · exact ⟨by rw [fits]; trivial, fun _ => by rw [fits]; trivial⟩
    · split
      · rename_i hn he
        have hr : r.take 1 ≠ [] := by
          cases r with
          | nil => simp at he
          | cons d r => simp
        exact ⟨consT_fits hr _ (ih e l _).1 0 (by decide), fun _ => consT_fits hr _ (ih e l _).1 2 (by decide)⟩
      · split
        · rename_i hc
          have hp := ticks_pos (r := r) hc
          cases hcode : code (ticks (c :: r)) (c :: r).length [] ((c :: r).drop (ticks (c :: r))) with
          | some p =>
            obtain ⟨x, t'⟩ := p
            obtain ⟨h1, h2, y, h3, h4, h5⟩ := code_some _ hp _ _ _ _ _ hcode
            have hx := h2 (Or.inr (ticks_drop _))
            rw [List.nil_append] at h3
            subst h3
            refine ⟨?_, fun h => absurd hc h⟩
            simp only
            rw [fits, fit1]
            exact ⟨Or.inr (Or.inl ⟨rfl, rfl, strip_ne hx, fun h => h5 (strip_mem h)⟩), fun h => absurd h.1 (by decide), (ih e l t').2 h1⟩
          | none =>
            refine ⟨?_, fun h => absurd hc h⟩
            exact consT_fits (by intro e; have := congrArg List.length e; simp at this; omega) _ (ih e l _).1 0 (by decide)
        · rename_i hc96
          split
          · rename_i hstop hesc hc
            subst hc
            have he : e = false := by
              cases e with
              | false => rfl
              | true => exact absurd (Or.inl ⟨rfl, rfl⟩) hstop
            split
            · rename_i k kids t' hread
              have hk := (ih true l r).1
              rw [hread] at hk
              have fit : fit1 e l (.mk 3 [] (k :: kids)) := by
                rw [fit1]
                exact Or.inr (Or.inr (Or.inl ⟨rfl, rfl, by simp, he, hk⟩))
              have tail := fits_of (q := 3) (ih e l t').1 (fun k' s' kids' r' h => fun h => by have := h.2; omega)
              exact ⟨by simp only; rw [fits]; exact ⟨fit, fun h => absurd h.1 (by decide), tail⟩, fun _ => by simp only; rw [fits]; exact ⟨fit, fun h => absurd h.1 (by decide), tail⟩⟩
            · exact ⟨(plain r).1, (plain r).2⟩
          · split
            · rename_i hc
              obtain ⟨hc, hl⟩ := hc
              split
              · rename_i k kids t' hread
                have hk := (ih e true r).1
                rw [hread] at hk
                cases hd : dest t' with
                | none => exact ⟨(plain r).1, (plain r).2⟩
                | some p =>
                  obtain ⟨s, t''⟩ := p
                  obtain ⟨d1, d2, _⟩ := dest_some hd
                  have fit : fit1 e l (.mk 4 s (k :: kids)) := by
                    rw [fit1]
                    exact Or.inr (Or.inr (Or.inr ⟨rfl, d1, d2, by simp, hl, hk⟩))
                  have tail := fits_of (q := 4) (ih e l t'').1 (fun k' s' kids' r' h => fun h => by have := h.2; omega)
                  exact ⟨by simp only; rw [fits]; exact ⟨fit, fun h => absurd h.1 (by decide), tail⟩, fun _ => by simp only; rw [fits]; exact ⟨fit, fun h => absurd h.1 (by decide), tail⟩⟩
              · exact ⟨(plain r).1, (plain r).2⟩
            · exact ⟨(plain r).1, (plain r).2⟩
/-- What is read, and written, is read as that. -/
theorem again (f : Nat) (t : List UInt8) : (read (wrs (read f false false t).1).length false false (wrs (read f false false t).1)).1 = (read f false false t).1 :=
  parse_write _ (read_fits f false false t).1

end Go.Proofs.YtjgmfgnfdaeelaaGreatDoor.Sp
