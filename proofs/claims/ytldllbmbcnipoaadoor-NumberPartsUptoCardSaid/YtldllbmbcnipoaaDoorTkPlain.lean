/-
  TOKENS, in plain words: the tokens of a list of bytes, and the numbers of texts among lists, and what is true of them. No program.
-/
import Derived.Sort.Walk0
namespace Go.Proofs.YtldllbmbcnipoaaDoor.Tk
set_option linter.unusedVariables false

/-! Tokens. -/
def cls (b : UInt8) : Nat :=
  if b = 10 ∨ b = 13 then 3 else if b = 9 ∨ b = 32 then 2
  else if (33 ≤ b ∧ b ≤ 47) ∨ (58 ≤ b ∧ b ≤ 64) ∨ (91 ≤ b ∧ b ≤ 96) ∨ (123 ≤ b ∧ b ≤ 126) then 4 else 1
def joins (a b : UInt8) : Bool := cls a == cls b && decide (cls b < 3)
/-- The tokens of what is left, behind what the token that is open holds. -/
def tc : List UInt8 → List UInt8 → List (List UInt8)
  | cur, [] => if cur = [] then [] else [cur]
  | cur, b :: r =>
    match cur.getLast? with
    | none => tc [b] r
    | some a => if joins a b then tc (cur ++ [b]) r else cur :: tc [b] r
def toks (l : List UInt8) : List (List UInt8) := tc [] l
theorem tc_nil : tc [] [] = [] := rfl
theorem tc_end (cur : List UInt8) (h : cur ≠ []) : tc cur [] = [cur] := by rw [tc, if_neg h]
theorem tc_new (b : UInt8) (r : List UInt8) : tc [] (b :: r) = tc [b] r := rfl
theorem tc_on (c : List UInt8) (a b : UInt8) (r : List UInt8) (h : joins a b = true) : tc (c ++ [a]) (b :: r) = tc (c ++ [a] ++ [b]) r := by
  rw [tc, List.getLast?_concat]; simp only [h, if_true]
theorem tc_cut (c : List UInt8) (a b : UInt8) (r : List UInt8) (h : joins a b = false) : tc (c ++ [a]) (b :: r) = (c ++ [a]) :: tc [b] r := by
  rw [tc, List.getLast?_concat]; simp [h]
theorem snoc_of {c : List UInt8} (h : c ≠ []) : ∃ d a, c = d ++ [a] := ⟨c.dropLast, c.getLast h, (List.dropLast_concat_getLast h).symm⟩
theorem tc_flat : ∀ (r cur : List UInt8), (tc cur r).flatten = cur ++ r
  | [], cur => by
    by_cases h : cur = []
    · subst h; rfl
    · rw [tc_end _ h]; simp
  | b :: r, cur => by
    by_cases h : cur = []
    · subst h; rw [tc_new, tc_flat r [b]]; rfl
    · obtain ⟨c, a, rfl⟩ := snoc_of h
      cases hj : joins a b with
      | true => rw [tc_on _ _ _ _ hj, tc_flat r]; simp
      | false => rw [tc_cut _ _ _ _ hj, List.flatten_cons, tc_flat r]; simp
theorem toks_flat (l : List UInt8) : (toks l).flatten = l := tc_flat l []
/-- Bytes of one token. -/
def isRun : List UInt8 → Prop
  | [] => False
  | [_] => True
  | a :: b :: r => joins a b = true ∧ isRun (b :: r)
theorem isRun_ne {l : List UInt8} (h : isRun l) : l ≠ [] := by intro e; subst e; exact h
theorem isRun_snoc (a b : UInt8) (hj : joins a b = true) : ∀ c : List UInt8, isRun (c ++ [a]) → isRun (c ++ [a] ++ [b])
  | [], _ => ⟨hj, trivial⟩
  | [x], h => ⟨h.1, hj, trivial⟩
  | x :: y :: c, h => ⟨h.1, isRun_snoc a b hj (y :: c) h.2⟩
theorem isRun_joins (a b : UInt8) (r : List UInt8) : ∀ c : List UInt8, isRun (c ++ [a] ++ b :: r) → joins a b = true
  | [], h => h.1
  | [x], h => h.2.1
  | x :: y :: c, h => isRun_joins a b r (y :: c) h.2
theorem tc_runs : ∀ (r cur : List UInt8), (cur = [] ∨ isRun cur) → ∀ t ∈ tc cur r, isRun t
  | [], cur, h, t, ht => by
    by_cases hc : cur = []
    · subst hc; rw [tc_nil] at ht; cases ht
    · rw [tc_end _ hc] at ht
      simp at ht
      subst ht
      exact h.resolve_left hc
  | b :: r, cur, h, t, ht => by
    by_cases hc : cur = []
    · subst hc; exact tc_runs r [b] (Or.inr trivial) t ht
    · obtain ⟨c, a, rfl⟩ := snoc_of hc
      have hr := h.resolve_left hc
      cases hj : joins a b with
      | true =>
        rw [tc_on _ _ _ _ hj] at ht
        exact tc_runs r _ (Or.inr (isRun_snoc a b hj c hr)) t ht
      | false =>
        rw [tc_cut _ _ _ _ hj] at ht
        rcases List.mem_cons.1 ht with rfl | ht
        · exact hr
        · exact tc_runs r [b] (Or.inr trivial) t ht
theorem tc_run : ∀ (r cur : List UInt8), cur ≠ [] → isRun (cur ++ r) → tc cur r = [cur ++ r]
  | [], cur, hc, _ => by rw [tc_end _ hc, List.append_nil]
  | b :: r, cur, hc, h => by
    obtain ⟨c, a, rfl⟩ := snoc_of hc
    have hj := isRun_joins a b r c h
    rw [tc_on _ _ _ _ hj, tc_run r _ (by simp) (by simpa using h)]
    simp
theorem toks_run (t : List UInt8) (h : isRun t) : toks t = [t] := by
  cases t with
  | nil => exact absurd h (by simp [isRun])
  | cons b r => exact tc_run r [b] (by simp) h
theorem toks_again (l t : List UInt8) (h : t ∈ toks l) : toks t = [t] := toks_run t (tc_runs l [] (Or.inl rfl) t h)
theorem toks_ne (l t : List UInt8) (h : t ∈ toks l) : t ≠ [] := isRun_ne (tc_runs l [] (Or.inl rfl) t h)
theorem tc_len : ∀ (r cur : List UInt8), (tc cur r).length ≤ r.length + (if cur = [] then 0 else 1)
  | [], cur => by
    by_cases h : cur = []
    · subst h; simp [tc]
    · rw [tc_end _ h, if_neg h]; simp
  | b :: r, cur => by
    by_cases h : cur = []
    · subst h
      have := tc_len r [b]
      rw [if_neg (by simp)] at this
      rw [tc_new, if_pos rfl]
      simpa using this
    · rw [if_neg h]
      obtain ⟨c, a, rfl⟩ := snoc_of h
      cases hj : joins a b with
      | true =>
        have := tc_len r (c ++ [a] ++ [b])
        rw [if_neg (by simp)] at this
        rw [tc_on _ _ _ _ hj]
        simp only [List.length_cons]
        omega
      | false =>
        have := tc_len r [b]
        rw [if_neg (by simp)] at this
        rw [tc_cut _ _ _ _ hj]
        simp only [List.length_cons]
        omega
theorem toks_len (l : List UInt8) : (toks l).length ≤ l.length := by
  have := tc_len l []
  rwa [if_pos rfl] at this
theorem tc_mem_len : ∀ (r cur t : List UInt8), t ∈ tc cur r → t.length ≤ cur.length + r.length := by
  intro r cur t h
  have hf := tc_flat r cur
  obtain ⟨p, q, hpq⟩ := List.append_of_mem h
  rw [hpq] at hf
  have := congrArg List.length hf
  simp at this
  omega
/-- What a token's beginning is plays no part behind it. -/
theorem tc_pre : ∀ (r p q : List UInt8), q ≠ [] → ∃ t ts, tc q r = t :: ts ∧ tc (p ++ q) r = (p ++ t) :: ts
  | [], p, q, h => ⟨q, [], tc_end _ h, tc_end _ (by simp [h])⟩
  | b :: r, p, q, h => by
    obtain ⟨c, a, rfl⟩ := snoc_of h
    cases hj : joins a b with
    | true =>
      obtain ⟨t, ts, h1, h2⟩ := tc_pre r p (c ++ [a] ++ [b]) (by simp)
      refine ⟨t, ts, by rw [tc_on _ _ _ _ hj]; exact h1, ?_⟩
      rw [← List.append_assoc, tc_on _ _ _ _ hj, ← h2]
      simp
    | false =>
      refine ⟨c ++ [a], tc [b] r, tc_cut _ _ _ _ hj, ?_⟩
      rw [← List.append_assoc, tc_cut _ _ _ _ hj]
theorem tc_app (b : List UInt8) : ∀ (a cur : List UInt8), (cur ≠ [] ∨ a ≠ []) → ∃ ts t, tc cur a = ts ++ [t] ∧ tc cur (a ++ b) = ts ++ tc t b ∧ t ≠ []
  | [], cur, h => by
    have hc : cur ≠ [] := h.resolve_right (by simp)
    exact ⟨[], cur, tc_end _ hc, rfl, hc⟩
  | x :: a, cur, h => by
    by_cases hc : cur = []
    · subst hc
      exact tc_app b a [x] (Or.inl (by simp))
    · obtain ⟨c, y, rfl⟩ := snoc_of hc
      cases hj : joins y x with
      | true =>
        obtain ⟨ts, t, h1, h2, h3⟩ := tc_app b a (c ++ [y] ++ [x]) (Or.inl (by simp))
        exact ⟨ts, t, by rw [tc_on _ _ _ _ hj]; exact h1, by rw [List.cons_append, tc_on _ _ _ _ hj]; exact h2, h3⟩
      | false =>
        obtain ⟨ts, t, h1, h2, h3⟩ := tc_app b a [x] (Or.inl (by simp))
        exact ⟨(c ++ [y]) :: ts, t, by rw [tc_cut _ _ _ _ hj, h1]; rfl, by rw [List.cons_append, tc_cut _ _ _ _ hj, h2]; rfl, h3⟩
/-- Tokens of two texts, one behind the other. -/
theorem toks_parts (a b : List UInt8) : toks (a ++ b) = toks a ++ toks b ∨ ∃ ts t u us, toks a = ts ++ [t] ∧ toks b = u :: us ∧ toks (a ++ b) = ts ++ (t ++ u) :: us := by
  by_cases ha : a = []
  · subst ha; exact Or.inl rfl
  obtain ⟨ts, t, h1, h2, h3⟩ := tc_app b a [] (Or.inr ha)
  cases b with
  | nil =>
    left
    show tc [] (a ++ []) = tc [] a ++ tc [] []
    simp [tc_nil]
  | cons y r =>
    obtain ⟨c, x, rfl⟩ := snoc_of h3
    cases hj : joins x y with
    | true =>
      right
      obtain ⟨u, us, k1, k2⟩ := tc_pre r (c ++ [x]) [y] (by simp)
      exact ⟨ts, c ++ [x], u, us, h1, k1, by show tc [] (a ++ y :: r) = _; rw [h2, tc_on _ _ _ _ hj, k2]⟩
    | false =>
      left
      show tc [] (a ++ y :: r) = tc [] a ++ tc [] (y :: r)
      rw [h2, h1, tc_cut _ _ _ _ hj, tc_new]
      simp
theorem isRun_rep (c : UInt8) (h : cls c < 3) : ∀ n, isRun (List.replicate (n + 1) c)
  | 0 => trivial
  | n + 1 => ⟨by simp [joins, h], isRun_rep c h n⟩
theorem toks_rep_run (c : UInt8) (h : cls c < 3) (n : Nat) : (toks (List.replicate n c)).length = min n 1 := by
  cases n with
  | zero => rfl
  | succ n =>
    rw [toks_run _ (isRun_rep c h n)]
    simp
theorem tc_rep (c : UInt8) (h : ¬ cls c < 3) : ∀ n, (tc [c] (List.replicate n c)).length = n + 1
  | 0 => rfl
  | n + 1 => by
    rw [List.replicate_succ, show ([c] : List UInt8) = [] ++ [c] from rfl, tc_cut _ _ _ _ (by simp [joins, h]), List.length_cons, tc_rep c h n]
theorem toks_rep_mark (c : UInt8) (h : ¬ cls c < 3) (n : Nat) : (toks (List.replicate n c)).length = n := by
  cases n with
  | zero => rfl
  | succ n => exact tc_rep c h n

/-! Numbers of texts. -/
abbrev Tx := List UInt8
/-- Each text once. -/
def dd : List Tx → List Tx
  | [] => []
  | x :: r => if x ∈ r then dd r else x :: dd r
theorem mem_dd (y : Tx) : ∀ l, y ∈ dd l ↔ y ∈ l
  | [] => Iff.rfl
  | x :: r => by
    unfold dd
    split
    · rename_i h
      rw [mem_dd y r, List.mem_cons]
      exact ⟨Or.inr, fun h' => h'.elim (fun e => e ▸ h) id⟩
    · rw [List.mem_cons, List.mem_cons, mem_dd y r]
theorem dd_nodup : ∀ l, (dd l).Nodup
  | [] => List.nodup_nil
  | x :: r => by
    unfold dd
    split
    · exact dd_nodup r
    · rename_i h
      exact List.nodup_cons.2 ⟨fun h' => h ((mem_dd x r).1 h'), dd_nodup r⟩
theorem perm_dd {l : List Tx} (hn : l.Nodup) {m : List Tx} (h : ∀ y, y ∈ l ↔ y ∈ m) : l.Perm (dd m) :=
  (List.perm_ext_iff_of_nodup hn (dd_nodup m)).2 (fun y => (h y).trans (mem_dd y m).symm)
/-- How many unlike texts stand ahead. -/
def rank (all : List Tx) (x : Tx) : Nat := ((dd all).filter (fun y => decide (y < x))).length
theorem rank_of {l : List Tx} (hn : l.Nodup) {m : List Tx} (h : ∀ y, y ∈ l ↔ y ∈ m) (x : Tx) : (l.filter (fun y => decide (y < x))).length = rank m x :=
  ((perm_dd hn h).filter _).length_eq
theorem rank_same {l m : List Tx} (h : ∀ y, y ∈ l ↔ y ∈ m) (x : Tx) : rank l x = rank m x :=
  rank_of (dd_nodup l) (fun y => (mem_dd y l).trans (h y)) x
theorem dd_len {l m : List Tx} (h : ∀ y, y ∈ l ↔ y ∈ m) : (dd l).length = (dd m).length :=
  (perm_dd (dd_nodup l) (fun y => (mem_dd y l).trans (h y))).length_eq
theorem dd_snoc (l : List Tx) (x : Tx) : (dd (l ++ [x])).length = (dd l).length + (if x ∈ l then 0 else 1) := by
  by_cases h : x ∈ l
  · rw [if_pos h, Nat.add_zero]
    refine dd_len (fun y => ?_)
    simp only [List.mem_append, List.mem_singleton]
    exact ⟨fun h' => h'.elim id (fun e => e ▸ h), Or.inl⟩
  · rw [if_neg h]
    have : (x :: l).Perm (l ++ [x]) := (List.perm_append_singleton x l).symm
    have h2 : (dd (l ++ [x])).length = (dd (x :: l)).length := dd_len (fun y => (this.mem_iff).symm)
    rw [h2, dd, if_neg h]
    rfl
theorem lt_tri (x y : Tx) : x < y ∨ x = y ∨ y < x := by
  by_cases h1 : x < y
  · exact Or.inl h1
  · by_cases h2 : y < x
    · exact Or.inr (Or.inr h2)
    · exact Or.inr (Or.inl (List.le_antisymm (List.not_lt.1 h2) (List.not_lt.1 h1)))
theorem filter_strict {l : List Tx} {x y : Tx} (hx : x ∈ l) (h : x < y) : (l.filter (fun z => decide (z < x))).length < (l.filter (fun z => decide (z < y))).length := by
  induction l with
  | nil => cases hx
  | cons a l ih =>
    have hle : (l.filter (fun z => decide (z < x))).length ≤ (l.filter (fun z => decide (z < y))).length := by
      have : ∀ m : List Tx, (m.filter (fun z => decide (z < x))).length ≤ (m.filter (fun z => decide (z < y))).length := by
        intro m
        induction m with
        | nil => exact Nat.le_refl _
        | cons c m ih2 =>
          rw [List.filter_cons, List.filter_cons]
          by_cases hc : c < x
          · have hc2 : c < y := List.lt_trans hc h
            simp only [hc, hc2, decide_true, if_true, List.length_cons]
            omega
          · by_cases hc2 : c < y
            · simp only [hc, hc2, decide_true, decide_false, if_true, List.length_cons]
              simp only [Bool.false_eq_true, if_false]
              omega
            · simp only [hc, hc2, decide_false, Bool.false_eq_true, if_false]
              exact ih2
      exact this l
    rw [List.filter_cons, List.filter_cons]
    rcases List.mem_cons.1 hx with rfl | hx
    · have h0 : ¬ x < x := List.lt_irrefl x
      simp only [h0, h, decide_true, decide_false, if_true, Bool.false_eq_true, if_false, List.length_cons]
      omega
    · have ih' := ih hx
      by_cases hc : a < x
      · have hc2 : a < y := List.lt_trans hc h
        simp only [hc, hc2, decide_true, if_true, List.length_cons]
        omega
      · by_cases hc2 : a < y
        · simp only [hc, hc2, decide_true, decide_false, if_true, Bool.false_eq_true, if_false, List.length_cons]
          omega
        · simp only [hc, hc2, decide_false, Bool.false_eq_true, if_false]
          exact ih'
theorem rank_lt {all : List Tx} {x y : Tx} (hx : x ∈ all) (hy : y ∈ all) : x < y ↔ rank all x < rank all y := by
  have up : ∀ {x y : Tx}, x ∈ all → x < y → rank all x < rank all y := fun hx h => filter_strict ((mem_dd _ _).2 hx) h
  constructor
  · exact up hx
  · intro h
    rcases lt_tri x y with h' | rfl | h'
    · exact h'
    · omega
    · have := up hy h'; omega
theorem rank_eq {all : List Tx} {x y : Tx} (hx : x ∈ all) (hy : y ∈ all) : x = y ↔ rank all x = rank all y := by
  constructor
  · intro h; rw [h]
  · intro h
    rcases lt_tri x y with h' | h' | h'
    · have := (rank_lt hx hy).1 h'; omega
    · exact h'
    · have := (rank_lt hy hx).1 h'; omega
theorem rank_bound {all : List Tx} {x : Tx} (hx : x ∈ all) : rank all x < (dd all).length := by
  have hmem : x ∈ dd all := (mem_dd _ _).2 hx
  have hle : rank all x ≤ (dd all).length := List.length_filter_le _ _
  rcases Nat.lt_or_ge (rank all x) (dd all).length with h | h
  · exact h
  · exfalso
    have he : ((dd all).filter (fun y => decide (y < x))).length = (dd all).length := Nat.le_antisymm hle h
    have := List.length_filter_eq_length_iff.1 he x hmem
    exact List.lt_irrefl x (of_decide_eq_true this)

/-! A list that rises. -/
def Rises (l : List Tx) : Prop := l.Pairwise (· < ·)
theorem Rises.nodup {l : List Tx} (h : Rises l) : l.Nodup := by
  refine List.Pairwise.imp ?_ h
  intro a b hab e
  subst e
  exact List.lt_irrefl a hab
/-- How many stand ahead, from the left. -/
def at_ (l : List Tx) (s : Tx) : Nat := (l.takeWhile (fun y => decide (y < s))).length
theorem at_le (l : List Tx) (s : Tx) : at_ l s ≤ l.length := (List.takeWhile_sublist _).length_le
theorem at_cons_yes {x s : Tx} (h : x < s) (l : List Tx) : at_ (x :: l) s = at_ l s + 1 := by
  unfold at_; rw [List.takeWhile_cons_of_pos (by simpa using h)]; rfl
theorem at_cons_no {x s : Tx} (h : ¬ x < s) (l : List Tx) : at_ (x :: l) s = 0 := by
  unfold at_; rw [List.takeWhile_cons_of_neg (by simpa using h)]; rfl
theorem at_filter (s : Tx) : ∀ l : List Tx, Rises l → at_ l s = (l.filter (fun y => decide (y < s))).length
  | [], _ => rfl
  | x :: l, h => by
    obtain ⟨h1, h2⟩ := List.pairwise_cons.1 h
    by_cases hx : x < s
    · rw [at_cons_yes hx, at_filter s l h2, List.filter_cons_of_pos (by simpa using hx)]
      rfl
    · rw [at_cons_no hx, List.filter_cons_of_neg (by simpa using hx)]
      rw [List.filter_eq_nil_iff.2]
      · rfl
      · intro y hy
        have : ¬ y < s := fun h' => hx (List.lt_trans (h1 y hy) h')
        simpa using this
theorem at_rank {l all : List Tx} (h : Rises l) (hm : ∀ y, y ∈ l ↔ y ∈ all) (s : Tx) : at_ l s = rank all s := by
  rw [at_filter s l h, rank_of h.nodup hm]
/-- Into a list that rises, once. -/
def put (l : List Tx) (s : Tx) : List Tx := if l[at_ l s]? = some s then l else l.take (at_ l s) ++ s :: l.drop (at_ l s)
theorem put_cons_yes {x s : Tx} (h : x < s) (l : List Tx) : put (x :: l) s = x :: put l s := by
  unfold put
  rw [at_cons_yes h, List.getElem?_cons_succ]
  split <;> rfl
theorem put_ok (s : Tx) : ∀ l : List Tx, Rises l → Rises (put l s) ∧ ∀ y, y ∈ put l s ↔ y ∈ l ∨ y = s
  | [], _ => ⟨List.pairwise_singleton _ _, fun y => by simp [put, at_]⟩
  | x :: l, h => by
    obtain ⟨h1, h2⟩ := List.pairwise_cons.1 h
    by_cases hx : x < s
    · rw [put_cons_yes hx]
      obtain ⟨i1, i2⟩ := put_ok s l h2
      refine ⟨List.pairwise_cons.2 ⟨fun y hy => ?_, i1⟩, fun y => ?_⟩
      · rcases (i2 y).1 hy with hy | rfl
        · exact h1 y hy
        · exact hx
      · rw [List.mem_cons, i2, List.mem_cons]
        exact ⟨fun h => h.elim (fun e => Or.inl (Or.inl e)) (fun h => h.elim (fun h => Or.inl (Or.inr h)) Or.inr), fun h => h.elim (fun h => h.elim Or.inl (fun h => Or.inr (Or.inl h))) (fun h => Or.inr (Or.inr h))⟩
    · unfold put
      rw [at_cons_no hx]
      by_cases e : x = s
      · subst e
        rw [List.getElem?_cons_zero, if_pos rfl]
        exact ⟨h, fun y => ⟨Or.inl, fun h => h.elim id (fun e => by rw [e]; exact List.mem_cons_self ..)⟩⟩
      · rw [List.getElem?_cons_zero, if_neg (fun he => e (Option.some.inj he))]
        have hsx : s < x := by
          rcases lt_tri x s with h' | h' | h'
          · exact absurd h' hx
          · exact absurd h' e
          · exact h'
        refine ⟨List.pairwise_cons.2 ⟨fun y hy => ?_, h⟩, fun y => ?_⟩
        · rcases List.mem_cons.1 hy with rfl | hy
          · exact hsx
          · exact List.lt_trans hsx (h1 y hy)
        · show y ∈ s :: x :: l ↔ _
          rw [List.mem_cons]
          exact ⟨fun h => h.elim Or.inr Or.inl, fun h => h.elim Or.inr Or.inl⟩
/-- All of a list, put in one by one. -/
def puts (l : List Tx) (xs : List Tx) : List Tx := xs.foldl put l
theorem puts_snoc (l xs : List Tx) (x : Tx) : puts l (xs ++ [x]) = put (puts l xs) x := by unfold puts; rw [List.foldl_append]; rfl
theorem puts_ok : ∀ (xs l : List Tx), Rises l → Rises (puts l xs) ∧ ∀ y, y ∈ puts l xs ↔ y ∈ l ∨ y ∈ xs
  | [], l, h => ⟨h, fun y => by simp [puts]⟩
  | x :: xs, l, h => by
    obtain ⟨h1, h2⟩ := put_ok x l h
    obtain ⟨i1, i2⟩ := puts_ok xs (put l x) h1
    refine ⟨i1, fun y => ?_⟩
    show y ∈ puts (put l x) xs ↔ _
    rw [i2, h2, List.mem_cons, or_assoc]
theorem put_len (l : List Tx) (s : Tx) : (put l s).length ≤ l.length + 1 := by
  unfold put
  split
  · omega
  · rw [List.length_append, List.length_cons, List.length_take, List.length_drop]
    have := at_le l s
    omega
/-- The document's numbers of a list, beside another one. -/
def ids (a b : List Tx) : List Nat := a.map (at_ (puts (puts [] a) b))
theorem ids_rank (a b : List Tx) : ids a b = a.map (rank (a ++ b)) := by
  unfold ids
  refine List.map_congr_left (fun x _ => ?_)
  obtain ⟨h1, h2⟩ := puts_ok a [] List.Pairwise.nil
  obtain ⟨h3, h4⟩ := puts_ok b _ h1
  exact at_rank h3 (fun y => by rw [h4, h2]; simp) x
theorem less_eq (x y : Tx) : Op.bytesLess x y = decide (x < y) := bytesLess_eq x y

end Go.Proofs.YtldllbmbcnipoaaDoor.Tk
