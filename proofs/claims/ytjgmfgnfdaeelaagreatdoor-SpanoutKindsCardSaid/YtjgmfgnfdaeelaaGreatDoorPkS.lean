/-
  Several texts in one:
  PIECES OF A TEXT, in plain words: what reading makes of them, where it ends. No program.
  PLAIN: reading pieces by their places; the spans and the text gathered so far. No program.
-/
import Derived.Test.YtjgmfgnfdaeelaaGreatDoorPkG
namespace Go.Proofs.YtjgmfgnfdaeelaaGreatDoor.Sp
set_option linter.unusedVariables false

/-- A piece: its kind (0 text, 1 a Code, 2 a star, 3 [, 4 ], 5 a link's tail), what it says, what it was cut from. -/
structure Pc where
  kind : Nat
  s : List UInt8
  raw : List UInt8
def raws : List Pc → List UInt8
  | [] => []
  | p :: P => p.raw ++ raws P
theorem raws_app : ∀ (A B : List Pc), raws (A ++ B) = raws A ++ raws B
  | [], B => rfl
  | p :: A, B => by rw [List.cons_append, raws, raws_app A B, raws, List.append_assoc]
/-- Where a link goes to, if a tail is next. -/
def tailOf : List Pc → Option (List UInt8 × List UInt8)
  | [] => none
  | p :: P => if p.kind = 5 then some (p.s.tail.dropLast, raws P) else none
def AsText (p : Pc) (P : List Pc) : Prop := p.s ≠ [] ∧ ∀ e l L, gl e l L (p.raw ++ raws P) = gl e l (snocT L p.s) (raws P)
def AsCode (p : Pc) (P : List Pc) : Prop := ∀ e l L, gl e l L (p.raw ++ raws P) = gl e l (L ++ [.mk 2 p.s []]) (raws P)
def Good : List Pc → Prop
  | [] => True
  | p :: P => Good P ∧ ((p.kind = 0 ∧ AsText p P) ∨ (p.kind = 1 ∧ AsCode p P) ∨ (p.kind = 2 ∧ p.s = [42] ∧ p.raw = [42]) ∨ (p.kind = 3 ∧ p.s = [91] ∧ p.raw = [91]) ∨ (p.kind = 4 ∧ p.s = [93] ∧ p.raw = [93] ∧ dest (raws P) = tailOf P) ∨ (p.kind = 5 ∧ AsText p P ∧ 2 ≤ p.s.length))
theorem Good.tail {p : Pc} {P : List Pc} (h : Good (p :: P)) : Good P := h.1
theorem Good.drop {A : List Pc} (h : Good A) : ∀ i, Good (A.drop i) := by
  intro i
  induction i generalizing A with
  | zero => exact h
  | succ i ih =>
    cases A with
    | nil => exact h
    | cons p P => exact ih h.1

/-- Does reading end at a piece? -/
def isEnd (e l : Bool) (p : Pc) : Bool := (e && decide (p.kind = 2)) || (l && decide (p.kind = 4))
/-- What is left where reading ends. -/
def dw (e l : Bool) (P : List Pc) : List Pc := P.dropWhile (fun p => !isEnd e l p)
theorem dw_cons (e l : Bool) (p : Pc) (P : List Pc) : dw e l (p :: P) = if isEnd e l p = true then p :: P else dw e l P := by
  unfold dw
  rw [List.dropWhile_cons]
  cases isEnd e l p <;> rfl
theorem dw_len (e l : Bool) : ∀ P : List Pc, (dw e l P).length ≤ P.length
  | [] => Nat.le_refl _
  | p :: P => by
    have := dw_len e l P
    rw [dw_cons]
    split
    · exact Nat.le_refl _
    · rw [List.length_cons]; omega
theorem dw_head (e l : Bool) : ∀ (P : List Pc) (q : Pc) (Q : List Pc), dw e l P = q :: Q → isEnd e l q = true
  | [], q, Q, h => by cases h
  | p :: P, q, Q, h => by
    rw [dw_cons] at h
    split at h
    · rename_i he
      cases h
      exact he
    · exact dw_head e l P q Q h
theorem dw_mono {e l e' l' : Bool} (hm : ∀ p, isEnd e l p = true → isEnd e' l' p = true) : ∀ P : List Pc, dw e l (dw e' l' P) = dw e l P
  | [] => rfl
  | p :: P => by
    rw [dw_cons e' l', dw_cons e l]
    by_cases h : isEnd e l p = true
    · rw [if_pos (hm p h), if_pos h, dw_cons, if_pos h]
    · rw [if_neg h]
      by_cases h' : isEnd e' l' p = true
      · rw [if_pos h', dw_cons, if_neg h]
      · rw [if_neg h', dw_mono hm P]
theorem dw_good {e l : Bool} : ∀ {P : List Pc}, Good P → Good (dw e l P)
  | [], h => h
  | p :: P, h => by
    rw [dw_cons]
    split
    · exact h
    · exact dw_good h.1

/-- There is no less than there was. -/
theorem snocT_ne (L : List Sp) (s : List UInt8) : snocT L s ≠ [] := by
  rcases List.eq_nil_or_concat L with rfl | ⟨M, x, rfl⟩
  · simp [snocT]
  · rw [List.concat_eq_append, snocT_app]
    split <;> simp
theorem glue_ne {L : List Sp} (h : L ≠ []) : ∀ R : List Sp, glue L R ≠ []
  | [] => h
  | x :: r => by
    rw [glue]
    split
    · intro e
      exact snocT_ne L x.s (List.append_eq_nil_iff.1 e).1
    · simp
theorem gl_ne {e l : Bool} {L : List Sp} (h : L ≠ []) (t : List UInt8) : (gl e l L t).1 ≠ [] := glue_ne h _

/-- What is read of pieces: what is left is known, and whether there is any. -/
def Ends (e l : Bool) (P : List Pc) : Prop := ∀ L, (gl e l L (raws P)).2 = raws (dw e l P) ∧ ((gl e l L (raws P)).1 = [] → L = [] ∧ dw e l P = P)
theorem raws_star {p : Pc} {P : List Pc} (h : Good (p :: P)) (hk : p.kind = 2) : p.s = [42] ∧ raws (p :: P) = 42 :: raws P := by
  obtain ⟨_, h | h | h | h | h | h⟩ := h
  · omega
  · omega
  · rw [raws, h.2.2]; exact ⟨h.2.1, rfl⟩
  · omega
  · omega
  · omega
theorem raws_open {p : Pc} {P : List Pc} (h : Good (p :: P)) (hk : p.kind = 3) : p.s = [91] ∧ raws (p :: P) = 91 :: raws P := by
  obtain ⟨_, h | h | h | h | h | h⟩ := h
  · omega
  · omega
  · omega
  · rw [raws, h.2.2]; exact ⟨h.2.1, rfl⟩
  · omega
  · omega
theorem raws_shut {p : Pc} {P : List Pc} (h : Good (p :: P)) (hk : p.kind = 4) : p.s = [93] ∧ raws (p :: P) = 93 :: raws P ∧ dest (raws P) = tailOf P := by
  obtain ⟨_, h | h | h | h | h | h⟩ := h
  · omega
  · omega
  · omega
  · omega
  · rw [raws, h.2.2.1]; exact ⟨h.2.1, rfl, h.2.2.2⟩
  · omega
theorem good_text {p : Pc} {P : List Pc} (h : Good (p :: P)) (hk : p.kind = 0 ∨ p.kind = 5) : AsText p P := by
  obtain ⟨_, h | h | h | h | h | h⟩ := h
  · exact h.2
  · omega
  · omega
  · omega
  · omega
  · exact h.2.1
theorem good_long {p : Pc} {P : List Pc} (h : Good (p :: P)) (hk : p.kind = 5) : 2 ≤ p.s.length := by
  obtain ⟨_, h | h | h | h | h | h⟩ := h
  · omega
  · omega
  · omega
  · omega
  · omega
  · exact h.2.2
theorem good_code {p : Pc} {P : List Pc} (h : Good (p :: P)) (hk : p.kind = 1) : AsCode p P := by
  obtain ⟨_, h | h | h | h | h | h⟩ := h
  · omega
  · exact h.2
  · omega
  · omega
  · omega
  · omega
theorem good_kind {p : Pc} {P : List Pc} (h : Good (p :: P)) : p.kind ≤ 5 := by
  obtain ⟨_, h | h | h | h | h | h⟩ := h <;> omega

/-- Where reading ends, a step says so. -/
theorem step_end {e l : Bool} {p : Pc} {P : List Pc} (h : Good (p :: P)) (hp : isEnd e l p = true) (L : List Sp) : gl e l L (raws (p :: P)) = (L, raws (p :: P)) := by
  unfold isEnd at hp
  simp only [Bool.or_eq_true, Bool.and_eq_true, decide_eq_true_eq] at hp
  rcases hp with ⟨rfl, hk⟩ | ⟨rfl, hk⟩
  · rw [(raws_star h hk).2]
    exact gl_stop (by unfold stp stepOf; rw [if_pos (Or.inl ⟨rfl, rfl⟩)])
  · rw [(raws_shut h hk).2.1]
    exact gl_stop (by unfold stp stepOf; rw [if_pos (Or.inr ⟨rfl, rfl⟩)])
/-- A star that begins nothing, and one that does. -/
theorem step_star {l : Bool} {p : Pc} {P : List Pc} (h : Good (p :: P)) (hk : p.kind = 2) (hE : Ends true l P) (L : List Sp) :
    (∀ q Q, dw true l P = q :: Q → q.kind = 2 → dw true l P ≠ P → gl false l L (raws (p :: P)) = gl false l (L ++ [.mk 3 [] (Rdr true l (raws P)).1]) (raws Q)) ∧
    ((∀ q Q, dw true l P = q :: Q → q.kind = 2 → dw true l P = P) → gl false l L (raws (p :: P)) = gl false l (snocT L [42]) (raws P)) := by
  rw [(raws_star h hk).2]
  obtain ⟨h1, h2⟩ := hE []
  rw [gl_begin] at h1 h2
  have hG := dw_good (e := true) (l := l) h.1
  have hst : stp false l 42 (raws P) = match Rdr true l (raws P) with
    | (k :: kids, 42 :: t') => .span (.mk 3 [] (k :: kids)) t'
    | _ => .text [42] (raws P) := by
    unfold stp stepOf
    rw [if_neg (by simp), if_neg (by simp), if_neg (by decide), if_pos rfl]
    rfl
  refine ⟨fun q Q hq hq2 hne => ?_, fun hno => ?_⟩
  · rw [hq] at h1 hG
    rw [(raws_star hG hq2).2] at h1
    refine gl_span (x := .mk 3 [] (Rdr true l (raws P)).1) ?_
    rw [hst]
    generalize Rdr true l (raws P) = R at *
    obtain ⟨A, B⟩ := R
    simp only at h1 h2
    subst h1
    cases A with
    | nil => exact absurd (h2 rfl).2 hne
    | cons k kids => rfl
  · refine gl_text ?_
    rw [hst]
    split
    · rename_i k kids t' hr
      rw [hr] at h1 h2
      simp only at h1
      cases hd : dw true l P with
      | nil => rw [hd] at h1; cases h1
      | cons q Q =>
        have hq := dw_head true l P q Q hd
        rw [hd] at h1 hG
        by_cases hq2 : q.kind = 2
        · have := hno q Q hd hq2
          rw [hd] at this
          rw [← this] at hr
          have hse := step_end (e := true) (l := l) hG hq []
          rw [gl_begin] at hse
          rw [hse] at hr
          cases hr
        · unfold isEnd at hq
          simp only [Bool.or_eq_true, Bool.and_eq_true, decide_eq_true_eq] at hq
          rcases hq with hq | hq
          · exact absurd hq.2 hq2
          · rw [(raws_shut hG hq.2).2.1] at h1
            cases h1
    · rfl
/-- A [ that begins nothing, and one that does. -/
theorem step_open {e : Bool} {p : Pc} {P : List Pc} (h : Good (p :: P)) (hk : p.kind = 3) (hE : Ends e true P) (L : List Sp) :
    (∀ q t Q, dw e true P = q :: t :: Q → q.kind = 4 → t.kind = 5 → dw e true P ≠ P → gl e false L (raws (p :: P)) = gl e false (L ++ [.mk 4 t.s.tail.dropLast (Rdr e true (raws P)).1]) (raws Q)) ∧
    ((∀ q t Q, dw e true P = q :: t :: Q → q.kind = 4 → t.kind = 5 → dw e true P = P) → gl e false L (raws (p :: P)) = gl e false (snocT L [91]) (raws P)) := by
  rw [(raws_open h hk).2]
  obtain ⟨h1, h2⟩ := hE []
  rw [gl_begin] at h1 h2
  have hG := dw_good (e := e) (l := true) h.1
  have hst : stp e false 91 (raws P) = match Rdr e true (raws P) with
    | (k :: kids, 93 :: t') => match dest t' with
      | some (s, t'') => .span (.mk 4 s (k :: kids)) t''
      | none => .text [91] (raws P)
    | _ => .text [91] (raws P) := by
    unfold stp stepOf
    rw [if_neg (by simp), if_neg (by simp), if_neg (by decide), if_neg (by decide), if_pos ⟨rfl, rfl⟩]
    rfl
  refine ⟨fun q t Q hq hq2 ht hne => ?_, fun hno => ?_⟩
  · rw [hq] at h1 hG
    obtain ⟨_, hs2, hs3⟩ := raws_shut hG hq2
    rw [hs2] at h1
    rw [tailOf, if_pos ht] at hs3
    refine gl_span (x := .mk 4 t.s.tail.dropLast (Rdr e true (raws P)).1) ?_
    rw [hst]
    generalize Rdr e true (raws P) = R at *
    obtain ⟨A, B⟩ := R
    simp only at h1 h2
    subst h1
    cases A with
    | nil => exact absurd (h2 rfl).2 hne
    | cons k kids => simp only [hs3]
  · refine gl_text ?_
    rw [hst]
    split
    · rename_i k kids t' hr
      rw [hr] at h1 h2
      simp only at h1
      cases hd : dw e true P with
      | nil => rw [hd] at h1; cases h1
      | cons q Q =>
        have hq := dw_head e true P q Q hd
        rw [hd] at h1 hG
        by_cases hq2 : q.kind = 4
        · obtain ⟨_, hs2, hs3⟩ := raws_shut hG hq2
          rw [hs2] at h1
          cases h1
          rw [hs3]
          cases Q with
          | nil => rfl
          | cons t Q =>
            rw [tailOf]
            by_cases ht : t.kind = 5
            · have := hno q t Q hd hq2 ht
              rw [hd] at this
              rw [← this] at hr
              have hse := step_end (e := e) (l := true) hG hq []
              rw [gl_begin] at hse
              rw [hse] at hr
              cases hr
            · rw [if_neg ht]
        · unfold isEnd at hq
          simp only [Bool.or_eq_true, Bool.and_eq_true, decide_eq_true_eq] at hq
          rcases hq with hq | hq
          · rw [(raws_star hG hq.2).2] at h1
            cases h1
          · exact absurd hq.2 hq2
    · rfl
/-- A star in an emphasis's place is text; so is a ] out of a link, a [ in one. -/
theorem step_shut {e : Bool} {p : Pc} {P : List Pc} (h : Good (p :: P)) (hk : p.kind = 4) (L : List Sp) : gl e false L (raws (p :: P)) = gl e false (snocT L [93]) (raws P) := by
  rw [(raws_shut h hk).2.1]
  refine gl_text ?_
  unfold stp stepOf
  rw [if_neg (by simp), if_neg (by simp), if_neg (by decide), if_neg (by decide), if_neg (by simp)]
theorem step_open_in {e : Bool} {p : Pc} {P : List Pc} (h : Good (p :: P)) (hk : p.kind = 3) (L : List Sp) : gl e true L (raws (p :: P)) = gl e true (snocT L [91]) (raws P) := by
  rw [(raws_open h hk).2]
  refine gl_text ?_
  unfold stp stepOf
  rw [if_neg (by simp), if_neg (by simp), if_neg (by decide), if_neg (by decide), if_neg (by simp)]
theorem step_text {e l : Bool} {p : Pc} {P : List Pc} (h : Good (p :: P)) (hk : p.kind = 0 ∨ p.kind = 5) (L : List Sp) : gl e l L (raws (p :: P)) = gl e l (snocT L p.s) (raws P) := by
  rw [raws]
  exact (good_text h hk).2 e l L
theorem step_code {e l : Bool} {p : Pc} {P : List Pc} (h : Good (p :: P)) (hk : p.kind = 1) (L : List Sp) : gl e l L (raws (p :: P)) = gl e l (L ++ [.mk 2 p.s []]) (raws P) := by
  rw [raws]
  exact good_code h hk e l L

theorem isEnd_ne {e l : Bool} {p : Pc} (h : isEnd e l p = false) : ¬ (e = true ∧ p.kind = 2) ∧ ¬ (l = true ∧ p.kind = 4) := by
  unfold isEnd at h
  simp only [Bool.or_eq_false_iff, Bool.and_eq_false_iff, decide_eq_false_iff_not] at h
  exact ⟨fun ⟨a, b⟩ => by rcases h.1 with h | h; · rw [a] at h; cases h
                          · exact h b, fun ⟨a, b⟩ => by rcases h.2 with h | h; · rw [a] at h; cases h
                                                        · exact h b⟩
theorem Ends_next {e l : Bool} {p : Pc} {P Q : List Pc} (hp : isEnd e l p = false) (hQ : Ends e l Q) (hd : dw e l Q = dw e l P) {L L' : List Sp} (hne : L' ≠ [])
    (h : gl e l L (raws (p :: P)) = gl e l L' (raws Q)) : (gl e l L (raws (p :: P))).2 = raws (dw e l (p :: P)) ∧ ((gl e l L (raws (p :: P))).1 = [] → L = [] ∧ dw e l (p :: P) = p :: P) := by
  rw [h, dw_cons, hp, if_neg (by simp)]
  exact ⟨by rw [(hQ L').1, hd], fun h0 => absurd h0 (gl_ne hne _)⟩
/-- In an emphasis, in a link: reading ends at the next star, the next ]. -/
theorem ends_all : ∀ (n : Nat) (e l : Bool) (P : List Pc), P.length ≤ n → Good P → (e = true ∨ l = true) → Ends e l P
  | n, e, l, [], _, _, _ => fun L => ⟨rfl, fun h => ⟨h, rfl⟩⟩
  | 0, e, l, p :: P, h, _, _ => by simp at h
  | n + 1, e, l, p :: P, hn, hG, hel => by
    rw [List.length_cons] at hn
    have ih := fun e l (Q : List Pc) (hq : Q.length ≤ P.length) (hg : Good Q) (he : e = true ∨ l = true) => ends_all n e l Q (by omega) hg he
    intro L
    cases hp : isEnd e l p with
    | true =>
      rw [step_end hG hp, dw_cons, if_pos hp]
      exact ⟨rfl, fun h => ⟨h, rfl⟩⟩
    | false =>
      obtain ⟨n1, n2⟩ := isEnd_ne hp
      have hP := ih e l P (Nat.le_refl _) hG.1 hel
      have hk := good_kind hG
      have hcs : p.kind = 0 ∨ p.kind = 1 ∨ p.kind = 2 ∨ p.kind = 3 ∨ p.kind = 4 ∨ p.kind = 5 := by omega
      rcases hcs with hk | hk | hk | hk | hk | hk
      · exact Ends_next hp hP rfl (snocT_ne _ _) (step_text hG (Or.inl hk) L)
      · exact Ends_next hp hP rfl (by simp) (step_code hG hk L)
      · have he : e = false := by cases e <;> simp_all
        subst he
        have hl : l = true := by simpa using hel
        subst hl
        have hE := ih true true P (Nat.le_refl _) hG.1 (Or.inl rfl)
        obtain ⟨s1, s2⟩ := step_star hG hk hE L
        by_cases hx : ∃ q Q, dw true true P = q :: Q ∧ q.kind = 2 ∧ dw true true P ≠ P
        · obtain ⟨q, Q, hq, hq2, hne⟩ := hx
          have hGd := dw_good (e := true) (l := true) hG.1
          have hlen := dw_len true true P
          rw [hq] at hGd hlen
          have hd2 : dw false true Q = dw false true P := by
            have := dw_mono (e := false) (l := true) (e' := true) (l' := true) (fun p h => by unfold isEnd at h ⊢; simp at h ⊢; exact Or.inr h) P
            rw [hq, dw_cons, if_neg (by unfold isEnd; simp; omega)] at this
            exact this
          exact Ends_next hp (ih false true Q (by simp at hlen; omega) hGd.1 (Or.inr rfl)) hd2 (by simp) (s1 q Q hq hq2 hne)
        · refine Ends_next hp hP rfl (snocT_ne _ _) (s2 (fun q Q h1 h2 => Classical.byContradiction fun h3 => hx ⟨q, Q, h1, h2, h3⟩))
      · cases l with
        | true => exact Ends_next hp hP rfl (snocT_ne _ _) (step_open_in hG hk L)
        | false =>
          have he : e = true := by simpa using hel
          subst he
          have hE := ih true true P (Nat.le_refl _) hG.1 (Or.inl rfl)
          obtain ⟨s1, s2⟩ := step_open hG hk hE L
          by_cases hx : ∃ q t Q, dw true true P = q :: t :: Q ∧ q.kind = 4 ∧ t.kind = 5 ∧ dw true true P ≠ P
          · obtain ⟨q, t, Q, hq, hq2, ht, hne⟩ := hx
            have hGd := dw_good (e := true) (l := true) hG.1
            have hlen := dw_len true true P
            rw [hq] at hGd hlen
            have hd2 : dw true false Q = dw true false P := by
              have := dw_mono (e := true) (l := false) (e' := true) (l' := true) (fun p h => by unfold isEnd at h ⊢; simp at h ⊢; exact Or.inl h) P
              rw [hq, dw_cons, if_neg (by unfold isEnd; simp; omega), dw_cons, if_neg (by unfold isEnd; simp; omega)] at this
              exact this
            exact Ends_next hp (ih true false Q (by simp at hlen; omega) hGd.1.1 (Or.inl rfl)) hd2 (by simp) (s1 q t Q hq hq2 ht hne)
          · refine Ends_next hp hP rfl (snocT_ne _ _) (s2 (fun q t Q h1 h2 h3 => Classical.byContradiction fun h4 => hx ⟨q, t, Q, h1, h2, h3, h4⟩))
      · have hl : l = false := by cases l <;> simp_all
        subst hl
        exact Ends_next hp hP rfl (snocT_ne _ _) (step_shut hG hk L)
      · exact Ends_next hp hP rfl (snocT_ne _ _) (step_text hG (Or.inr hk) L)

/-! By places. -/
/-- The next place of a kind from i on. -/
def nxt (k : Nat) (A : List Pc) (i : Nat) : Nat := i + ((A.drop i).takeWhile (fun p => !decide (p.kind = k))).length
theorem drop_tw {α : Type} (f : α → Bool) : ∀ l : List α, l.drop (l.takeWhile f).length = l.dropWhile f
  | [] => rfl
  | x :: r => by
    rw [List.takeWhile_cons, List.dropWhile_cons]
    split
    · rw [List.length_cons, List.drop_succ_cons, drop_tw f r]
    · rfl
theorem nxt_le (k : Nat) (A : List Pc) (i : Nat) (h : i ≤ A.length) : i ≤ nxt k A i ∧ nxt k A i ≤ A.length := by
  unfold nxt
  have := (List.takeWhile_prefix (fun p : Pc => !decide (p.kind = k)) (l := A.drop i)).length_le
  rw [List.length_drop] at this
  omega
theorem nxt_at {k : Nat} {A : List Pc} {i : Nat} {p : Pc} (h : A[i]? = some p) : nxt k A i = if p.kind = k then i else nxt k A (i + 1) := by
  have hi : i < A.length := (List.getElem?_eq_some_iff.1 h).1
  have he : A.drop i = p :: A.drop (i + 1) := by
    rw [List.drop_eq_getElem_cons hi, (List.getElem?_eq_some_iff.1 h).2]
  unfold nxt
  rw [he, List.takeWhile_cons]
  by_cases hk : p.kind = k
  · simp [hk]
  · simp [hk]; omega
theorem nxt_end (k : Nat) (A : List Pc) : nxt k A A.length = A.length := by
  unfold nxt
  simp
/-- What is left, by places. -/
theorem dw_star (A : List Pc) (i : Nat) : dw true false (A.drop i) = A.drop (nxt 2 A i) := by
  unfold dw nxt
  rw [← List.drop_drop, ← drop_tw]
  congr 2
  all_goals (unfold isEnd; simp)
theorem dw_shut (A : List Pc) (i : Nat) : dw false true (A.drop i) = A.drop (nxt 4 A i) := by
  unfold dw nxt
  rw [← List.drop_drop, ← drop_tw]
  congr 2
  all_goals (unfold isEnd; simp)
theorem tw_min {α : Type} (f g : α → Bool) : ∀ l : List α, (l.takeWhile (fun x => f x && g x)).length = min (l.takeWhile f).length (l.takeWhile g).length
  | [] => rfl
  | x :: r => by
    have := tw_min f g r
    rw [List.takeWhile_cons, List.takeWhile_cons, List.takeWhile_cons]
    cases f x <;> cases g x <;> simp [this]
theorem dw_both (A : List Pc) (i : Nat) : dw true true (A.drop i) = A.drop (min (nxt 2 A i) (nxt 4 A i)) := by
  have h := tw_min (fun p : Pc => !decide (p.kind = 2)) (fun p => !decide (p.kind = 4)) (A.drop i)
  have e : min (nxt 2 A i) (nxt 4 A i) = i + ((A.drop i).takeWhile (fun p : Pc => !decide (p.kind = 2) && !decide (p.kind = 4))).length := by
    unfold nxt
    rw [h]
    omega
  rw [e, ← List.drop_drop, drop_tw]
  unfold dw isEnd
  congr 1
  funext p
  simp
/-- Where reading ends, by places. -/
def fin (e l : Bool) (A : List Pc) (i : Nat) : Nat := if e = true then (if l = true then min (nxt 2 A i) (nxt 4 A i) else nxt 2 A i) else (if l = true then nxt 4 A i else A.length)
theorem dw_fin (e l : Bool) (A : List Pc) (i : Nat) (h : e = true ∨ l = true) : dw e l (A.drop i) = A.drop (fin e l A i) := by
  unfold fin
  cases e <;> cases l
  · simp at h
  · simpa using dw_shut A i
  · simpa using dw_star A i
  · simpa using dw_both A i
end Go.Proofs.YtjgmfgnfdaeelaaGreatDoor.Sp

namespace Go.Proofs.YtjgmfgnfdaeelaaGreatDoor.Sp
set_option linter.unusedVariables false

theorem nxt_mid {q : Nat} {A : List Pc} {k : Nat} (hk : k ≤ A.length) : ∀ (n : Nat), k + n ≤ nxt q A k → nxt q A (k + n) = nxt q A k
  | 0, _ => rfl
  | n + 1, h => by
    have ih := nxt_mid (q := q) hk n (by omega)
    have hle := (nxt_le q A k hk).2
    have hlt : k + n < A.length := by omega
    have := nxt_at (k := q) (List.getElem?_eq_getElem hlt)
    rw [ih] at this
    split at this
    · omega
    · rw [this]; rfl
theorem nxt_mid' {q : Nat} {A : List Pc} {k j : Nat} (hk : k ≤ A.length) (hj : k ≤ j) (h : j ≤ nxt q A k) : nxt q A j = nxt q A k := by
  have := nxt_mid (q := q) hk (j - k) (by omega)
  rwa [show k + (j - k) = j by omega] at this
theorem nxt_kind {q : Nat} {A : List Pc} {k m : Nat} (hk : k ≤ A.length) (hm : m = nxt q A k) (h : m < A.length) : A[m].kind = q := by
  have h1 := nxt_mid' (q := q) hk (nxt_le q A k hk).1 (Nat.le_refl _)
  rw [← hm] at h1
  have h2 := nxt_at (k := q) (List.getElem?_eq_getElem h)
  split at h2
  · assumption
  · have := (nxt_le q A (m + 1) (by omega)).1
    omega
theorem fin_le (e l : Bool) (A : List Pc) (i : Nat) (h : i ≤ A.length) : i ≤ fin e l A i ∧ fin e l A i ≤ A.length := by
  have h2 := nxt_le 2 A i h
  have h4 := nxt_le 4 A i h
  unfold fin
  cases e <;> cases l <;> simp <;> omega
theorem fin_mid {e l : Bool} {A : List Pc} {k j : Nat} (hk : k ≤ A.length) (hj : k ≤ j) (h : j ≤ fin e l A k) : fin e l A j = fin e l A k := by
  unfold fin at *
  cases e <;> cases l
  · rfl
  · simp only [Bool.false_eq_true, if_false, if_true] at *; exact nxt_mid' hk hj h
  · simp only [Bool.false_eq_true, if_false, if_true] at *; exact nxt_mid' hk hj h
  · simp only [if_true] at *
    rw [nxt_mid' hk hj (by omega), nxt_mid' hk hj (by omega)]
theorem fin_at {e l : Bool} {A : List Pc} {i : Nat} (hi : i < A.length) : fin e l A i = if isEnd e l A[i] = true then i else fin e l A (i + 1) := by
  have h2 := nxt_at (k := 2) (List.getElem?_eq_getElem hi)
  have h4 := nxt_at (k := 4) (List.getElem?_eq_getElem hi)
  have l2 := nxt_le 2 A i (by omega)
  have l4 := nxt_le 4 A i (by omega)
  unfold fin isEnd
  cases e <;> cases l <;> simp only [Bool.false_eq_true, if_false, if_true, Bool.false_and, Bool.true_and, Bool.or_false, Bool.false_or, Bool.or_eq_true, decide_eq_true_eq]
  · exact h4
  · exact h2
  · by_cases k2 : A[i].kind = 2
    · rw [if_pos k2] at h2
      rw [if_pos (Or.inl k2)]; omega
    · by_cases k4 : A[i].kind = 4
      · rw [if_pos k4] at h4
        rw [if_pos (Or.inr k4)]; omega
      · rw [if_neg k2] at h2
        rw [if_neg k4] at h4
        rw [if_neg (by omega), h2, h4]

/-! What is gathered. -/
def flu (L : List Sp) (t : List UInt8) : List Sp := if t = [] then L else L ++ [.mk 1 t []]
def NL (L : List Sp) : Prop := ∀ x, L.getLast? = some x → x.kind ≠ 1
theorem flu_nil (L : List Sp) : flu L [] = L := if_pos rfl
theorem snoc_flu {L : List Sp} {t s : List UInt8} (hN : NL L) (hs : s ≠ []) : snocT (flu L t) s = flu L (t ++ s) := by
  unfold flu
  rw [if_neg (show ¬ t ++ s = [] from fun e => hs (List.append_eq_nil_iff.1 e).2)]
  by_cases ht : t = []
  · subst ht
    rw [if_pos rfl, snocT_other s hN]
    rfl
  · rw [if_neg ht, snocT_app, if_pos (kd1 _ _)]
    rfl
theorem tot_app' : ∀ A B : List Sp, totAll (A ++ B) = totAll A + totAll B
  | [], B => by simp [totAll]
  | x :: A, B => by rw [List.cons_append, totAll, totAll, tot_app' A B]; omega
theorem len_tot : ∀ L : List Sp, L.length ≤ totAll L
  | [] => Nat.zero_le _
  | .mk q s l :: L => by
    have := len_tot L
    rw [totAll, totOne_mk, List.length_cons]
    omega
theorem snoc_tot (L : List Sp) (s : List UInt8) : totAll L ≤ totAll (snocT L s) := by
  rcases List.eq_nil_or_concat L with rfl | ⟨M, x, rfl⟩
  · simp [totAll]
  · rw [List.concat_eq_append, snocT_app, tot_app', tot_app']
    obtain ⟨q, a, l⟩ := x
    split
    · simp only [Sp.kind, Sp.s, Sp.kids, totAll, totOne_mk, List.length_append]; omega
    · simp only [totAll, totOne_mk]; omega
theorem glue_tot (L : List Sp) : ∀ R : List Sp, totAll L ≤ totAll (glue L R)
  | [] => Nat.le_refl _
  | x :: r => by
    rw [glue, tot_app']
    split
    · have := snoc_tot L x.s; omega
    · rw [tot_app']; omega
theorem flu_tot (L : List Sp) (t : List UInt8) : t.length ≤ totAll (flu L t) ∧ L.length ≤ totAll (flu L t) := by
  have := len_tot L
  unfold flu
  split
  · rename_i h; subst h; exact ⟨Nat.zero_le _, this⟩
  · rw [tot_app']
    simp only [totAll, totOne_mk]
    omega
theorem raws_drop_len : ∀ (A : List Pc) (i : Nat), (raws (A.drop i)).length ≤ (raws A).length
  | A, 0 => Nat.le_refl _
  | [], i + 1 => Nat.le_refl _
  | p :: A, i + 1 => by
    have := raws_drop_len A i
    rw [List.drop_succ_cons, raws, List.length_append]
    omega

structure At (e l : Bool) (A : List Pc) (i k : Nat) (L : List Sp) (t : List UInt8) : Prop where
  nl : NL L
  rd : gl e l (flu L t) (raws (A.drop k)) = Rdr e l (raws (A.drop i))
  le : k ≤ fin e l A i
  fin : fin e l A k = fin e l A i
theorem At.begin (e l : Bool) (A : List Pc) (i : Nat) (h : i ≤ A.length) : At e l A i i [] [] :=
  ⟨(fun x h0 => by cases h0), gl_begin e l _, (fin_le e l A i h).1, rfl⟩
theorem At.bnd {e l : Bool} {A : List Pc} {i k : Nat} {L : List Sp} {t : List UInt8} (h : At e l A i k L t) : t.length ≤ 2 * (raws A).length ∧ L.length ≤ 2 * (raws A).length ∧ (flu L t).length ≤ 2 * (raws A).length := by
  have h1 := glue_tot (flu L t) (Rdr e l (raws (A.drop k))).1
  have h2 := congrArg (fun x => totAll x.1) h.rd
  have h3 := Rdr_tot e l (raws (A.drop i))
  have h4 := raws_drop_len A i
  have h5 := flu_tot L t
  have h6 := len_tot (flu L t)
  unfold gl at h2
  simp only at h2
  omega
theorem At.ended {e l : Bool} {A : List Pc} {i k : Nat} {L : List Sp} {t : List UInt8} (hG : Good A) (hi : i ≤ A.length) (h : At e l A i k L t) (hk : k = A.length ∨ ∃ hk : k < A.length, isEnd e l A[k] = true) :
    k = Sp.fin e l A i ∧ flu L t = (Rdr e l (raws (A.drop i))).1 := by
  have hr := h.rd
  have hf := h.fin
  have hle := (fin_le e l A i hi).2
  rcases hk with rfl | ⟨hk, he⟩
  · rw [List.drop_length, raws, gl_nil] at hr
    exact ⟨by have := h.le; omega, by rw [← hr]⟩
  · rw [fin_at hk, if_pos he] at hf
    have hGk := hG.drop k
    rw [List.drop_eq_getElem_cons hk] at hr hGk
    rw [step_end hGk he] at hr
    exact ⟨hf, by rw [← hr]⟩
theorem At.more {e l : Bool} {A : List Pc} {i k : Nat} {L : List Sp} {t : List UInt8} (h : At e l A i k L t) (hk : k < A.length) (hne : isEnd e l A[k] = false) : Sp.fin e l A (k + 1) = Sp.fin e l A i ∧ k + 1 ≤ Sp.fin e l A i := by
  have hf := h.fin
  rw [fin_at hk, if_neg (by rw [hne]; simp)] at hf
  exact ⟨hf, by have := (fin_le e l A (k + 1) (by omega)).1; omega⟩
theorem At.text {e l : Bool} {A : List Pc} {i k : Nat} {L : List Sp} {t s : List UInt8} (h : At e l A i k L t) (hk : k < A.length) (hne : isEnd e l A[k] = false) (hs : s ≠ [])
    (hg : ∀ M, gl e l M (raws (A.drop k)) = gl e l (snocT M s) (raws (A.drop (k + 1)))) : At e l A i (k + 1) L (t ++ s) := by
  obtain ⟨m1, m2⟩ := h.more hk hne
  refine ⟨h.nl, ?_, m2, m1⟩
  rw [← snoc_flu h.nl hs, ← hg, h.rd]
theorem At.span {e l : Bool} {A : List Pc} {i k m : Nat} {L : List Sp} {t : List UInt8} {x : Sp} (h : At e l A i k L t) (hx : x.kind ≠ 1) (hi : i ≤ A.length) (hm : k ≤ m) (hm2 : m ≤ Sp.fin e l A i)
    (hg : gl e l (flu L t) (raws (A.drop k)) = gl e l (flu L t ++ [x]) (raws (A.drop m))) : At e l A i m (flu L t ++ [x]) [] := by
  have hf := h.fin
  have hl := (fin_le e l A i hi).2
  refine ⟨fun y hy => ?_, by rw [flu_nil, ← hg, h.rd], hm2, ?_⟩
  · rw [List.getLast?_concat] at hy
    cases hy
    exact hx
  · rw [← hf]
    exact fin_mid (by have := h.le; omega) hm (by rw [hf]; exact hm2)
theorem At.code {e l : Bool} {A : List Pc} {i k : Nat} {L : List Sp} {t : List UInt8} (hG : Good A) (hi : i ≤ A.length) (h : At e l A i k L t) (hk : k < A.length) (h1 : A[k].kind = 1) : At e l A i (k + 1) (flu L t ++ [.mk 2 A[k].s []]) [] := by
  have hGk := hG.drop k
  rw [List.drop_eq_getElem_cons hk] at hGk
  refine h.span (x := .mk 2 A[k].s []) (show (2 : Int) ≠ 1 by decide) hi (by omega) (h.more hk ?_).2 ?_
  · unfold isEnd; simp [h1]
  · rw [List.drop_eq_getElem_cons hk]
    exact step_code hGk h1 _
theorem At.other {e l : Bool} {A : List Pc} {i k : Nat} {L : List Sp} {t : List UInt8} (hG : Good A) (h : At e l A i k L t) (hk : k < A.length) (hne : isEnd e l A[k] = false) (h1 : A[k].kind ≠ 1 ∧ A[k].kind ≠ 2 ∧ A[k].kind ≠ 3) : At e l A i (k + 1) L (t ++ A[k].s) := by
  have hGk := hG.drop k
  rw [List.drop_eq_getElem_cons hk] at hGk
  have hkd := good_kind hGk
  by_cases h4 : A[k].kind = 4
  · have hl : l = false := by
      cases l
      · rfl
      · exact absurd ⟨rfl, h4⟩ (isEnd_ne hne).2
    subst hl
    obtain ⟨hs, _⟩ := raws_shut hGk h4
    refine h.text hk hne (by rw [hs]; simp) (fun M => ?_)
    rw [List.drop_eq_getElem_cons hk, step_shut hGk h4, hs]
  · have h05 : A[k].kind = 0 ∨ A[k].kind = 5 := by omega
    refine h.text hk hne (good_text hGk h05).1 (fun M => ?_)
    rw [List.drop_eq_getElem_cons hk, step_text hGk h05]
theorem drop_ne {A : List Pc} {m : Nat} {q : Pc} {Q : List Pc} (h : A.drop m = q :: Q) : ∃ hm : m < A.length, A[m] = q ∧ A.drop (m + 1) = Q := by
  have hm : m < A.length := by
    rcases Nat.lt_or_ge m A.length with hm | hm
    · exact hm
    · rw [List.drop_eq_nil_of_le hm] at h; cases h
  rw [List.drop_eq_getElem_cons hm] at h
  cases h
  exact ⟨hm, rfl, rfl⟩
theorem At.star_yes {e l : Bool} {A : List Pc} {i k st sh : Nat} {L : List Sp} {t : List UInt8} (hG : Good A) (hi : i ≤ A.length) (h : At e l A i k L t) (hk : k < A.length) (hne : isEnd e l A[k] = false) (h2 : A[k].kind = 2)
    (hst : st = nxt 2 A (k + 1)) (hsh : sh = nxt 4 A (k + 1)) (hb : ¬ (l = true ∧ sh < st) ∧ st < A.length ∧ k + 1 < st) :
    Sp.fin true l A (k + 1) = st ∧ At e l A i (st + 1) (flu L t ++ [.mk 3 [] (Rdr true l (raws (A.drop (k + 1)))).1]) [] := by
  obtain ⟨b1, b2, b3⟩ := hb
  have he : e = false := by
    cases e
    · rfl
    · exact absurd ⟨rfl, h2⟩ (isEnd_ne hne).1
  subst he
  have hf : Sp.fin true l A (k + 1) = st := by
    unfold Sp.fin
    cases l
    · simp [hst]
    · simp only [if_true]
      rw [← hst, ← hsh]
      simp at b1
      omega
  have hGk := hG.drop k
  rw [List.drop_eq_getElem_cons hk] at hGk
  obtain ⟨s1, _⟩ := step_star (l := l) hGk h2 (ends_all _ true l _ (Nat.le_refl _) hGk.1 (Or.inl rfl)) (flu L t)
  have hkst := nxt_kind (q := 2) (by omega) hst b2
  have hdw := dw_fin true l A (k + 1) (Or.inl rfl)
  rw [hf] at hdw
  obtain ⟨m1, m2⟩ := h.more hk hne
  refine ⟨hf, h.span (x := .mk 3 [] (Rdr true l (raws (A.drop (k + 1)))).1) (show (3 : Int) ≠ 1 by decide) hi (by omega) ?_ ?_⟩
  · rw [← m1]
    unfold Sp.fin
    cases l
    · simp; omega
    · simp only [Bool.false_eq_true, if_false, if_true]
      rw [← hsh]
      simp at b1
      rcases Nat.lt_or_ge st sh with h | h
      · omega
      · have he : sh = st := by omega
        have h4 := nxt_kind (q := 4) (by omega) hsh (by omega)
        simp only [he] at h4
        omega
  · rw [List.drop_eq_getElem_cons hk]
    refine s1 A[st] (A.drop (st + 1)) (by rw [hdw, List.drop_eq_getElem_cons b2]) hkst (fun e => ?_)
    have := congrArg List.length (hdw.symm.trans e)
    simp only [List.length_drop] at this
    omega
theorem At.star_no {e l : Bool} {A : List Pc} {i k st sh : Nat} {L : List Sp} {t : List UInt8} (hG : Good A) (h : At e l A i k L t) (hk : k < A.length) (hne : isEnd e l A[k] = false) (h2 : A[k].kind = 2)
    (hst : st = nxt 2 A (k + 1)) (hsh : sh = nxt 4 A (k + 1)) (hb : ¬ (¬ (l = true ∧ sh < st) ∧ st < A.length ∧ k + 1 < st)) : At e l A i (k + 1) L (t ++ A[k].s) := by
  have he : e = false := by
    cases e
    · rfl
    · exact absurd ⟨rfl, h2⟩ (isEnd_ne hne).1
  subst he
  have hGk := hG.drop k
  rw [List.drop_eq_getElem_cons hk] at hGk
  have hs := (raws_star hGk h2).1
  refine h.text hk hne (by rw [hs]; simp) (fun M => ?_)
  rw [List.drop_eq_getElem_cons hk, hs]
  refine (step_star (l := l) hGk h2 (ends_all _ true l _ (Nat.le_refl _) hGk.1 (Or.inl rfl)) M).2 (fun q Q hq hq2 => ?_)
  have l2 := nxt_le 2 A (k + 1) (by omega)
  have hdw := dw_fin true l A (k + 1) (Or.inl rfl)
  rw [hdw] at hq ⊢
  obtain ⟨hm, e1, _⟩ := drop_ne hq
  by_cases hl : l = true ∧ sh < st
  · exfalso
    obtain ⟨rfl, hlt⟩ := hl
    have hf : Sp.fin true true A (k + 1) = sh := by unfold Sp.fin; simp only [if_true]; rw [← hst, ← hsh]; omega
    have := nxt_kind (q := 4) (by omega) (hf.trans hsh) hm
    rw [e1] at this
    omega
  · have hf : Sp.fin true l A (k + 1) = st := by
      unfold Sp.fin
      cases l
      · simp [hst]
      · simp only [if_true]
        rw [← hst, ← hsh]
        simp at hl
        omega
    rw [hf] at hm ⊢
    have : st = k + 1 := by
      rw [← hst] at l2
      rcases Nat.lt_or_ge (k + 1) st with h | h
      · exact absurd ⟨hl, hm, h⟩ hb
      · omega
    rw [this]
theorem At.open_yes {e l : Bool} {A : List Pc} {i k st sh : Nat} {L : List Sp} {t : List UInt8} (hG : Good A) (hi : i ≤ A.length) (h : At e l A i k L t) (hk : k < A.length) (hne : isEnd e l A[k] = false) (h3 : A[k].kind = 3)
    (hst : st = nxt 2 A (k + 1)) (hsh : sh = nxt 4 A (k + 1)) (hb : l = false ∧ ¬ (e = true ∧ st < sh) ∧ k + 1 < sh ∧ sh + 1 < A.length ∧ (A.getD (sh + 1) ⟨0, [], []⟩).kind = 5) :
    Sp.fin e true A (k + 1) = sh ∧ ∃ hs : sh + 1 < A.length, 2 ≤ A[sh + 1].s.length ∧ At e l A i (sh + 2) (flu L t ++ [.mk 4 A[sh + 1].s.tail.dropLast (Rdr e true (raws (A.drop (k + 1)))).1]) [] := by
  obtain ⟨rfl, b1, b2, b3, b4⟩ := hb
  rw [List.getD_eq_getElem?_getD, List.getElem?_eq_getElem b3] at b4
  have b4' : A[sh + 1].kind = 5 := b4
  have hf : Sp.fin e true A (k + 1) = sh := by
    unfold Sp.fin
    cases e
    · simp [hsh]
    · simp only [if_true]
      rw [← hst, ← hsh]
      simp at b1
      omega
  have hGk := hG.drop k
  rw [List.drop_eq_getElem_cons hk] at hGk
  obtain ⟨s1, _⟩ := step_open (e := e) hGk h3 (ends_all _ e true _ (Nat.le_refl _) hGk.1 (Or.inr rfl)) (flu L t)
  have hksh := nxt_kind (q := 4) (by omega) hsh (by omega)
  have hdw := dw_fin e true A (k + 1) (Or.inr rfl)
  rw [hf] at hdw
  obtain ⟨m1, m2⟩ := h.more hk hne
  have hGt := hG.drop (sh + 1)
  rw [List.drop_eq_getElem_cons b3] at hGt
  refine ⟨hf, b3, good_long hGt b4', h.span (x := .mk 4 A[sh + 1].s.tail.dropLast (Rdr e true (raws (A.drop (k + 1)))).1) (show (4 : Int) ≠ 1 by decide) hi (by omega) ?_ ?_⟩
  · rw [← m1]
    unfold Sp.fin
    cases e
    · simp; omega
    · simp only [Bool.false_eq_true, if_false, if_true]
      rw [← hst]
      simp at b1
      have l2 := nxt_le 2 A (k + 1) (by omega)
      rw [← hst] at l2
      rcases Nat.lt_or_ge (sh + 1) st with h | h
      · omega
      · have h2 := nxt_kind (q := 2) (by omega) hst (by omega)
        have he : st = sh ∨ st = sh + 1 := by omega
        rcases he with he | he
        · simp only [he] at h2; omega
        · simp only [he] at h2; omega
  · rw [List.drop_eq_getElem_cons hk]
    refine s1 A[sh] A[sh + 1] (A.drop (sh + 2)) (by rw [hdw, List.drop_eq_getElem_cons (show sh < A.length by omega), List.drop_eq_getElem_cons b3]) hksh b4' (fun e => ?_)
    have := congrArg List.length (hdw.symm.trans e)
    simp only [List.length_drop] at this
    omega
theorem At.open_no {e l : Bool} {A : List Pc} {i k st sh : Nat} {L : List Sp} {t : List UInt8} (hG : Good A) (h : At e l A i k L t) (hk : k < A.length) (hne : isEnd e l A[k] = false) (h3 : A[k].kind = 3)
    (hst : st = nxt 2 A (k + 1)) (hsh : sh = nxt 4 A (k + 1)) (hb : ¬ (l = false ∧ ¬ (e = true ∧ st < sh) ∧ k + 1 < sh ∧ sh + 1 < A.length ∧ (A.getD (sh + 1) ⟨0, [], []⟩).kind = 5)) : At e l A i (k + 1) L (t ++ A[k].s) := by
  have hGk := hG.drop k
  rw [List.drop_eq_getElem_cons hk] at hGk
  have hs := (raws_open hGk h3).1
  refine h.text hk hne (by rw [hs]; simp) (fun M => ?_)
  rw [List.drop_eq_getElem_cons hk, hs]
  cases l
  · refine (step_open (e := e) hGk h3 (ends_all _ e true _ (Nat.le_refl _) hGk.1 (Or.inr rfl)) M).2 (fun q x Q hq hq4 hx => ?_)
    have l4 := nxt_le 4 A (k + 1) (by omega)
    have hdw := dw_fin e true A (k + 1) (Or.inr rfl)
    rw [hdw] at hq ⊢
    obtain ⟨hm, e1, hq'⟩ := drop_ne hq
    obtain ⟨hm', e2, _⟩ := drop_ne hq'
    by_cases hl : e = true ∧ st < sh
    · exfalso
      obtain ⟨rfl, hlt⟩ := hl
      have hf : Sp.fin true true A (k + 1) = st := by unfold Sp.fin; simp only [if_true]; rw [← hst, ← hsh]; omega
      have := nxt_kind (q := 2) (by omega) (hf.trans hst) hm
      rw [e1] at this
      omega
    · have hf : Sp.fin e true A (k + 1) = sh := by
        unfold Sp.fin
        cases e
        · simp [hsh]
        · simp only [if_true]
          rw [← hst, ← hsh]
          simp at hl
          omega
      simp only [hf] at hm' e2 ⊢
      have : sh = k + 1 := by
        rw [← hsh] at l4
        rcases Nat.lt_or_ge (k + 1) sh with h | h
        · refine absurd ⟨rfl, hl, h, hm', ?_⟩ hb
          rw [List.getD_eq_getElem?_getD, List.getElem?_eq_getElem hm', Option.getD_some, e2]
          exact hx
        · omega
      rw [this]
  · exact step_open_in hGk h3 M
end Go.Proofs.YtjgmfgnfdaeelaaGreatDoor.Sp
