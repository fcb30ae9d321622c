import Derived.Sort.Walk0
namespace Go.Proofs.YtihihgfcklkkhaaGreatDoor.Tk
set_option linter.unusedVariables false
def cls (b : UInt8) : Nat :=
  if b = 10 ∨ b = 13 then 3 else if b = 9 ∨ b = 32 then 2
  else if (33 ≤ b ∧ b ≤ 47) ∨ (58 ≤ b ∧ b ≤ 64) ∨ (91 ≤ b ∧ b ≤ 96) ∨ (123 ≤ b ∧ b ≤ 126) then 4 else 1
def joins (a b : UInt8) : Bool := cls a == cls b && decide (cls b < 3)
def tc : List UInt8 → List UInt8 → List (List UInt8)
  | cur, [] => if cur = [] then [] else [cur]
  | cur, b :: r =>
    match cur.getLast? with
    | none => tc [b] r
    | some a => if joins a b then tc (cur ++ [b]) r else cur :: tc [b] r
abbrev Tx := List UInt8
def dd : List Tx → List Tx
  | [] => []
  | x :: r => if x ∈ r then dd r else x :: dd r
end Go.Proofs.YtihihgfcklkkhaaGreatDoor.Tk
namespace Go.Proofs.YtihihgfcklkkhaaGreatDoor.Sp
open Go.Proofs.YtihihgfcklkkhaaGreatDoor.Tk (cls)
set_option linter.unusedVariables false
inductive Sp where
  | mk (kind : Int) (s : List UInt8) (kids : List Sp)
def Sp.kind : Sp → Int | .mk k _ _ => k
def Sp.s : Sp → List UInt8 | .mk _ s _ => s
def Sp.kids : Sp → List Sp | .mk _ _ l => l
def ticks : List UInt8 → Nat
  | [] => 0
  | b :: r => if b = 96 then ticks r + 1 else 0
theorem ticks_le : ∀ l : List UInt8, ticks l ≤ l.length
  | [] => Nat.le_refl _
  | b :: r => by
    have := ticks_le r
    unfold ticks
    split <;> simp <;> omega
def code (n : Nat) : Nat → List UInt8 → List UInt8 → Option (List UInt8 × List UInt8)
  | 0, _, _ => none
  | f + 1, acc, t => match t with
    | [] => none
    | b :: r =>
      if b = 10 then none
      else if ticks (b :: r) = n then some (acc, (b :: r).drop n)
      else code n f (acc ++ (b :: r).take (max (ticks (b :: r)) 1)) ((b :: r).drop (max (ticks (b :: r)) 1))
def onlySp (s : List UInt8) : Bool := s.all (· == 32)
def strip (s : List UInt8) : List UInt8 := if onlySp s = false ∧ s.head? = some 32 ∧ s.getLast? = some 32 then s.tail.dropLast else s
def hasRun (n : Nat) : Nat → List UInt8 → Bool
  | 0, _ => false
  | f + 1, t => match t with
    | [] => false
    | b :: r => if ticks (b :: r) = n then true else hasRun n f ((b :: r).drop (max (ticks (b :: r)) 1))
theorem drop_lt {b : UInt8} {r : List UInt8} : ((b :: r).drop (max (ticks (b :: r)) 1)).length < (b :: r).length := by
  rw [List.length_drop, List.length_cons]
  omega
def consT (s : List UInt8) : List Sp → List Sp
  | [] => [.mk 1 s []]
  | .mk k t kids :: l => if k = 1 then .mk 1 (s ++ t) kids :: l else .mk 1 s [] :: .mk k t kids :: l
def destB (c : UInt8) : Bool := (decide (97 ≤ c) && decide (c ≤ 122)) || (decide (65 ≤ c) && decide (c ≤ 90)) || (decide (48 ≤ c) && decide (c ≤ 57)) || [46, 47, 95, 45, 35, 63, 38, 58, 37].contains c
def dest : List UInt8 → Option (List UInt8 × List UInt8)
  | 40 :: t => match t.dropWhile destB with
    | 41 :: r => if t.takeWhile destB = [] then none else some (t.takeWhile destB, r)
    | _ => none
  | _ => none
def read : Nat → Bool → Bool → List UInt8 → List Sp × List UInt8
  | 0, _, _, t => ([], t)
  | f + 1, e, l, t => match t with
    | [] => ([], [])
    | c :: r =>
      if (c = 42 ∧ e = true) ∨ (c = 93 ∧ l = true) then ([], c :: r)
      else if c = 92 ∧ (r.head?.map cls) = some 4 then (consT (r.take 1) (read f e l r.tail).1, (read f e l r.tail).2)
      else if c = 96 then
        match code (ticks (c :: r)) (c :: r).length [] ((c :: r).drop (ticks (c :: r))) with
        | some (x, t') => (.mk 2 (strip x) [] :: (read f e l t').1, (read f e l t').2)
        | none => (consT (List.replicate (ticks (c :: r)) 96) (read f e l ((c :: r).drop (ticks (c :: r)))).1, (read f e l ((c :: r).drop (ticks (c :: r)))).2)
      else
        let plain := (consT [c] (read f e l r).1, (read f e l r).2)
        if c = 42 then
          match read f true l r with
          | (k :: kids, 42 :: t') => (.mk 3 [] (k :: kids) :: (read f e l t').1, (read f e l t').2)
          | _ => plain
        else if c = 91 ∧ l = false then
          match read f e true r with
          | (k :: kids, 93 :: t') => match dest t' with
            | some (s, t'') => (.mk 4 s (k :: kids) :: (read f e l t'').1, (read f e l t'').2)
            | none => plain
          | _ => plain
        else plain
def marked (c : UInt8) : Bool := [92, 42, 91, 93, 35, 62, 45, 96].contains c
def esc : List UInt8 → List UInt8
  | [] => []
  | c :: r => if marked c then 92 :: c :: esc r else c :: esc r
def fence (s : List UInt8) : Nat → Nat → Nat
  | 0, n => n
  | f + 1, n => if hasRun n s.length s then fence s f (n + 1) else n
def padded (s : List UInt8) : List UInt8 :=
  if s.head? = some 96 ∨ s.getLast? = some 96 ∨ (onlySp s = false ∧ s.head? = some 32 ∧ s.getLast? = some 32) then 32 :: (s ++ [32]) else s
def ticksOf (s : List UInt8) : Nat := fence s (s.length + 1) 1
mutual
def wr1 : Sp → List UInt8
  | .mk k s kids =>
    if k = 1 then esc s
    else if k = 2 then List.replicate (ticksOf s) 96 ++ (padded s ++ List.replicate (ticksOf s) 96)
    else if k = 3 then 42 :: (wrs kids ++ [42])
    else if k = 4 then 91 :: (wrs kids ++ (93 :: 40 :: (s ++ [41])))
    else []
def wrs : List Sp → List UInt8
  | [] => []
  | x :: l => wr1 x ++ wrs l
end
mutual
def fit1 (e l : Bool) : Sp → Prop
  | .mk k s kids =>
    (k = 1 ∧ kids = [] ∧ s ≠ []) ∨
    (k = 2 ∧ kids = [] ∧ s ≠ [] ∧ (10 : UInt8) ∉ s) ∨
    (k = 3 ∧ s = [] ∧ kids ≠ [] ∧ e = false ∧ fits true l 0 kids) ∨
    (k = 4 ∧ s ≠ [] ∧ (∀ c ∈ s, destB c = true) ∧ kids ≠ [] ∧ l = false ∧ fits e true 0 kids)
def fits (e l : Bool) (prev : Int) : List Sp → Prop
  | [] => True
  | .mk k s kids :: r => fit1 e l (.mk k s kids) ∧ ¬ (k = prev ∧ k ≤ 2) ∧ fits e l k r
end
end Go.Proofs.YtihihgfcklkkhaaGreatDoor.Sp
namespace Go.Proofs.YtihihgfcklkkhaaGreatDoor.Bk
open Go.Proofs.YtihihgfcklkkhaaGreatDoor.Sp (Sp)
set_option linter.unusedVariables false
abbrev Tx := List UInt8
inductive Bk where
  | mk (kind level : Int) (info : Tx) (lines : List Tx) (spans : List Sp) (kids : List Bk)
namespace Bk
def kind : Bk → Int | .mk k _ _ _ _ _ => k
def level : Bk → Int | .mk _ k _ _ _ _ => k
def info : Bk → Tx | .mk _ _ i _ _ _ => i
def lines : Bk → List Tx | .mk _ _ _ l _ _ => l
def spans : Bk → List Sp | .mk _ _ _ _ s _ => s
def kids : Bk → List Bk | .mk _ _ _ _ _ k => k
end Bk
end Go.Proofs.YtihihgfcklkkhaaGreatDoor.Bk
namespace Go.Proofs.YtihihgfcklkkhaaGreatDoor.Sp
open Go.Proofs.YtihihgfcklkkhaaGreatDoor.Tk (cls)
set_option linter.unusedVariables false
theorem consT_consT (a b : List UInt8) : ∀ X : List Sp, consT a (consT b X) = consT (a ++ b) X
  | [] => by simp [consT]
  | .mk k t kids :: l => by
    unfold consT
    by_cases h : k = 1
    · simp [h]
    · simp [h]
end Go.Proofs.YtihihgfcklkkhaaGreatDoor.Sp
namespace Go.Proofs.YtihihgfcklkkhaaGreatDoor.Sp
open Go.Proofs.YtihihgfcklkkhaaGreatDoor.Tk (cls)
set_option linter.unusedVariables false
theorem fits_of {e l : Bool} {p q : Int} : ∀ {L : List Sp}, fits e l p L → (∀ k s kids r, L = .mk k s kids :: r → ¬ (k = q ∧ k ≤ 2)) → fits e l q L
  | [], _, _ => by rw [fits]; trivial
  | .mk k s kids :: r, h, hq => by
    rw [fits] at h ⊢
    exact ⟨h.1, hq k s kids r rfl, h.2.2⟩
theorem fit_kind {e l : Bool} {k : Int} {s : List UInt8} {kids : List Sp} (h : fit1 e l (.mk k s kids)) : 1 ≤ k ∧ k ≤ 4 := by
  rw [fit1] at h
  rcases h with ⟨rfl, _⟩ | ⟨rfl, _⟩ | ⟨rfl, _⟩ | ⟨rfl, _⟩ <;> omega
theorem consT_fits {e l : Bool} {s : List UInt8} (hs : s ≠ []) : ∀ (L : List Sp), fits e l 0 L → ∀ p : Int, p ≠ 1 → fits e l p (consT s L)
  | [], _, p, hp => by
    rw [consT, fits, fit1, fits]
    exact ⟨Or.inl ⟨rfl, rfl, hs⟩, fun h => hp h.1.symm, trivial⟩
  | .mk k t kids :: r, h, p, hp => by
    show fits e l p (if k = 1 then .mk 1 (s ++ t) kids :: r else .mk 1 s [] :: .mk k t kids :: r)
    have h' := h
    rw [fits] at h
    by_cases hk : k = 1
    · subst hk
      rw [if_pos rfl, fits]
      have h1 := h.1
      rw [fit1] at h1
      rcases h1 with ⟨_, hkid, _⟩ | ⟨h2, _⟩ | ⟨h2, _⟩ | ⟨h2, _⟩
      · refine ⟨?_, fun h => hp h.1.symm, h.2.2⟩
        rw [fit1]
        exact Or.inl ⟨rfl, hkid, by simp [hs]⟩
      all_goals exact absurd h2 (by decide)
    · rw [if_neg hk, fits]
      refine ⟨?_, fun h => hp h.1.symm, fits_of h' (fun k' s' kids' r' he => by cases he; exact fun h => hk h.1)⟩
      rw [fit1]
      exact Or.inl ⟨rfl, rfl, hs⟩
theorem ticks_drop : ∀ l : List UInt8, (l.drop (ticks l)).head? ≠ some 96
  | [] => by simp
  | b :: r => by
    by_cases e : b = 96
    · rw [show ticks (b :: r) = ticks r + 1 from if_pos e, List.drop_succ_cons]
      exact ticks_drop r
    · rw [show ticks (b :: r) = 0 from if_neg e, List.drop_zero]
      simpa using e
theorem ticks_take : ∀ l : List UInt8, l.take (ticks l) = List.replicate (ticks l) 96
  | [] => rfl
  | b :: r => by
    by_cases e : b = 96
    · rw [show ticks (b :: r) = ticks r + 1 from if_pos e, List.take_succ_cons, List.replicate_succ, ticks_take r, e]
    · rw [show ticks (b :: r) = 0 from if_neg e]; rfl
theorem ticks_pos {b : UInt8} {r : List UInt8} (h : b = 96) : 0 < ticks (b :: r) := by rw [show ticks (b :: r) = ticks r + 1 from if_pos h]; omega
theorem code_some (n : Nat) (hn : 0 < n) : ∀ (f : Nat) (acc t x t' : List UInt8), code n f acc t = some (x, t') →
    t'.head? ≠ some 96 ∧ (acc ≠ [] ∨ t.head? ≠ some 96 → x ≠ []) ∧ ∃ y, x = acc ++ y ∧ t = y ++ (List.replicate n 96 ++ t') ∧ (10 : UInt8) ∉ y
  | 0, acc, t, x, t', h => by cases h
  | f + 1, acc, [], x, t', h => by cases h
  | f + 1, acc, b :: r, x, t', h => by
    rw [code] at h
    by_cases h10 : b = 10
    · rw [if_pos h10] at h; cases h
    · rw [if_neg h10] at h
      by_cases ht : ticks (b :: r) = n
      · rw [if_pos ht] at h
        simp only [Option.some.injEq, Prod.mk.injEq] at h
        obtain ⟨rfl, rfl⟩ := h
        refine ⟨by rw [← ht]; exact ticks_drop _, fun ha => ?_, [], by simp, ?_, by simp⟩
        · rcases ha with ha | ha
          · exact ha
          · exfalso
            have : ticks (b :: r) = 0 := if_neg (fun e => ha (by rw [e]; rfl))
            omega
        · rw [List.nil_append, ← ht, ← ticks_take, List.take_append_drop]
      · rw [if_neg ht] at h
        have hk : 1 ≤ max (ticks (b :: r)) 1 := by omega
        have hk2 : max (ticks (b :: r)) 1 ≤ (b :: r).length := by have := ticks_le (b :: r); simp only [List.length_cons] at this ⊢; omega
        obtain ⟨i1, i2, y, i3, i4, i5⟩ := code_some n hn f _ _ x t' h
        have hne : acc ++ (b :: r).take (max (ticks (b :: r)) 1) ≠ [] := by
          intro e
          have := congrArg List.length e
          rw [List.length_append, List.length_take] at this
          simp at this
        refine ⟨i1, fun _ => i2 (Or.inl hne), (b :: r).take (max (ticks (b :: r)) 1) ++ y, by rw [i3, List.append_assoc], by rw [List.append_assoc, ← i4, List.take_append_drop], ?_⟩
        intro hm
        rcases List.mem_append.1 hm with hm | hm
        · by_cases e : b = 96
          · rw [show max (ticks (b :: r)) 1 = ticks (b :: r) by have := ticks_pos (r := r) e; omega, ticks_take] at hm
            have := List.eq_of_mem_replicate hm
            exact absurd this (by decide)
          · rw [show ticks (b :: r) = 0 from if_neg e] at hm
            simp at hm
            exact h10 hm.symm
        · exact i5 hm
theorem strip_ne {x : List UInt8} (h : x ≠ []) : strip x ≠ [] := by
  unfold strip
  split
  · rename_i hh
    obtain ⟨h1, h2, h3⟩ := hh
    cases x with
    | nil => exact absurd rfl h
    | cons c x =>
      rw [List.head?_cons, Option.some.injEq] at h2
      subst h2
      rw [List.tail_cons]
      cases x with
      | nil => simp [onlySp] at h1
      | cons d x =>
        rw [List.getLast?_cons_cons] at h3
        intro e
        have hl := congrArg List.length e
        rw [List.length_dropLast] at hl
        simp at hl
        subst hl
        simp at h3
        subst h3
        simp [onlySp] at h1
  · exact h
theorem strip_mem {x : List UInt8} {c : UInt8} (h : c ∈ strip x) : c ∈ x := by
  unfold strip at h
  split at h
  · exact List.mem_of_mem_tail ((List.dropLast_sublist _).subset h)
  · exact h
theorem mem_tw : ∀ (l : List UInt8) (c : UInt8), c ∈ l.takeWhile destB → destB c = true
  | [], c, h => by cases h
  | b :: l, c, h => by
    cases hb : destB b with
    | false => rw [List.takeWhile_cons_of_neg (by simp [hb])] at h; cases h
    | true =>
      rw [List.takeWhile_cons_of_pos hb] at h
      rcases List.mem_cons.1 h with rfl | h
      · exact hb
      · exact mem_tw l c h
theorem dest_some {t s r : List UInt8} (h : dest t = some (s, r)) : s ≠ [] ∧ (∀ c ∈ s, destB c = true) ∧ t = 40 :: (s ++ 41 :: r) := by
  unfold dest at h
  split at h
  · rename_i t'
    split at h
    · rename_i r' hd
      split at h
      · cases h
      · rename_i hne
        simp only [Option.some.injEq, Prod.mk.injEq] at h
        obtain ⟨rfl, rfl⟩ := h
        refine ⟨hne, mem_tw _, ?_⟩
        rw [← hd, List.takeWhile_append_dropWhile]
    · cases h
  · cases h
theorem read_fits : ∀ (f : Nat) (e l : Bool) (t : List UInt8), fits e l 0 (read f e l t).1 ∧ (t.head? ≠ some 96 → fits e l 2 (read f e l t).1)
  | 0, e, l, t => ⟨by rw [read, fits]; trivial, fun _ => by rw [read, fits]; trivial⟩
  | f + 1, e, l, [] => ⟨by rw [read, fits]; trivial, fun _ => by rw [read, fits]; trivial⟩
  | f + 1, e, l, c :: r => by
    have ih := fun e l t => read_fits f e l t
    have plain : ∀ t, fits e l 0 (consT [c] (read f e l t).1) ∧ (c ≠ 96 → fits e l 2 (consT [c] (read f e l t).1)) := fun t => ⟨consT_fits (by simp) _ (ih e l t).1 0 (by decide), fun _ => consT_fits (by simp) _ (ih e l t).1 2 (by decide)⟩
    have hh : (c :: r).head? ≠ some 96 ↔ c ≠ 96 := by simp
    rw [hh, read]
    split
    · exact ⟨by rw [fits]; trivial, fun _ => by rw [fits]; trivial⟩
    · split
      · rename_i hn he
        have hr : r.take 1 ≠ [] := by
          cases r with
          | nil => simp at he
          | cons d r => simp
        exact ⟨consT_fits hr _ (ih e l _).1 0 (by decide), fun _ => consT_fits hr _ (ih e l _).1 2 (by decide)⟩
      · split
        · rename_i hc
          have hp := ticks_pos (r := r) hc
          cases hcode : code (ticks (c :: r)) (c :: r).length [] ((c :: r).drop (ticks (c :: r))) with
          | some p =>
            obtain ⟨x, t'⟩ := p
            obtain ⟨h1, h2, y, h3, h4, h5⟩ := code_some _ hp _ _ _ _ _ hcode
            have hx := h2 (Or.inr (ticks_drop _))
            rw [List.nil_append] at h3
            subst h3
            refine ⟨?_, fun h => absurd hc h⟩
            simp only
            rw [fits, fit1]
            exact ⟨Or.inr (Or.inl ⟨rfl, rfl, strip_ne hx, fun h => h5 (strip_mem h)⟩), fun h => absurd h.1 (by decide), (ih e l t').2 h1⟩
          | none =>
            refine ⟨?_, fun h => absurd hc h⟩
            exact consT_fits (by intro e; have := congrArg List.length e; simp at this; omega) _ (ih e l _).1 0 (by decide)
        · rename_i hc96
          split
          · rename_i hstop hesc hc
            subst hc
            have he : e = false := by
              cases e with
              | false => rfl
              | true => exact absurd (Or.inl ⟨rfl, rfl⟩) hstop
            split
            · rename_i k kids t' hread
              have hk := (ih true l r).1
              rw [hread] at hk
              have fit : fit1 e l (.mk 3 [] (k :: kids)) := by
                rw [fit1]
                exact Or.inr (Or.inr (Or.inl ⟨rfl, rfl, by simp, he, hk⟩))
              have tail := fits_of (q := 3) (ih e l t').1 (fun k' s' kids' r' h => fun h => by have := h.2; omega)
              exact ⟨by simp only; rw [fits]; exact ⟨fit, fun h => absurd h.1 (by decide), tail⟩, fun _ => by simp only; rw [fits]; exact ⟨fit, fun h => absurd h.1 (by decide), tail⟩⟩
            · exact ⟨(plain r).1, (plain r).2⟩
          · split
            · rename_i hc
              obtain ⟨hc, hl⟩ := hc
              split
              · rename_i k kids t' hread
                have hk := (ih e true r).1
                rw [hread] at hk
                cases hd : dest t' with
                | none => exact ⟨(plain r).1, (plain r).2⟩
                | some p =>
                  obtain ⟨s, t''⟩ := p
                  obtain ⟨d1, d2, _⟩ := dest_some hd
                  have fit : fit1 e l (.mk 4 s (k :: kids)) := by
                    rw [fit1]
                    exact Or.inr (Or.inr (Or.inr ⟨rfl, d1, d2, by simp, hl, hk⟩))
                  have tail := fits_of (q := 4) (ih e l t'').1 (fun k' s' kids' r' h => fun h => by have := h.2; omega)
                  exact ⟨by simp only; rw [fits]; exact ⟨fit, fun h => absurd h.1 (by decide), tail⟩, fun _ => by simp only; rw [fits]; exact ⟨fit, fun h => absurd h.1 (by decide), tail⟩⟩
              · exact ⟨(plain r).1, (plain r).2⟩
            · exact ⟨(plain r).1, (plain r).2⟩
end Go.Proofs.YtihihgfcklkkhaaGreatDoor.Sp
