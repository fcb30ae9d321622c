/-
  Several texts in one:
  SPANS, in plain words: reading, writing, and that what is written is read as it was. No program.
  BLOCKS, the type alone. No program.
-/
import Derived.Test.YtldllbmbcnipoaaDoorTkPlain
namespace Go.Proofs.YtldllbmbcnipoaaDoor.Sp
open Go.Proofs.YtldllbmbcnipoaaDoor.Tk (cls)
set_option linter.unusedVariables false

/-- A span: its kind, its text, its kids. -/
inductive Sp where
  | mk (kind : Int) (s : List UInt8) (kids : List Sp)
def Sp.kind : Sp → Int | .mk k _ _ => k
def Sp.s : Sp → List UInt8 | .mk _ s _ => s
def Sp.kids : Sp → List Sp | .mk _ _ l => l

/-! Backticks. -/
def ticks : List UInt8 → Nat
  | [] => 0
  | b :: r => if b = 96 then ticks r + 1 else 0
theorem ticks_rep (n : Nat) (t : List UInt8) (h : t.head? ≠ some 96) : ticks (List.replicate n 96 ++ t) = n := by
  induction n with
  | zero =>
    cases t with
    | nil => rfl
    | cons b r => exact if_neg (fun e => h (by rw [e]; rfl))
  | succ n ih =>
    rw [List.replicate_succ, List.cons_append]
    show (if (96 : UInt8) = 96 then ticks (List.replicate n 96 ++ t) + 1 else 0) = _
    rw [if_pos rfl, ih]
theorem ticks_le : ∀ l : List UInt8, ticks l ≤ l.length
  | [] => Nat.le_refl _
  | b :: r => by
    have := ticks_le r
    unfold ticks
    split <;> simp <;> omega
/-- The code that n backticks close: what lies ahead, and what stands behind them. -/
def code (n : Nat) : Nat → List UInt8 → List UInt8 → Option (List UInt8 × List UInt8)
  | 0, _, _ => none
  | f + 1, acc, t => match t with
    | [] => none
    | b :: r =>
      if b = 10 then none
      else if ticks (b :: r) = n then some (acc, (b :: r).drop n)
      else code n f (acc ++ (b :: r).take (max (ticks (b :: r)) 1)) ((b :: r).drop (max (ticks (b :: r)) 1))
def onlySp (s : List UInt8) : Bool := s.all (· == 32)
def strip (s : List UInt8) : List UInt8 := if onlySp s = false ∧ s.head? = some 32 ∧ s.getLast? = some 32 then s.tail.dropLast else s
/-- Does a run of just n backticks stand there? -/
def hasRun (n : Nat) : Nat → List UInt8 → Bool
  | 0, _ => false
  | f + 1, t => match t with
    | [] => false
    | b :: r => if ticks (b :: r) = n then true else hasRun n f ((b :: r).drop (max (ticks (b :: r)) 1))
theorem drop_lt {b : UInt8} {r : List UInt8} : ((b :: r).drop (max (ticks (b :: r)) 1)).length < (b :: r).length := by
  rw [List.length_drop, List.length_cons]
  omega
/-- Ahead of what isn't a backtick runs are as they were. -/
theorem ticks_app : ∀ (p t : List UInt8), p.getLast? ≠ some 96 → p ≠ [] → ticks (p ++ t) = ticks p
  | [], t, _, h => absurd rfl h
  | b :: p, t, hl, _ => by
    by_cases e : b = 96
    · cases p with
      | nil => exact absurd (by rw [e]; rfl) hl
      | cons c p =>
        have := ticks_app (c :: p) t (by rwa [List.getLast?_cons_cons] at hl) (by simp)
        show (if b = 96 then ticks ((c :: p) ++ t) + 1 else 0) = (if b = 96 then ticks (c :: p) + 1 else 0)
        rw [this]
    · show (if b = 96 then ticks (p ++ t) + 1 else 0) = (if b = 96 then ticks p + 1 else 0)
      rw [if_neg e, if_neg e]
theorem ticks_lt : ∀ (p : List UInt8), p ≠ [] → p.getLast? ≠ some 96 → ticks p < p.length
  | [], h, _ => absurd rfl h
  | b :: p, _, hl => by
    by_cases e : b = 96
    · cases p with
      | nil => exact absurd (by rw [e]; rfl) hl
      | cons c p =>
        have := ticks_lt (c :: p) (by simp) (by rwa [List.getLast?_cons_cons] at hl)
        show (if b = 96 then ticks (c :: p) + 1 else 0) < _
        rw [if_pos e, List.length_cons]
        omega
    · show (if b = 96 then ticks p + 1 else 0) < _
      rw [if_neg e, List.length_cons]
      omega
theorem last_drop (p : List UInt8) (k : Nat) (h : k < p.length) : (p.drop k).getLast? = p.getLast? := by
  rw [List.getLast?_drop, if_neg (by omega)]
/-- A code is closed where it was laid. -/
theorem code_closes (n : Nat) (hn : 0 < n) (t : List UInt8) (ht : t.head? ≠ some 96) : ∀ (m : Nat) (p acc : List UInt8) (f g : Nat), p.length ≤ m → (10 : UInt8) ∉ p → (p ≠ [] → p.getLast? ≠ some 96) → hasRun n g p = false → p.length ≤ g → p.length < f →
    code n f acc (p ++ (List.replicate n 96 ++ t)) = some (acc ++ p, t)
  | m, [], acc, f, g, _, _, _, _, _, hf => by
    obtain ⟨f, rfl⟩ : ∃ f', f = f' + 1 := ⟨f - 1, by simp at hf; omega⟩
    obtain ⟨n', rfl⟩ : ∃ n', n = n' + 1 := ⟨n - 1, by omega⟩
    have hk := ticks_rep (n' + 1) t ht
    rw [List.nil_append, List.append_nil]
    rw [List.replicate_succ, List.cons_append] at hk ⊢
    show (if (96 : UInt8) = 10 then none else if ticks (96 :: (List.replicate n' 96 ++ t)) = n' + 1 then some (acc, _) else _) = _
    rw [if_neg (by decide), if_pos hk]
    congr 1
    rw [List.drop_succ_cons, List.drop_left' (List.length_replicate ..)]
  | 0, b :: p, acc, f, g, hm, _, _, _, _, _ => by simp at hm
  | m + 1, b :: p, acc, f, g, hm, h10, hl, hr, hg, hf => by
    have hl' := hl (by simp)
    obtain ⟨f, rfl⟩ : ∃ f', f = f' + 1 := ⟨f - 1, by omega⟩
    obtain ⟨g, rfl⟩ : ∃ g', g = g' + 1 := ⟨g - 1, by simp at hg; omega⟩
    have htk := ticks_app (b :: p) (List.replicate n 96 ++ t) hl' (by simp)
    have hlt := ticks_lt (b :: p) (by simp) hl'
    rw [List.cons_append] at htk
    have hr' : (if ticks (b :: p) = n then true else hasRun n g ((b :: p).drop (max (ticks (b :: p)) 1))) = false := hr
    by_cases en : ticks (b :: p) = n
    · rw [if_pos en] at hr'; cases hr'
    · rw [if_neg en] at hr'
      have hk : max (ticks (b :: p)) 1 ≤ (b :: p).length := by simp only [List.length_cons] at hlt ⊢; omega
      rw [List.cons_append]
      show (if b = 10 then none else if ticks (b :: (p ++ (List.replicate n 96 ++ t))) = n then some (acc, _) else code n f (acc ++ (b :: (p ++ (List.replicate n 96 ++ t))).take (max (ticks (b :: (p ++ (List.replicate n 96 ++ t)))) 1)) ((b :: (p ++ (List.replicate n 96 ++ t))).drop (max (ticks (b :: (p ++ (List.replicate n 96 ++ t)))) 1))) = _
      rw [if_neg (fun e => h10 (by rw [e]; exact List.mem_cons_self ..)), htk, if_neg en, ← List.cons_append, List.take_append_of_le_length hk, List.drop_append_of_le_length hk]
      generalize hkk : max (ticks (b :: p)) 1 = k at *
      have hld : ((b :: p).drop k).length = (b :: p).length - k := List.length_drop
      have ih := code_closes n hn t ht m ((b :: p).drop k) (acc ++ (b :: p).take k) f g (by simp only [List.length_cons] at hm hld ⊢; omega) (fun h => h10 (List.mem_of_mem_drop h))
        (fun hne => by
          have : k < (b :: p).length := by
            rcases Nat.lt_or_ge k (b :: p).length with h | h
            · exact h
            · exact absurd (List.drop_eq_nil_of_le h) hne
          rw [last_drop _ _ this]; exact hl') hr' (by simp only [List.length_cons] at hg hld ⊢; omega) (by simp only [List.length_cons] at hf hld ⊢; omega)
      rw [ih, List.append_assoc, List.take_append_drop]

/-! Reading. -/
def isText (x : Sp) : Bool := x.kind == 1
/-- Bytes of text ahead of spans. -/
def consT (s : List UInt8) : List Sp → List Sp
  | [] => [.mk 1 s []]
  | .mk k t kids :: l => if k = 1 then .mk 1 (s ++ t) kids :: l else .mk 1 s [] :: .mk k t kids :: l
def destB (c : UInt8) : Bool := (decide (97 ≤ c) && decide (c ≤ 122)) || (decide (65 ≤ c) && decide (c ≤ 90)) || (decide (48 ≤ c) && decide (c ≤ 57)) || [46, 47, 95, 45, 35, 63, 38, 58, 37].contains c
/-- Behind a [..]: where to, and what stands behind. -/
def dest : List UInt8 → Option (List UInt8 × List UInt8)
  | 40 :: t => match t.dropWhile destB with
    | 41 :: r => if t.takeWhile destB = [] then none else some (t.takeWhile destB, r)
    | _ => none
  | _ => none
def read : Nat → Bool → Bool → List UInt8 → List Sp × List UInt8
  | 0, _, _, t => ([], t)
  | f + 1, e, l, t => match t with
    | [] => ([], [])
    | c :: r =>
      if (c = 42 ∧ e = true) ∨ (c = 93 ∧ l = true) then ([], c :: r)
      else if c = 92 ∧ (r.head?.map cls) = some 4 then (consT (r.take 1) (read f e l r.tail).1, (read f e l r.tail).2)
      else if c = 96 then
        match code (ticks (c :: r)) (c :: r).length [] ((c :: r).drop (ticks (c :: r))) with
        | some (x, t') => (.mk 2 (strip x) [] :: (read f e l t').1, (read f e l t').2)
        | none => (consT (List.replicate (ticks (c :: r)) 96) (read f e l ((c :: r).drop (ticks (c :: r)))).1, (read f e l ((c :: r).drop (ticks (c :: r)))).2)
      else
        let plain := (consT [c] (read f e l r).1, (read f e l r).2)
        if c = 42 then
          match read f true l r with
          | (k :: kids, 42 :: t') => (.mk 3 [] (k :: kids) :: (read f e l t').1, (read f e l t').2)
          | _ => plain
        else if c = 91 ∧ l = false then
          match read f e true r with
          | (k :: kids, 93 :: t') => match dest t' with
            | some (s, t'') => (.mk 4 s (k :: kids) :: (read f e l t'').1, (read f e l t'').2)
            | none => plain
          | _ => plain
        else plain

/-! Writing. -/
def marked (c : UInt8) : Bool := [92, 42, 91, 93, 35, 62, 45, 96].contains c
def esc : List UInt8 → List UInt8
  | [] => []
  | c :: r => if marked c then 92 :: c :: esc r else c :: esc r
def fence (s : List UInt8) : Nat → Nat → Nat
  | 0, n => n
  | f + 1, n => if hasRun n s.length s then fence s f (n + 1) else n
def padded (s : List UInt8) : List UInt8 :=
  if s.head? = some 96 ∨ s.getLast? = some 96 ∨ (onlySp s = false ∧ s.head? = some 32 ∧ s.getLast? = some 32) then 32 :: (s ++ [32]) else s
def ticksOf (s : List UInt8) : Nat := fence s (s.length + 1) 1
mutual
def wr1 : Sp → List UInt8
  | .mk k s kids =>
    if k = 1 then esc s
    else if k = 2 then List.replicate (ticksOf s) 96 ++ (padded s ++ List.replicate (ticksOf s) 96)
    else if k = 3 then 42 :: (wrs kids ++ [42])
    else if k = 4 then 91 :: (wrs kids ++ (93 :: 40 :: (s ++ [41])))
    else []
def wrs : List Sp → List UInt8
  | [] => []
  | x :: l => wr1 x ++ wrs l
end

/-! What can be, in an Emph, in a Link. -/
mutual
def fit1 (e l : Bool) : Sp → Prop
  | .mk k s kids =>
    (k = 1 ∧ kids = [] ∧ s ≠ []) ∨
    (k = 2 ∧ kids = [] ∧ s ≠ [] ∧ (10 : UInt8) ∉ s) ∨
    (k = 3 ∧ s = [] ∧ kids ≠ [] ∧ e = false ∧ fits true l 0 kids) ∨
    (k = 4 ∧ s ≠ [] ∧ (∀ c ∈ s, destB c = true) ∧ kids ≠ [] ∧ l = false ∧ fits e true 0 kids)
def fits (e l : Bool) (prev : Int) : List Sp → Prop
  | [] => True
  | .mk k s kids :: r => fit1 e l (.mk k s kids) ∧ ¬ (k = prev ∧ k ≤ 2) ∧ fits e l k r
end

end Go.Proofs.YtldllbmbcnipoaaDoor.Sp

namespace Go.Proofs.YtldllbmbcnipoaaDoor.Bk
open Go.Proofs.YtldllbmbcnipoaaDoor.Sp (Sp)
set_option linter.unusedVariables false
abbrev Tx := List UInt8
/-- A block. -/
inductive Bk where
  | mk (kind level : Int) (info : Tx) (lines : List Tx) (spans : List Sp) (kids : List Bk)
namespace Bk
def kind : Bk → Int | .mk k _ _ _ _ _ => k
def level : Bk → Int | .mk _ k _ _ _ _ => k
def info : Bk → Tx | .mk _ _ i _ _ _ => i
def lines : Bk → List Tx | .mk _ _ _ l _ _ => l
def spans : Bk → List Sp | .mk _ _ _ _ s _ => s
def kids : Bk → List Bk | .mk _ _ _ _ _ k => k
end Bk
end Go.Proofs.YtldllbmbcnipoaaDoor.Bk
