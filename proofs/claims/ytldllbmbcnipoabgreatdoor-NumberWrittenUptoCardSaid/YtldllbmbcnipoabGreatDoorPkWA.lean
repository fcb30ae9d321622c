/-
  Several texts in one:
  
  
  
  
  
-/
import Derived.Sort.Walk0
import Derived.Test.YtldllbmbcnipoabGreatDoorProg
import Derived.Lib.Strings
import Derived.Lib.Hide
import Derived.WalkKit
import Derived.Laws.IdiomStrings
import Derived.Deep.QuietTactic
import Derived.Lib.MinMax
import Derived.Sort.EncStr
import Derived.Sort.OwnSorted
import Derived.WalkMore
import Derived.BigQuiet
import Derived.WalkSmall
import Derived.Laws.AppendOwnNone
import Derived.Deep.RegionHeld3
import Derived.StillTailTactics
import Derived.Laws.OwnMore
import Derived.Lib.AppendZeros
namespace Go.Proofs.YtldllbmbcnipoabGreatDoor.Tk
set_option linter.unusedVariables false
def cls (b : UInt8) : Nat :=
  if b = 10 ∨ b = 13 then 3 else if b = 9 ∨ b = 32 then 2
  else if (33 ≤ b ∧ b ≤ 47) ∨ (58 ≤ b ∧ b ≤ 64) ∨ (91 ≤ b ∧ b ≤ 96) ∨ (123 ≤ b ∧ b ≤ 126) then 4 else 1
def joins (a b : UInt8) : Bool := cls a == cls b && decide (cls b < 3)
def tc : List UInt8 → List UInt8 → List (List UInt8)
  | cur, [] => if cur = [] then [] else [cur]
  | cur, b :: r =>
    match cur.getLast? with
    | none => tc [b] r
    | some a => if joins a b then tc (cur ++ [b]) r else cur :: tc [b] r
def toks (l : List UInt8) : List (List UInt8) := tc [] l
theorem tc_end (cur : List UInt8) (h : cur ≠ []) : tc cur [] = [cur] := by rw [tc, if_neg h]
theorem tc_new (b : UInt8) (r : List UInt8) : tc [] (b :: r) = tc [b] r := rfl
theorem tc_on (c : List UInt8) (a b : UInt8) (r : List UInt8) (h : joins a b = true) : tc (c ++ [a]) (b :: r) = tc (c ++ [a] ++ [b]) r := by
  rw [tc, List.getLast?_concat]; simp only [h, if_true]
theorem tc_cut (c : List UInt8) (a b : UInt8) (r : List UInt8) (h : joins a b = false) : tc (c ++ [a]) (b :: r) = (c ++ [a]) :: tc [b] r := by
  rw [tc, List.getLast?_concat]; simp [h]
theorem snoc_of {c : List UInt8} (h : c ≠ []) : ∃ d a, c = d ++ [a] := ⟨c.dropLast, c.getLast h, (List.dropLast_concat_getLast h).symm⟩
theorem tc_len : ∀ (r cur : List UInt8), (tc cur r).length ≤ r.length + (if cur = [] then 0 else 1)
  | [], cur => by
    by_cases h : cur = []
    · subst h; simp [tc]
    · rw [tc_end _ h, if_neg h]; simp
  | b :: r, cur => by
    by_cases h : cur = []
    · subst h
      have := tc_len r [b]
      rw [if_neg (by simp)] at this
      rw [tc_new, if_pos rfl]
      simpa using this
    · rw [if_neg h]
      obtain ⟨c, a, rfl⟩ := snoc_of h
      cases hj : joins a b with
      | true =>
        have := tc_len r (c ++ [a] ++ [b])
        rw [if_neg (by simp)] at this
        rw [tc_on _ _ _ _ hj]
        simp only [List.length_cons]
        omega
      | false =>
        have := tc_len r [b]
        rw [if_neg (by simp)] at this
        rw [tc_cut _ _ _ _ hj]
        simp only [List.length_cons]
        omega
theorem toks_len (l : List UInt8) : (toks l).length ≤ l.length := by
  have := tc_len l []
  rwa [if_pos rfl] at this
abbrev Tx := List UInt8
def dd : List Tx → List Tx
  | [] => []
  | x :: r => if x ∈ r then dd r else x :: dd r
theorem mem_dd (y : Tx) : ∀ l, y ∈ dd l ↔ y ∈ l
  | [] => Iff.rfl
  | x :: r => by
    unfold dd
    split
    · rename_i h
      rw [mem_dd y r, List.mem_cons]
      exact ⟨Or.inr, fun h' => h'.elim (fun e => e ▸ h) id⟩
    · rw [List.mem_cons, List.mem_cons, mem_dd y r]
theorem dd_nodup : ∀ l, (dd l).Nodup
  | [] => List.nodup_nil
  | x :: r => by
    unfold dd
    split
    · exact dd_nodup r
    · rename_i h
      exact List.nodup_cons.2 ⟨fun h' => h ((mem_dd x r).1 h'), dd_nodup r⟩
theorem perm_dd {l : List Tx} (hn : l.Nodup) {m : List Tx} (h : ∀ y, y ∈ l ↔ y ∈ m) : l.Perm (dd m) :=
  (List.perm_ext_iff_of_nodup hn (dd_nodup m)).2 (fun y => (h y).trans (mem_dd y m).symm)
def rank (all : List Tx) (x : Tx) : Nat := ((dd all).filter (fun y => decide (y < x))).length
theorem rank_of {l : List Tx} (hn : l.Nodup) {m : List Tx} (h : ∀ y, y ∈ l ↔ y ∈ m) (x : Tx) : (l.filter (fun y => decide (y < x))).length = rank m x :=
  ((perm_dd hn h).filter _).length_eq
theorem rank_same {l m : List Tx} (h : ∀ y, y ∈ l ↔ y ∈ m) (x : Tx) : rank l x = rank m x :=
  rank_of (dd_nodup l) (fun y => (mem_dd y l).trans (h y)) x
theorem lt_tri (x y : Tx) : x < y ∨ x = y ∨ y < x := by
  by_cases h1 : x < y
  · exact Or.inl h1
  · by_cases h2 : y < x
    · exact Or.inr (Or.inr h2)
    · exact Or.inr (Or.inl (List.le_antisymm (List.not_lt.1 h2) (List.not_lt.1 h1)))
def Rises (l : List Tx) : Prop := l.Pairwise (· < ·)
theorem Rises.nodup {l : List Tx} (h : Rises l) : l.Nodup := by
  refine List.Pairwise.imp ?_ h
  intro a b hab e
  subst e
  exact List.lt_irrefl a hab
def at_ (l : List Tx) (s : Tx) : Nat := (l.takeWhile (fun y => decide (y < s))).length
theorem at_le (l : List Tx) (s : Tx) : at_ l s ≤ l.length := (List.takeWhile_sublist _).length_le
theorem at_cons_yes {x s : Tx} (h : x < s) (l : List Tx) : at_ (x :: l) s = at_ l s + 1 := by
  unfold at_; rw [List.takeWhile_cons_of_pos (by simpa using h)]; rfl
theorem at_cons_no {x s : Tx} (h : ¬ x < s) (l : List Tx) : at_ (x :: l) s = 0 := by
  unfold at_; rw [List.takeWhile_cons_of_neg (by simpa using h)]; rfl
theorem at_filter (s : Tx) : ∀ l : List Tx, Rises l → at_ l s = (l.filter (fun y => decide (y < s))).length
  | [], _ => rfl
  | x :: l, h => by
    obtain ⟨h1, h2⟩ := List.pairwise_cons.1 h
    by_cases hx : x < s
    · rw [at_cons_yes hx, at_filter s l h2, List.filter_cons_of_pos (by simpa using hx)]
      rfl
    · rw [at_cons_no hx, List.filter_cons_of_neg (by simpa using hx)]
      rw [List.filter_eq_nil_iff.2]
      · rfl
      · intro y hy
        have : ¬ y < s := fun h' => hx (List.lt_trans (h1 y hy) h')
        simpa using this
theorem at_rank {l all : List Tx} (h : Rises l) (hm : ∀ y, y ∈ l ↔ y ∈ all) (s : Tx) : at_ l s = rank all s := by
  rw [at_filter s l h, rank_of h.nodup hm]
def put (l : List Tx) (s : Tx) : List Tx := if l[at_ l s]? = some s then l else l.take (at_ l s) ++ s :: l.drop (at_ l s)
def puts (l : List Tx) (xs : List Tx) : List Tx := xs.foldl put l
def ids (a b : List Tx) : List Nat := a.map (at_ (puts (puts [] a) b))
theorem less_eq (x y : Tx) : Op.bytesLess x y = decide (x < y) := bytesLess_eq x y
end Go.Proofs.YtldllbmbcnipoabGreatDoor.Tk

namespace Go.Proofs.YtldllbmbcnipoabGreatDoor.Sp
open Go.Proofs.YtldllbmbcnipoabGreatDoor.Tk (cls)
set_option linter.unusedVariables false
inductive Sp where
  | mk (kind : Int) (s : List UInt8) (kids : List Sp)
def Sp.kind : Sp → Int | .mk k _ _ => k
def Sp.s : Sp → List UInt8 | .mk _ s _ => s
def Sp.kids : Sp → List Sp | .mk _ _ l => l
def ticks : List UInt8 → Nat
  | [] => 0
  | b :: r => if b = 96 then ticks r + 1 else 0
theorem ticks_rep (n : Nat) (t : List UInt8) (h : t.head? ≠ some 96) : ticks (List.replicate n 96 ++ t) = n := by
  induction n with
  | zero =>
    cases t with
    | nil => rfl
    | cons b r => exact if_neg (fun e => h (by rw [e]; rfl))
  | succ n ih =>
    rw [List.replicate_succ, List.cons_append]
    show (if (96 : UInt8) = 96 then ticks (List.replicate n 96 ++ t) + 1 else 0) = _
    rw [if_pos rfl, ih]
theorem ticks_le : ∀ l : List UInt8, ticks l ≤ l.length
  | [] => Nat.le_refl _
  | b :: r => by
    have := ticks_le r
    unfold ticks
    split <;> simp <;> omega
def code (n : Nat) : Nat → List UInt8 → List UInt8 → Option (List UInt8 × List UInt8)
  | 0, _, _ => none
  | f + 1, acc, t => match t with
    | [] => none
    | b :: r =>
      if b = 10 then none
      else if ticks (b :: r) = n then some (acc, (b :: r).drop n)
      else code n f (acc ++ (b :: r).take (max (ticks (b :: r)) 1)) ((b :: r).drop (max (ticks (b :: r)) 1))
def onlySp (s : List UInt8) : Bool := s.all (· == 32)
def strip (s : List UInt8) : List UInt8 := if onlySp s = false ∧ s.head? = some 32 ∧ s.getLast? = some 32 then s.tail.dropLast else s
def hasRun (n : Nat) : Nat → List UInt8 → Bool
  | 0, _ => false
  | f + 1, t => match t with
    | [] => false
    | b :: r => if ticks (b :: r) = n then true else hasRun n f ((b :: r).drop (max (ticks (b :: r)) 1))
theorem drop_lt {b : UInt8} {r : List UInt8} : ((b :: r).drop (max (ticks (b :: r)) 1)).length < (b :: r).length := by
  rw [List.length_drop, List.length_cons]
  omega
theorem ticks_app : ∀ (p t : List UInt8), p.getLast? ≠ some 96 → p ≠ [] → ticks (p ++ t) = ticks p
  | [], t, _, h => absurd rfl h
  | b :: p, t, hl, _ => by
    by_cases e : b = 96
    · cases p with
      | nil => exact absurd (by rw [e]; rfl) hl
      | cons c p =>
        have := ticks_app (c :: p) t (by rwa [List.getLast?_cons_cons] at hl) (by simp)
        show (if b = 96 then ticks ((c :: p) ++ t) + 1 else 0) = (if b = 96 then ticks (c :: p) + 1 else 0)
        rw [this]
    · show (if b = 96 then ticks (p ++ t) + 1 else 0) = (if b = 96 then ticks p + 1 else 0)
      rw [if_neg e, if_neg e]
theorem ticks_lt : ∀ (p : List UInt8), p ≠ [] → p.getLast? ≠ some 96 → ticks p < p.length
  | [], h, _ => absurd rfl h
  | b :: p, _, hl => by
    by_cases e : b = 96
    · cases p with
      | nil => exact absurd (by rw [e]; rfl) hl
      | cons c p =>
        have := ticks_lt (c :: p) (by simp) (by rwa [List.getLast?_cons_cons] at hl)
        show (if b = 96 then ticks (c :: p) + 1 else 0) < _
        rw [if_pos e, List.length_cons]
        omega
    · show (if b = 96 then ticks p + 1 else 0) < _
      rw [if_neg e, List.length_cons]
      omega
theorem last_drop (p : List UInt8) (k : Nat) (h : k < p.length) : (p.drop k).getLast? = p.getLast? := by
  rw [List.getLast?_drop, if_neg (by omega)]
theorem code_closes (n : Nat) (hn : 0 < n) (t : List UInt8) (ht : t.head? ≠ some 96) : ∀ (m : Nat) (p acc : List UInt8) (f g : Nat), p.length ≤ m → (10 : UInt8) ∉ p → (p ≠ [] → p.getLast? ≠ some 96) → hasRun n g p = false → p.length ≤ g → p.length < f →
    code n f acc (p ++ (List.replicate n 96 ++ t)) = some (acc ++ p, t)
  | m, [], acc, f, g, _, _, _, _, _, hf => by
    obtain ⟨f, rfl⟩ : ∃ f', f = f' + 1 := ⟨f - 1, by simp at hf; omega⟩
    obtain ⟨n', rfl⟩ : ∃ n', n = n' + 1 := ⟨n - 1, by omega⟩
    have hk := ticks_rep (n' + 1) t ht
    rw [List.nil_append, List.append_nil]
    rw [List.replicate_succ, List.cons_append] at hk ⊢
    show (if (96 : UInt8) = 10 then none else if ticks (96 :: (List.replicate n' 96 ++ t)) = n' + 1 then some (acc, _) else _) = _
    rw [if_neg (by decide), if_pos hk]
    congr 1
    rw [List.drop_succ_cons, List.drop_left' (List.length_replicate ..)]
  | 0, b :: p, acc, f, g, hm, _, _, _, _, _ => by simp at hm
  | m + 1, b :: p, acc, f, g, hm, h10, hl, hr, hg, hf => by
    have hl' := hl (by simp)
    obtain ⟨f, rfl⟩ : ∃ f', f = f' + 1 := ⟨f - 1, by omega⟩
    obtain ⟨g, rfl⟩ : ∃ g', g = g' + 1 := ⟨g - 1, by simp at hg; omega⟩
    have htk := ticks_app (b :: p) (List.replicate n 96 ++ t) hl' (by simp)
    have hlt := ticks_lt (b :: p) (by simp) hl'
    rw [List.cons_append] at htk
    have hr' : (if ticks (b :: p) = n then true else hasRun n g ((b :: p).drop (max (ticks (b :: p)) 1))) = false := hr
    by_cases en : ticks (b :: p) = n
    · rw [if_pos en] at hr'; cases hr'
    · rw [if_neg en] at hr'
      have hk : max (ticks (b :: p)) 1 ≤ (b :: p).length := by simp only [List.length_cons] at hlt ⊢; omega
      rw [List.cons_append]
      show (if b = 10 then none else if ticks (b :: (p ++ (List.replicate n 96 ++ t))) = n then some (acc, _) else code n f (acc ++ (b :: (p ++ (List.replicate n 96 ++ t))).take (max (ticks (b :: (p ++ (List.replicate n 96 ++ t)))) 1)) ((b :: (p ++ (List.replicate n 96 ++ t))).drop (max (ticks (b :: (p ++ (List.replicate n 96 ++ t)))) 1))) = _
      rw [if_neg (fun e => h10 (by rw [e]; exact List.mem_cons_self ..)), htk, if_neg en, ← List.cons_append, List.take_append_of_le_length hk, List.drop_append_of_le_length hk]
      generalize hkk : max (ticks (b :: p)) 1 = k at *
      have hld : ((b :: p).drop k).length = (b :: p).length - k := List.length_drop
      have ih := code_closes n hn t ht m ((b :: p).drop k) (acc ++ (b :: p).take k) f g (by simp only [List.length_cons] at hm hld ⊢; omega) (fun h => h10 (List.mem_of_mem_drop h))
        (fun hne => by
          have : k < (b :: p).length := by
            rcases Nat.lt_or_ge k (b :: p).length with h | h
            · exact h
            · exact absurd (List.drop_eq_nil_of_le h) hne
          rw [last_drop _ _ this]; exact hl') hr' (by simp only [List.length_cons] at hg hld ⊢; omega) (by simp only [List.length_cons] at hf hld ⊢; omega)
      rw [ih, List.append_assoc, List.take_append_drop]
def consT (s : List UInt8) : List Sp → List Sp
  | [] => [.mk 1 s []]
  | .mk k t kids :: l => if k = 1 then .mk 1 (s ++ t) kids :: l else .mk 1 s [] :: .mk k t kids :: l
def destB (c : UInt8) : Bool := (decide (97 ≤ c) && decide (c ≤ 122)) || (decide (65 ≤ c) && decide (c ≤ 90)) || (decide (48 ≤ c) && decide (c ≤ 57)) || [46, 47, 95, 45, 35, 63, 38, 58, 37].contains c
def dest : List UInt8 → Option (List UInt8 × List UInt8)
  | 40 :: t => match t.dropWhile destB with
    | 41 :: r => if t.takeWhile destB = [] then none else some (t.takeWhile destB, r)
    | _ => none
  | _ => none
def read : Nat → Bool → Bool → List UInt8 → List Sp × List UInt8
  | 0, _, _, t => ([], t)
  | f + 1, e, l, t => match t with
    | [] => ([], [])
    | c :: r =>
      if (c = 42 ∧ e = true) ∨ (c = 93 ∧ l = true) then ([], c :: r)
      else if c = 92 ∧ (r.head?.map cls) = some 4 then (consT (r.take 1) (read f e l r.tail).1, (read f e l r.tail).2)
      else if c = 96 then
        match code (ticks (c :: r)) (c :: r).length [] ((c :: r).drop (ticks (c :: r))) with
        | some (x, t') => (.mk 2 (strip x) [] :: (read f e l t').1, (read f e l t').2)
        | none => (consT (List.replicate (ticks (c :: r)) 96) (read f e l ((c :: r).drop (ticks (c :: r)))).1, (read f e l ((c :: r).drop (ticks (c :: r)))).2)
      else
        let plain := (consT [c] (read f e l r).1, (read f e l r).2)
        if c = 42 then
          match read f true l r with
          | (k :: kids, 42 :: t') => (.mk 3 [] (k :: kids) :: (read f e l t').1, (read f e l t').2)
          | _ => plain
        else if c = 91 ∧ l = false then
          match read f e true r with
          | (k :: kids, 93 :: t') => match dest t' with
            | some (s, t'') => (.mk 4 s (k :: kids) :: (read f e l t'').1, (read f e l t'').2)
            | none => plain
          | _ => plain
        else plain
def marked (c : UInt8) : Bool := [92, 42, 91, 93, 35, 62, 45, 96].contains c
def esc : List UInt8 → List UInt8
  | [] => []
  | c :: r => if marked c then 92 :: c :: esc r else c :: esc r
def fence (s : List UInt8) : Nat → Nat → Nat
  | 0, n => n
  | f + 1, n => if hasRun n s.length s then fence s f (n + 1) else n
def padded (s : List UInt8) : List UInt8 :=
  if s.head? = some 96 ∨ s.getLast? = some 96 ∨ (onlySp s = false ∧ s.head? = some 32 ∧ s.getLast? = some 32) then 32 :: (s ++ [32]) else s
def ticksOf (s : List UInt8) : Nat := fence s (s.length + 1) 1
mutual
def wr1 : Sp → List UInt8
  | .mk k s kids =>
    if k = 1 then esc s
    else if k = 2 then List.replicate (ticksOf s) 96 ++ (padded s ++ List.replicate (ticksOf s) 96)
    else if k = 3 then 42 :: (wrs kids ++ [42])
    else if k = 4 then 91 :: (wrs kids ++ (93 :: 40 :: (s ++ [41])))
    else []
def wrs : List Sp → List UInt8
  | [] => []
  | x :: l => wr1 x ++ wrs l
end
mutual
def fit1 (e l : Bool) : Sp → Prop
  | .mk k s kids =>
    (k = 1 ∧ kids = [] ∧ s ≠ []) ∨
    (k = 2 ∧ kids = [] ∧ s ≠ [] ∧ (10 : UInt8) ∉ s) ∨
    (k = 3 ∧ s = [] ∧ kids ≠ [] ∧ e = false ∧ fits true l 0 kids) ∨
    (k = 4 ∧ s ≠ [] ∧ (∀ c ∈ s, destB c = true) ∧ kids ≠ [] ∧ l = false ∧ fits e true 0 kids)
def fits (e l : Bool) (prev : Int) : List Sp → Prop
  | [] => True
  | .mk k s kids :: r => fit1 e l (.mk k s kids) ∧ ¬ (k = prev ∧ k ≤ 2) ∧ fits e l k r
end
end Go.Proofs.YtldllbmbcnipoabGreatDoor.Sp

namespace Go.Proofs.YtldllbmbcnipoabGreatDoor.Bk
open Go.Proofs.YtldllbmbcnipoabGreatDoor.Sp (Sp)
set_option linter.unusedVariables false
abbrev Tx := List UInt8
inductive Bk where
  | mk (kind level : Int) (info : Tx) (lines : List Tx) (spans : List Sp) (kids : List Bk)
namespace Bk
def kind : Bk → Int | .mk k _ _ _ _ _ => k
def level : Bk → Int | .mk _ k _ _ _ _ => k
def info : Bk → Tx | .mk _ _ i _ _ _ => i
def lines : Bk → List Tx | .mk _ _ _ l _ _ => l
def spans : Bk → List Sp | .mk _ _ _ _ s _ => s
def kids : Bk → List Bk | .mk _ _ _ _ _ k => k
end Bk
end Go.Proofs.YtldllbmbcnipoabGreatDoor.Bk

namespace Go.Proofs.YtldllbmbcnipoabGreatDoor.Tk
open Go.RowKit
set_option linter.unusedVariables false
def S (l : List UInt8) : ByteArray := ⟨l.toArray⟩
theorem S_size (l : List UInt8) : (S l).size = l.length := by simp [S, ByteArray.size]
theorem S_app (l m : List UInt8) : S l ++ S m = S (l ++ m) := by
  apply ByteArray.ext
  rw [ByteArray.data_append]
  simp [S]
theorem S_list (l : List UInt8) : (S l).data.toList = l := by simp [S]
theorem S_toList (l : List UInt8) : (S l).toList = l := by rw [Lib.toList_data, S_list]
theorem S_of (s : ByteArray) : S s.data.toList = s := by
  apply ByteArray.ext
  simp [S]
theorem drop_cons (l : List UInt8) (k : Nat) (h : k < l.length) : l.drop k = l[k] :: l.drop (k + 1) := List.drop_eq_getElem_cons h
theorem ret_int {x y : Int} (h : x = y) : Ending.returned (.int .i64 x) = Ending.returned (.int .i64 y) := by rw [h]
theorem eq8 {a b : UInt8} (h : a = b) : ((a.toNat : Int) == (b.toNat : Int)) = true := by simp [h]
theorem ne8 {a b : UInt8} (h : a ≠ b) : ((a.toNat : Int) == (b.toNat : Int)) = false := by
  rw [beq_eq_false_iff_ne]
  intro e
  exact h (UInt8.toNat_inj.1 (by omega))
theorem len_data (s : ByteArray) : s.data.toList.length = s.size := by simp
theorem at_data (s : ByteArray) (k : Nat) (h : k < s.size) : s.data.toList.drop k = s[k] :: s.data.toList.drop (k + 1) := by
  rw [drop_cons _ k (by simpa using h)]; rfl
theorem drop_all (s : ByteArray) (k : Nat) (h : ¬ k < s.size) : s.data.toList.drop k = [] := List.drop_eq_nil_of_le (by simp; omega)
theorem infoS : (Tryz.prog.info? 9).map (fun i => (i.zero, i.size, i.bytes)) = some (some (.string ⟨#[]⟩), 1, 16) := by kernel_rfl
theorem own_push {B : Nat} {w wr w1 : World} {v v' : Value} {o : List (List UInt8)} {y : ByteArray} {ob : Obj} (hown : wr.ownsRow B 9 1 v o.length (o.map encStr)) (hb : Below B w wr) (hB : B ≤ wr.heap.size)
    (hown' : w1.ownsRow B 9 1 v' (o.length + 1) (o.map encStr ++ [.string y])) (hgrow : (wr.alloc ob).grownBy w1 v.ownBlock) :
    w1.ownsRow B 9 1 v' (o ++ [y.data.toList]).length ((o ++ [y.data.toList]).map encStr) ∧ Below B w w1 := by
  refine ⟨?_, (hb.alloc hB ob).grown hgrow (by simp; omega) (fun j hj => (hown.lt j hj).1)⟩
  rw [List.length_append, List.map_append]
  have : List.map encStr [y.data.toList] = [.string y] := by
    show [Value.string (S y.data.toList)] = _
    rw [S_of]
  rw [this]
  exact hown'
def cur (s : ByteArray) (f k : Nat) : List UInt8 := (s.extract f k).data.toList
theorem cur_eq (s : ByteArray) (f k : Nat) : cur s f k = (s.data.toList.drop f).take (k - f) := by
  unfold cur
  rw [ByteArray.data_extract]
  simp only [Array.toList_extract, List.extract_eq_take_drop]
theorem cur_same (s : ByteArray) (k : Nat) : cur s k k = [] := by rw [cur_eq]; simp
theorem cur_snoc (s : ByteArray) (f k : Nat) (hf : f ≤ k) (hk : k < s.size) : cur s f (k + 1) = cur s f k ++ [s[k]] := by
  rw [cur_eq, cur_eq, show k + 1 - f = (k - f) + 1 by omega, List.take_add_one, List.getElem?_drop, show f + (k - f) = k by omega, List.getElem?_eq_getElem (by rw [len_data]; exact hk)]
  rfl
theorem news1 {wr : World} {x : ByteArray} {t : TypeId} : ∀ (j : Nat) (u : Value), [Value.string x][j]? = some u → (wr.alloc (.cells #[.string x] t)).cell? (Addr.add ⟨wr.heap.size, 0, none⟩ j) = some u := by
  intro j u hj
  match j, hj with
  | 0, hj => simp at hj; subst hj; simp [Addr.add]
theorem news2 {x : ByteArray} : ∀ u ∈ [Value.string x], u.oneCell' = true := by
  intro u hu; simp at hu; subst hu; rfl
def Rd (w : World) (v : Value) (xs : List (List UInt8)) : Prop :=
  ∃ ao cap, v = .slice ao xs.length cap ∧ xs.length ≤ cap ∧ (xs = [] ∨ ∃ b o, ao = some ⟨b, o, none⟩ ∧ b < w.heap.size ∧ ∀ j x, xs[j]? = some x → w.cell? ⟨b, o + j, none⟩ = some (.string (S x)))
theorem Rd.below {w w' : World} {v : Value} {xs : List (List UInt8)} (h : Rd w v xs) (hb : Below w.heap.size w w') : Rd w' v xs := by
  obtain ⟨ao, cap, hv, hc, hx⟩ := h
  refine ⟨ao, cap, hv, hc, ?_⟩
  rcases hx with hx | ⟨b, o, hao, hlt, hcell⟩
  · exact Or.inl hx
  · exact Or.inr ⟨b, o, hao, Nat.lt_of_lt_of_le hlt hb.size, fun j x hj => (hb.cell (by exact hlt)).trans (hcell j x hj)⟩
theorem Rd.of_own {w : World} {B : Nat} {e : TypeId} {v : Value} {xs : List (List UInt8)} (h : w.ownsRow B e 1 v xs.length (xs.map encStr)) : Rd w v xs := by
  rcases h.2 with ⟨hv, hn⟩ | ⟨g, cap, cur, hv, hB, hg, hn, hm, hsz, ht⟩
  · exact ⟨none, 0, by rw [hv, hn], by omega, Or.inl (List.eq_nil_of_length_eq_zero hn)⟩
  · refine ⟨_, cap, hv, hn, Or.inr ⟨g, 0, rfl, (Array.getElem?_eq_some_iff.1 hg).1, fun j x hj => ?_⟩⟩
    have hjl := (List.getElem?_eq_some_iff.1 hj).1
    subst hv
    rw [Nat.zero_add, h.cellAt j (by omega), List.getElem?_map, hj]
    rfl
theorem Rd.len {w : World} {v : Value} {xs : List (List UInt8)} (h : Rd w v xs) : ∃ ao cap, v = .slice ao xs.length cap := by
  obtain ⟨ao, cap, hv, _⟩ := h; exact ⟨ao, cap, hv⟩
theorem get_lt {xs : List (List UInt8)} {k : Nat} (h : k < xs.length) : xs[k]? = some xs[k] := List.getElem?_eq_getElem h
theorem take_next {xs ys : List (List UInt8)} {k : Nat} (h1 : k < xs.length) (h2 : k < ys.length) (h : xs.take k = ys.take k) (e : xs[k] = ys[k]) : xs.take (k + 1) = ys.take (k + 1) := by
  rw [List.take_add_one, List.take_add_one, get_lt h1, get_lt h2, h, e]
theorem take_off {xs ys : List (List UInt8)} {k : Nat} (h1 : k < xs.length) (h2 : k < ys.length) (e : xs[k] ≠ ys[k]) : xs ≠ ys := by
  intro h; subst h; exact e rfl
end Go.Proofs.YtldllbmbcnipoabGreatDoor.Tk

namespace Go.Proofs.YtldllbmbcnipoabGreatDoor.Cm
open Go.RowKit
set_option linter.unusedVariables false
theorem ret_int {x y : Int} (h : x = y) : Ending.returned (.int .i64 x) = Ending.returned (.int .i64 y) := by rw [h]
theorem geti {xs : List Int} {k : Nat} (h : k < xs.length) : xs[k]? = some xs[k] := List.getElem?_eq_getElem h
def Rz (w : World) (v : Value) (xs : List Int) : Prop :=
  ∃ ao cap, v = .slice ao xs.length cap ∧ xs.length ≤ cap ∧ (xs = [] ∨ ∃ b o, ao = some ⟨b, o, none⟩ ∧ b < w.heap.size ∧ ∀ j x, xs[j]? = some x → w.cell? ⟨b, o + j, none⟩ = some (.int .i64 x))
theorem Rz.below {w w' : World} {v : Value} {xs : List Int} (h : Rz w v xs) (hb : Below w.heap.size w w') : Rz w' v xs := by
  obtain ⟨ao, cap, hv, hc, hx⟩ := h
  refine ⟨ao, cap, hv, hc, ?_⟩
  rcases hx with hx | ⟨b, o, hao, hlt, hcell⟩
  · exact Or.inl hx
  · exact Or.inr ⟨b, o, hao, Nat.lt_of_lt_of_le hlt hb.size, fun j x hj => (hb.cell (by exact hlt)).trans (hcell j x hj)⟩
theorem Rz.len {w : World} {v : Value} {xs : List Int} (h : Rz w v xs) : ∃ ao cap, v = .slice ao xs.length cap := by
  obtain ⟨ao, cap, hv, _⟩ := h; exact ⟨ao, cap, hv⟩
theorem Rz.at {w : World} {ao : Option Addr} {n c : Nat} {xs : List Int} (h : Rz w (.slice ao n c) xs) : ∀ i (hi : i < xs.length), ∃ b o, ao = some ⟨b, o, none⟩ ∧ b < w.heap.size ∧ w.cell? ⟨b, o + i, none⟩ = some (.int .i64 xs[i]) := by
  intro i hi
  obtain ⟨ao', c', hv, _, hx⟩ := h
  simp only [Value.slice.injEq] at hv
  obtain ⟨rfl, _, _⟩ := hv
  rcases hx with hx | ⟨b, o, rfl, hlt, hcell⟩
  · rw [hx] at hi; exact absurd hi (Nat.not_lt_zero _)
  · exact ⟨b, o, rfl, hlt, hcell i _ (geti hi)⟩
theorem own_len {w : World} {B e z n : Nat} {v : Value} {xs : List Value} (h : w.ownsRow B e z v n xs) : ∃ ao cap, v = .slice ao n cap := by
  rcases h.2 with ⟨rfl, rfl⟩ | ⟨g, cap, _, rfl, _⟩
  · exact ⟨_, _, rfl⟩
  · exact ⟨_, _, rfl⟩
theorem calls_at {P : Program} {f : FuncId} {args args' : Array Value} {w : World} {Q Q' : Ending → World → Prop} (h : args' = args) (c : Calls P f args w Q) (k : ∀ e w', Q e w' → Q' e w') : Calls P f args' w Q' := by
  subst h; exact c.mono k
end Go.Proofs.YtldllbmbcnipoabGreatDoor.Cm
