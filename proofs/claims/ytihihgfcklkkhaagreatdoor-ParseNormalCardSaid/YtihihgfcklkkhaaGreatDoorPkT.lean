import Derived.Test.YtihihgfcklkkhaaGreatDoorPkL
import Derived.Test.YtihihgfcklkkhaaGreatDoorPkA
namespace Go.Proofs.YtihihgfcklkkhaaGreatDoor.Bk
open Go.Proofs.YtihihgfcklkkhaaGreatDoor.Ln (run mx trim run_yes run_no run_le)
open Go.Proofs.YtihihgfcklkkhaaGreatDoor.Sp (Sp wrs destB)
set_option linter.unusedVariables false
structure Env where
  chk : Tx → Bool
variable (E : Env)
def gapB (c : UInt8) : Bool := c == 32 || c == 9
def tight (s : Tx) : Bool := s.all (fun _ => true) && (match s.head? with | none => true | some c => !gapB c) && (match s.getLast? with | none => true | some c => !gapB c)
def label (s : Tx) : Bool := E.chk s && decide (s ≠ []) && tight s && !s.contains 10 && !s.contains 13 && !s.contains 91 && !s.contains 93 && !s.contains 92
def isDest (s : Tx) : Bool := decide (s ≠ []) && s.all destB
def df : Tx → Tx → Option (Tx × Tx)
  | _, [] => none
  | acc, c :: t => match c, t with
    | 93, 58 :: 32 :: d => if label E acc && isDest d then some (acc, d) else df (acc ++ [93]) (58 :: 32 :: d)
    | c, t => df (acc ++ [c]) t
def define (s : Tx) : Option (Tx × Tx) := match s with
  | 91 :: t => df E [] t
  | _ => none
def kindOf (s : Tx) : Nat :=
  if trim s = [] then 1
  else if (1 ≤ run 35 s ∧ run 35 s ≤ 6) ∧ (s.length = run 35 s ∨ s[run 35 s]? = some 32) then 2
  else if 3 ≤ run 45 s ∧ run 45 s = s.length then 3
  else if 3 ≤ run 96 s ∧ mx 96 (s.drop (run 96 s)) = 0 then 4
  else if s.head? = some 62 then 5
  else if s = [45] ∨ s.take 2 = [45, 32] then 6
  else if (define E s).isSome = true then 7 else 8
def closes (s : Tx) (n : Nat) : Bool := decide (0 < s.length) && decide (n ≤ s.length) && decide (run 96 s = s.length)
def unquote (s : Tx) : Tx := if s[1]? = some 32 then s.drop 2 else s.drop 1
def unitem (s : Tx) : Tx := s.drop 2
def inner (s : Tx) : Option Tx := if s.take 2 = [32, 32] then some (s.drop 2) else if trim s = [] then some [] else none
def parse (t : Tx) : List Sp := (Sp.read t.length false false t).1
def joinLF : List Tx → Tx
  | [] => []
  | [x] => x
  | x :: y :: r => x ++ 10 :: joinLF (y :: r)
def fenceL (n : Nat) : List Tx → List Tx × List Tx
  | [] => ([], [])
  | s :: l => if closes s n then ([], l) else (s :: (fenceL n l).1, (fenceL n l).2)
def spanK (k : Nat) : List Tx → List Tx × List Tx
  | [] => ([], [])
  | s :: l => if kindOf E s = k then (s :: (spanK k l).1, (spanK k l).2) else ([], s :: l)
def itemL : List Tx → List Tx × List Tx
  | [] => ([], [])
  | s :: l => match inner s with
    | none => ([], s :: l)
    | some x => if (itemL l).1 = [] ∧ kindOf E s = 1 then ([], s :: l) else (x :: (itemL l).1, (itemL l).2)
def dropBlank : List Tx → List Tx
  | [] => []
  | s :: l => if kindOf E s = 1 then dropBlank l else s :: l
def listL : Nat → List Tx → List (List Tx) × List Tx
  | 0, l => ([], l)
  | f + 1, [] => ([], [])
  | f + 1, s :: l =>
    let it := itemL E l
    match dropBlank E it.2 with
    | [] => ([unitem s :: it.1], it.2)
    | t :: r => if kindOf E t = 6 then ((unitem s :: it.1) :: (listL f (t :: r)).1, (listL f (t :: r)).2) else ([unitem s :: it.1], it.2)
def items (rec : List Tx → Option (List Bk)) : List (List Tx) → Option (List Bk)
  | [] => some []
  | x :: r => match rec x with
    | none => none
    | some k => (items rec r).map (.mk 7 0 [] [] [] k :: ·)
def blockB (rec : Nat → List Tx → Option (List Bk)) (deep : Nat) (s : Tx) (l : List Tx) : Option (Bk × List Tx) :=
  if kindOf E s = 2 then some (.mk 2 (run 35 s) [] [] (parse (trim (s.drop (run 35 s)))) [], l)
  else if kindOf E s = 3 then some (.mk 3 0 [] [] [] [], l)
  else if kindOf E s = 4 then some (.mk 4 0 (trim (s.drop (run 96 s))) (fenceL (run 96 s) l).1 [] [], (fenceL (run 96 s) l).2)
  else if kindOf E s = 5 then (rec (deep + 1) ((spanK E 5 (s :: l)).1.map unquote)).map fun k => (.mk 5 0 [] [] [] k, (spanK E 5 (s :: l)).2)
  else if kindOf E s = 6 then (items (rec (deep + 2)) (listL E (l.length + 1) (s :: l)).1).map fun k => (.mk 6 0 [] [] [] k, (listL E (l.length + 1) (s :: l)).2)
  else if kindOf E s = 7 then (define E s).map fun p => (.mk 8 0 p.1 [p.2] [] [], l)
  else some (.mk 1 0 [] [] (parse (joinLF ((spanK E 8 (s :: l)).1.map trim))) [], (spanK E 8 (s :: l)).2)
def allB : Nat → Nat → List Tx → Option (List Bk)
  | 0, _, _ => none
  | f + 1, deep, l => if 16 < deep then none else match l with
    | [] => some []
    | s :: l => if kindOf E s = 1 then allB f deep l
      else match blockB E (allB f) deep s l with
        | none => none
        | some (b, r) => (allB f deep r).map (b :: ·)
def ticksL (l : List Tx) : Nat := l.foldr (fun s n => max (mx 96 s + 1) n) 3
def preQ (s : Tx) : Tx := if s = [] then [62] else 62 :: 32 :: s
def preI (s : Tx) : Tx := if s = [] then [] else 32 :: 32 :: s
def itemW (l : List Tx) : List Tx := match l with
  | [] => [[45]]
  | s :: r => (45 :: 32 :: s) :: r.map preI
mutual
def one : Bk → List Tx
  | .mk k lv info lines spans kids =>
    if k = 1 then (Ln.split (wrs spans)).1
    else if k = 2 then [List.replicate lv.toNat 35 ++ (if spans = [] then [] else 32 :: wrs spans)]
    else if k = 3 then [[45, 45, 45]]
    else if k = 4 then (List.replicate (ticksL lines) 96 ++ info) :: (lines ++ [List.replicate (ticksL lines) 96])
    else if k = 5 then (if wl kids = [] then [[62]] else (wl kids).map preQ)
    else if k = 6 then its kids
    else if k = 7 then itemW (wl kids)
    else [91 :: (info ++ (93 :: 58 :: 32 :: (lines.headD [])))]
def wl : List Bk → List Tx
  | [] => []
  | b :: r => match r with
    | [] => one b
    | _ :: _ => one b ++ [] :: wl r
def its : List Bk → List Tx
  | [] => []
  | b :: r => one b ++ its r
end
end Go.Proofs.YtihihgfcklkkhaaGreatDoor.Bk
namespace Go.Proofs.YtihihgfcklkkhaaGreatDoor.Bk
open Go.Proofs.YtihihgfcklkkhaaGreatDoor.Ln (run mx trim run_yes run_no run_le dr_cons dl_no mx_none)
open Go.Proofs.YtihihgfcklkkhaaGreatDoor.Sp (Sp wrs destB)
set_option linter.unusedVariables false
variable (E : Env)
theorem trim_ne {c : UInt8} (h : Ln.gapB c = false) (t : Tx) : trim (c :: t) ≠ [] := by
  unfold trim
  rw [dr_cons]
  split
  · rw [h]; simp [dl_no h]
  · rw [dl_no h]; simp
theorem take2_ne {c : UInt8} (h : c ≠ 32) (t : Tx) : (c :: t).take 2 ≠ [32, 32] := by
  cases t <;> simp [h]
theorem inner_none {c : UInt8} (h : Ln.gapB c = false) (t : Tx) : inner (c :: t) = none := by
  have hc : c ≠ 32 := fun e => by subst e; cases h
  unfold inner
  rw [if_neg (take2_ne hc t), if_neg (trim_ne h t)]
theorem df_on (acc : Tx) (c : UInt8) (t : Tx) (h : c ≠ 93) : df E acc (c :: t) = df E (acc ++ [c]) t := by
  rw [df]
  intro d hc _
  exact h hc
structure PG (spans : List Sp) : Prop where
  ne : (Ln.split (wrs spans)).1 ≠ []
  k8 : ∀ s ∈ (Ln.split (wrs spans)).1, kindOf E s = 8
  tr : ∀ s ∈ (Ln.split (wrs spans)).1, trim s = s
  rd : parse (joinLF (Ln.split (wrs spans)).1) = spans
structure HG (spans : List Sp) : Prop where
  tr : spans ≠ [] → trim (32 :: wrs spans) = wrs spans
  rd : parse (wrs spans) = spans
structure First (k : Int) (s : Tx) : Prop where
  nb : kindOf E s ≠ 1
  inn : inner s = none
  it : kindOf E s = 6 ↔ (k = 6 ∨ k = 7)
end Go.Proofs.YtihihgfcklkkhaaGreatDoor.Bk
namespace Go.Proofs.YtihihgfcklkkhaaGreatDoor.Bk
open Go.Proofs.YtihihgfcklkkhaaGreatDoor.Ln (run mx trim run_yes run_no run_le dr_cons dl_no dl_yes dr_dl mx_none)
open Go.Proofs.YtihihgfcklkkhaaGreatDoor.Sp (Sp wrs destB)
set_option linter.unusedVariables false
variable (E : Env)
theorem kind_one (s : Tx) : kindOf E s = 1 ↔ trim s = [] := by
  unfold kindOf
  constructor
  · intro h
    by_cases ht : trim s = []
    · exact ht
    · exfalso
      rw [if_neg ht] at h
      revert h
      repeat' split
      all_goals omega
  · intro h; rw [if_pos h]
theorem trim_sp (s : Tx) : trim (32 :: s) = trim s := by
  unfold trim
  rw [← dr_dl, ← dr_dl, dl_yes (by decide)]
structure Behind (t : List Tx) : Prop where
  it : itemL E t = ([], t)
  no : dropBlank E t = [] ∨ ∃ s r, dropBlank E t = s :: r ∧ kindOf E s ≠ 6
def tl (r : List Bk) : List Tx := match r with | [] => [] | _ :: _ => [] :: wl r
end Go.Proofs.YtihihgfcklkkhaaGreatDoor.Bk
namespace Go.Proofs.YtihihgfcklkkhaaGreatDoor.Bk
open Go.Proofs.YtihihgfcklkkhaaGreatDoor.Ln (run mx trim run_yes run_no run_le mx_zero mx_none)
open Go.Proofs.YtihihgfcklkkhaaGreatDoor.Sp (Sp wrs wr1 destB fits fit1 esc marked padded ticksOf)
set_option linter.unusedVariables false
variable (E : Env)
inductive Cx : Tx → Prop
  | nil : Cx []
  | emph (e l : Bool) (R : List Sp) (K : Tx) : Cx K → fits e l 3 R → Cx (42 :: (wrs R ++ K))
  | link (e l : Bool) (s : Tx) (R : List Sp) (K : Tx) : Cx K → (∀ c ∈ s, destB c = true) → fits e l 4 R → Cx (93 :: 40 :: (s ++ 41 :: (wrs R ++ K)))
theorem df_some : ∀ (t acc a d : Tx), df E acc t = some (a, d) → ∃ p, a = acc ++ p ∧ t = p ++ 93 :: 58 :: 32 :: d ∧ label E a = true ∧ isDest d = true
  | [], acc, a, d, h => by cases h
  | c :: t, acc, a, d, h => by
    by_cases hc : c = 93
    · subst hc
      by_cases ht : ∃ d', t = 58 :: 32 :: d'
      · obtain ⟨d', rfl⟩ := ht
        rw [df] at h
        split at h
        · rename_i hld
          simp only [Option.some.injEq, Prod.mk.injEq] at h
          obtain ⟨rfl, rfl⟩ := h
          rw [Bool.and_eq_true] at hld
          exact ⟨[], by simp, rfl, hld.1, hld.2⟩
        · obtain ⟨p, h1, h2, h3, h4⟩ := df_some _ _ a d h
          exact ⟨93 :: p, by rw [h1]; simp, by rw [h2]; rfl, h3, h4⟩
      · have hd : df E acc (93 :: t) = df E (acc ++ [93]) t := by
          rw [df]
          intro d' _ he
          exact ht ⟨d', he⟩
        rw [hd] at h
        obtain ⟨p, h1, h2, h3, h4⟩ := df_some t _ a d h
        exact ⟨93 :: p, by rw [h1]; simp, by rw [h2]; rfl, h3, h4⟩
    · rw [df_on E acc c t hc] at h
      obtain ⟨p, h1, h2, h3, h4⟩ := df_some t _ a d h
      exact ⟨c :: p, by rw [h1]; simp, by rw [h2]; rfl, h3, h4⟩
end Go.Proofs.YtihihgfcklkkhaaGreatDoor.Bk
