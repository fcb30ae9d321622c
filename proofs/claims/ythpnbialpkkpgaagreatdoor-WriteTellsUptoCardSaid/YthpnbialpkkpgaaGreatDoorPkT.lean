import Derived.Test.YthpnbialpkkpgaaGreatDoorPkL
import Derived.Test.YthpnbialpkkpgaaGreatDoorPkA
namespace Go.Proofs.YthpnbialpkkpgaaGreatDoor.Bk
open Go.Proofs.YthpnbialpkkpgaaGreatDoor.Ln (run mx trim run_yes run_no run_le)
open Go.Proofs.YthpnbialpkkpgaaGreatDoor.Sp (Sp wrs destB)
set_option linter.unusedVariables false
structure Env where
  chk : Tx → Bool
variable (E : Env)
def gapB (c : UInt8) : Bool := c == 32 || c == 9
def tight (s : Tx) : Bool := s.all (fun _ => true) && (match s.head? with | none => true | some c => !gapB c) && (match s.getLast? with | none => true | some c => !gapB c)
def label (s : Tx) : Bool := E.chk s && decide (s ≠ []) && tight s && !s.contains 10 && !s.contains 13 && !s.contains 91 && !s.contains 93 && !s.contains 92
def isDest (s : Tx) : Bool := decide (s ≠ []) && s.all destB
def df : Tx → Tx → Option (Tx × Tx)
  | _, [] => none
  | acc, c :: t => match c, t with
    | 93, 58 :: 32 :: d => if label E acc && isDest d then some (acc, d) else df (acc ++ [93]) (58 :: 32 :: d)
    | c, t => df (acc ++ [c]) t
def define (s : Tx) : Option (Tx × Tx) := match s with
  | 91 :: t => df E [] t
  | _ => none
def kindOf (s : Tx) : Nat :=
  if trim s = [] then 1
  else if (1 ≤ run 35 s ∧ run 35 s ≤ 6) ∧ (s.length = run 35 s ∨ s[run 35 s]? = some 32) then 2
  else if 3 ≤ run 45 s ∧ run 45 s = s.length then 3
  else if 3 ≤ run 96 s ∧ mx 96 (s.drop (run 96 s)) = 0 then 4
  else if s.head? = some 62 then 5
  else if s = [45] ∨ s.take 2 = [45, 32] then 6
  else if (define E s).isSome = true then 7 else 8
def parse (t : Tx) : List Sp := (Sp.read t.length false false t).1
def joinLF : List Tx → Tx
  | [] => []
  | [x] => x
  | x :: y :: r => x ++ 10 :: joinLF (y :: r)
def ticksL (l : List Tx) : Nat := l.foldr (fun s n => max (mx 96 s + 1) n) 3
def preQ (s : Tx) : Tx := if s = [] then [62] else 62 :: 32 :: s
def preI (s : Tx) : Tx := if s = [] then [] else 32 :: 32 :: s
def itemW (l : List Tx) : List Tx := match l with
  | [] => [[45]]
  | s :: r => (45 :: 32 :: s) :: r.map preI
mutual
def one : Bk → List Tx
  | .mk k lv info lines spans kids =>
    if k = 1 then (Ln.split (wrs spans)).1
    else if k = 2 then [List.replicate lv.toNat 35 ++ (if spans = [] then [] else 32 :: wrs spans)]
    else if k = 3 then [[45, 45, 45]]
    else if k = 4 then (List.replicate (ticksL lines) 96 ++ info) :: (lines ++ [List.replicate (ticksL lines) 96])
    else if k = 5 then (if wl kids = [] then [[62]] else (wl kids).map preQ)
    else if k = 6 then its kids
    else if k = 7 then itemW (wl kids)
    else [91 :: (info ++ (93 :: 58 :: 32 :: (lines.headD [])))]
def wl : List Bk → List Tx
  | [] => []
  | b :: r => match r with
    | [] => one b
    | _ :: _ => one b ++ [] :: wl r
def its : List Bk → List Tx
  | [] => []
  | b :: r => one b ++ its r
end
end Go.Proofs.YthpnbialpkkpgaaGreatDoor.Bk
namespace Go.Proofs.YthpnbialpkkpgaaGreatDoor.Bk
open Go.Proofs.YthpnbialpkkpgaaGreatDoor.Ln (run mx trim run_yes run_no run_le run_le_mx dr_cons dl_no mx_none)
open Go.Proofs.YthpnbialpkkpgaaGreatDoor.Sp (Sp wrs destB)
set_option linter.unusedVariables false
variable (E : Env)
theorem trim_ne {c : UInt8} (h : Ln.gapB c = false) (t : Tx) : trim (c :: t) ≠ [] := by
  unfold trim
  rw [dr_cons]
  split
  · rw [h]; simp [dl_no h]
  · rw [dl_no h]; simp
theorem run_head {c d : UInt8} (h : c ≠ d) (t : Tx) : run d (c :: t) = 0 := run_no h t
theorem kind_blank : kindOf E [] = 1 := rfl
theorem kind_quote (s : Tx) : kindOf E (preQ s) = 5 := by
  obtain ⟨t, ht⟩ : ∃ t, preQ s = 62 :: t := by unfold preQ; split <;> exact ⟨_, rfl⟩
  rw [ht]
  unfold kindOf
  rw [if_neg (trim_ne (by decide) t), run_head (by decide), run_head (by decide), run_head (by decide), if_neg (by omega), if_neg (by omega), if_neg (by omega), if_pos (show (62 :: t).head? = some 62 from rfl)]
theorem kind_item (t : Tx) : kindOf E (45 :: 32 :: t) = 6 := by
  unfold kindOf
  have hr : run 45 (45 :: 32 :: t) = 1 := by rw [run_yes rfl, run_no (by decide)]
  rw [if_neg (trim_ne (by decide) _), run_head (by decide), hr, run_head (by decide), if_neg (by omega), if_neg (by omega), if_neg (by omega), if_neg (by simp), if_pos (show (45 :: 32 :: t = [45]) ∨ (List.take 2 (45 :: 32 :: t) = [45, 32]) from Or.inr rfl)]
theorem kind_item0 : kindOf E [45] = 6 := by
  unfold kindOf
  rw [if_neg (by decide), if_neg (by decide), if_neg (by decide), if_neg (by decide), if_neg (by decide), if_pos (Or.inl rfl)]
theorem kind_rule : kindOf E [45, 45, 45] = 3 := by
  unfold kindOf
  rw [if_neg (by decide), if_neg (by decide), if_pos (by decide)]
theorem run_reps (c : UInt8) (t : Tx) (ht : t.head? ≠ some c) : ∀ n, run c (List.replicate n c ++ t) = n
  | 0 => by
    cases t with
    | nil => rfl
    | cons b r => exact run_no (fun e => ht (by rw [e]; rfl)) r
  | n + 1 => by rw [List.replicate_succ, List.cons_append, run_yes rfl, run_reps c t ht n]
theorem kind_head (n : Nat) (h1 : 1 ≤ n) (h6 : n ≤ 6) (t : Tx) (ht : t = [] ∨ ∃ r, t = 32 :: r) : kindOf E (List.replicate n 35 ++ t) = 2 ∧ run 35 (List.replicate n 35 ++ t) = n := by
  have hr : run 35 (List.replicate n 35 ++ t) = n := run_reps 35 t (by rcases ht with rfl | ⟨r, rfl⟩ <;> simp) n
  obtain ⟨m, rfl⟩ : ∃ m, n = m + 1 := ⟨n - 1, by omega⟩
  have hc : (List.replicate (m + 1) (35 : UInt8) ++ t).length = m + 1 ∨ (List.replicate (m + 1) (35 : UInt8) ++ t)[m + 1]? = some 32 := by
    rcases ht with rfl | ⟨r, rfl⟩
    · left; simp
    · right; rw [List.getElem?_append_right (by simp)]; simp
  refine ⟨?_, hr⟩
  unfold kindOf
  rw [hr]
  rw [if_neg (by rw [List.replicate_succ, List.cons_append]; exact trim_ne (by decide) _), if_pos ⟨⟨h1, h6⟩, hc⟩]
theorem kind_fence (n : Nat) (h3 : 3 ≤ n) (info : Tx) (h96 : (96 : UInt8) ∉ info) : kindOf E (List.replicate n 96 ++ info) = 4 ∧ run 96 (List.replicate n 96 ++ info) = n := by
  have hr : run 96 (List.replicate n 96 ++ info) = n := run_reps 96 info (by
    cases info with
    | nil => simp
    | cons c r => simp; exact fun e => h96 (by rw [e]; exact List.mem_cons_self ..)) n
  refine ⟨?_, hr⟩
  obtain ⟨m, hm⟩ : ∃ m, n = m + 1 := ⟨n - 1, by omega⟩
  have hd : (List.replicate n 96 ++ info).drop n = info := List.drop_left' (List.length_replicate ..)
  unfold kindOf
  rw [hr, hd]
  subst hm
  have e : List.replicate (m + 1) (96 : UInt8) ++ info = 96 :: (List.replicate m 96 ++ info) := by rw [List.replicate_succ, List.cons_append]
  rw [e, if_neg (trim_ne (by decide) _), run_head (by decide), run_head (by decide), if_neg (by omega), if_neg (by omega), if_pos ⟨h3, mx_none 96 info h96⟩]
theorem df_on (acc : Tx) (c : UInt8) (t : Tx) (h : c ≠ 93) : df E acc (c :: t) = df E (acc ++ [c]) t := by
  rw [df]
  intro d hc _
  exact h hc
theorem df_pre (t : Tx) : ∀ (p acc : Tx), (93 : UInt8) ∉ p → df E acc (p ++ t) = df E (acc ++ p) t
  | [], acc, _ => by simp
  | c :: p, acc, h => by
    rw [List.cons_append, df_on E acc c _ (fun e => h (by rw [e]; exact List.mem_cons_self ..)), df_pre t p _ (fun h' => h (List.mem_cons_of_mem _ h')), List.append_assoc]
    rfl
theorem df_found (acc d : Tx) (h1 : label E acc = true) (h2 : isDest d = true) : df E acc (93 :: 58 :: 32 :: d) = some (acc, d) := by
  rw [df]
  simp [h1, h2]
theorem label_no (s : Tx) (h : label E s = true) : (93 : UInt8) ∉ s := by
  unfold label at h
  simp only [Bool.and_eq_true] at h
  have := h.1.2
  simpa using this
theorem define_ok (info d : Tx) (h1 : label E info = true) (h2 : isDest d = true) : define E (91 :: (info ++ 93 :: 58 :: 32 :: d)) = some (info, d) := by
  show df E [] (info ++ 93 :: 58 :: 32 :: d) = _
  rw [df_pre E _ info [] (label_no E info h1), List.nil_append, df_found E info d h1 h2]
theorem kind_def (info d : Tx) (h1 : label E info = true) (h2 : isDest d = true) : kindOf E (91 :: (info ++ 93 :: 58 :: 32 :: d)) = 7 := by
  have hd := define_ok E info d h1 h2
  unfold kindOf
  rw [hd, if_neg (trim_ne (by decide) _), run_head (by decide), run_head (by decide), run_head (by decide), if_neg (by omega), if_neg (by omega), if_neg (by omega), if_neg (by simp), if_neg (by simp), if_pos (show (some (info, d)).isSome = true from rfl)]
structure PG (spans : List Sp) : Prop where
  ne : (Ln.split (wrs spans)).1 ≠ []
  k8 : ∀ s ∈ (Ln.split (wrs spans)).1, kindOf E s = 8
  tr : ∀ s ∈ (Ln.split (wrs spans)).1, trim s = s
  rd : parse (joinLF (Ln.split (wrs spans)).1) = spans
structure HG (spans : List Sp) : Prop where
  tr : spans ≠ [] → trim (32 :: wrs spans) = wrs spans
  rd : parse (wrs spans) = spans
mutual
def ok1 : Bool → Bk → Prop
  | list, .mk k lv info lines spans kids =>
    (list = true ∧ k = 7 ∧ lv = 0 ∧ info = [] ∧ lines = [] ∧ spans = [] ∧ oks false false kids) ∨
    (list = false ∧
      ((k = 1 ∧ lv = 0 ∧ info = [] ∧ lines = [] ∧ kids = [] ∧ PG E spans) ∨
       (k = 2 ∧ info = [] ∧ lines = [] ∧ kids = [] ∧ (1 ≤ lv ∧ lv ≤ 6) ∧ HG spans) ∨
       (k = 3 ∧ lv = 0 ∧ info = [] ∧ lines = [] ∧ spans = [] ∧ kids = []) ∨
       (k = 4 ∧ lv = 0 ∧ spans = [] ∧ kids = [] ∧ trim info = info ∧ (96 : UInt8) ∉ info) ∨
       (k = 5 ∧ lv = 0 ∧ info = [] ∧ lines = [] ∧ spans = [] ∧ oks false false kids) ∨
       (k = 6 ∧ lv = 0 ∧ info = [] ∧ lines = [] ∧ spans = [] ∧ kids ≠ [] ∧ oks true false kids) ∨
       (k = 8 ∧ lv = 0 ∧ spans = [] ∧ kids = [] ∧ label E info = true ∧ ∃ d, lines = [d] ∧ isDest d = true)))
def oks : Bool → Bool → List Bk → Prop
  | _, _, [] => True
  | list, prev, .mk k lv info lines spans kids :: r => ok1 list (.mk k lv info lines spans kids) ∧ ¬ (prev = true ∧ k = 6) ∧ oks list (k == 6) r
end
mutual
def dp1 : Bk → Nat
  | .mk k _ _ _ _ kids => (if k = 5 ∨ k = 6 ∨ k = 7 then 1 else 0) + dps kids
def dps : List Bk → Nat
  | [] => 0
  | b :: r => max (dp1 b) (dps r)
end
theorem wl_one (b : Bk) : wl [b] = one b := by rw [wl]
theorem wl_two (b c : Bk) (r : List Bk) : wl (b :: c :: r) = one b ++ [] :: wl (c :: r) := by rw [wl]
theorem its_cons (b : Bk) (r : List Bk) : its (b :: r) = one b ++ its r := by rw [its]
end Go.Proofs.YthpnbialpkkpgaaGreatDoor.Bk
namespace Go.Proofs.YthpnbialpkkpgaaGreatDoor.Bk
open Go.Proofs.YthpnbialpkkpgaaGreatDoor.Ln (run mx trim run_yes run_no run_le run_le_mx dr_cons dl_no dl_yes dr_dl mx_none)
open Go.Proofs.YthpnbialpkkpgaaGreatDoor.Sp (Sp wrs destB)
set_option linter.unusedVariables false
variable (E : Env)
theorem trim_sp (s : Tx) : trim (32 :: s) = trim s := by
  unfold trim
  rw [← dr_dl, ← dr_dl, dl_yes (by decide)]
theorem ticksL_ge (l : List Tx) : 3 ≤ ticksL l ∧ ∀ s ∈ l, mx 96 s + 1 ≤ ticksL l := by
  unfold ticksL
  induction l with
  | nil => exact ⟨Nat.le_refl _, fun s h => by cases h⟩
  | cons x l ih =>
    obtain ⟨h1, h2⟩ := ih
    refine ⟨by show 3 ≤ max _ _; omega, fun s hs => ?_⟩
    show _ ≤ max (mx 96 x + 1) _
    rcases List.mem_cons.1 hs with rfl | hs
    · omega
    · have := h2 s hs; omega
def tl (r : List Bk) : List Tx := match r with | [] => [] | _ :: _ => [] :: wl r
theorem wl_tl (b : Bk) (r : List Bk) : wl (b :: r) = one b ++ tl r := by
  cases r with
  | nil => rw [wl_one]; simp [tl]
  | cons c r => rw [wl_two]; rfl
end Go.Proofs.YthpnbialpkkpgaaGreatDoor.Bk
namespace Go.Proofs.YthpnbialpkkpgaaGreatDoor.Bk
open Go.Proofs.YthpnbialpkkpgaaGreatDoor.Ln (run mx trim run_yes run_no run_le run_le_mx mx_zero mx_none)
open Go.Proofs.YthpnbialpkkpgaaGreatDoor.Sp (Sp wrs wr1 destB fits fit1 esc marked unmarked padded ticksOf ticksOf_ok padded_ne padded_head padded_lf)
set_option linter.unusedVariables false
variable (E : Env)
def ln (t : Tx) : Tx := t.takeWhile (· != 10)
theorem ln_app (a b : Tx) (h : (10 : UInt8) ∉ a) : ln (a ++ b) = a ++ ln b := by
  induction a with
  | nil => rfl
  | cons c a ih =>
    have hc : (c != 10) = true := by simp; exact fun e => h (by rw [e]; exact List.mem_cons_self ..)
    show List.takeWhile _ (c :: (a ++ b)) = _
    rw [List.takeWhile_cons_of_pos (p := fun x : UInt8 => x != 10) hc]
    show c :: ln (a ++ b) = _
    rw [ih (fun h' => h (List.mem_cons_of_mem _ h'))]
    rfl
theorem ln_lf (a b : Tx) (h : (10 : UInt8) ∉ a) : ln (a ++ 10 :: b) = a := by
  rw [ln_app a _ h]
  show a ++ List.takeWhile _ (10 :: b) = a
  rw [List.takeWhile_cons_of_neg (by simp), List.append_nil]
theorem ln_cons {c : UInt8} (h : c ≠ 10) (t : Tx) : ln (c :: t) = c :: ln t := List.takeWhile_cons_of_pos (by simpa using h)
theorem esc_cons (c : UInt8) (s : Tx) : esc (c :: s) = (if marked c then [92, c] else [c]) ++ esc s := by
  rw [esc]; split <;> rfl
theorem esc_app (a b : Tx) : esc (a ++ b) = esc a ++ esc b := by
  induction a with
  | nil => rfl
  | cons c a ih => rw [List.cons_append, esc_cons, esc_cons, ih, List.append_assoc]
theorem esc_10 (s : Tx) (h : (10 : UInt8) ∉ s) : (10 : UInt8) ∉ esc s := by
  induction s with
  | nil => simp [esc]
  | cons c s ih =>
    have hc : c ≠ 10 := fun e => h (by rw [e]; exact List.mem_cons_self ..)
    have := ih (fun h' => h (List.mem_cons_of_mem _ h'))
    rw [esc_cons]
    split <;> simp [this, Ne.symm hc]
theorem esc_93 : ∀ (s acc d : Tx), esc s = acc ++ 93 :: d → (92 : UInt8) ∈ acc
  | [], acc, d, h => by simp [esc] at h
  | c :: s, acc, d, h => by
    rw [esc_cons] at h
    cases hc : marked c with
    | true =>
      rw [hc, if_pos rfl] at h
      cases acc with
      | nil => simp at h
      | cons a acc => simp at h; rw [← h.1]; exact List.mem_cons_self ..
    | false =>
      rw [hc, if_neg (by decide)] at h
      have h93 := (unmarked c hc).2.2.2.1
      cases acc with
      | nil => simp at h; exact absurd h.1 h93
      | cons a acc =>
        simp at h
        exact List.mem_cons_of_mem _ (esc_93 s acc d h.2)
theorem split_10 {s : Tx} (h : (10 : UInt8) ∈ s) : ∃ a b, s = a ++ 10 :: b ∧ (10 : UInt8) ∉ a := by
  induction s with
  | nil => cases h
  | cons c s ih =>
    by_cases e : c = 10
    · subst e; exact ⟨[], s, rfl, by simp⟩
    · obtain ⟨a, b, rfl, ha⟩ := ih ((List.mem_cons.1 h).resolve_left (fun h' => e h'.symm))
      exact ⟨c :: a, b, rfl, by simp [ha, Ne.symm e]⟩
theorem esc_lf : ∀ (s rest pre u : Tx), esc s ++ rest = pre ++ 10 :: u → (∃ s1 s2, s = s1 ++ 10 :: s2 ∧ u = esc s2 ++ rest) ∨ (∃ p, rest = p ++ 10 :: u)
  | [], rest, pre, u, h => Or.inr ⟨pre, h⟩
  | c :: s, rest, pre, u, h => by
    rw [esc_cons] at h
    have go : ∀ p, esc s ++ rest = p ++ 10 :: u → (∃ s1 s2, c :: s = s1 ++ 10 :: s2 ∧ u = esc s2 ++ rest) ∨ (∃ p, rest = p ++ 10 :: u) := fun p hp => by
      rcases esc_lf s rest p u hp with ⟨s1, s2, e, hu⟩ | h'
      · exact Or.inl ⟨c :: s1, s2, by rw [e]; rfl, hu⟩
      · exact Or.inr h'
    cases hc : marked c with
    | true =>
      rw [hc, if_pos rfl] at h
      have h10 : c ≠ 10 := fun e => by subst e; cases hc
      cases pre with
      | nil => simp at h
      | cons a pre =>
        cases pre with
        | nil => simp at h; exact absurd h.2.1 h10
        | cons b pre => simp at h; exact go pre h.2.2
    | false =>
      rw [hc, if_neg (by decide)] at h
      cases pre with
      | nil =>
        simp at h
        exact Or.inl ⟨[], s, by rw [h.1]; rfl, h.2.symm⟩
      | cons a pre => simp at h; exact go pre h.2
inductive Cx : Tx → Prop
  | nil : Cx []
  | emph (e l : Bool) (R : List Sp) (K : Tx) : Cx K → fits e l 3 R → Cx (42 :: (wrs R ++ K))
  | link (e l : Bool) (s : Tx) (R : List Sp) (K : Tx) : Cx K → (∀ c ∈ s, destB c = true) → fits e l 4 R → Cx (93 :: 40 :: (s ++ 41 :: (wrs R ++ K)))
def Start (u : Tx) : Prop := ∃ (s : Tx) (R : List Sp) (K : Tx) (e l : Bool), u = esc s ++ (wrs R ++ K) ∧ Cx K ∧ fits e l 1 R
theorem code_10 (s : Tx) (h : (10 : UInt8) ∉ s) (n : Nat) : (10 : UInt8) ∉ List.replicate n (96 : UInt8) ++ (padded s ++ List.replicate n 96) := by
  have := padded_lf s h
  simp [this]
theorem dest_10 {s : Tx} (h : ∀ c ∈ s, destB c = true) : (10 : UInt8) ∉ s := fun h' => absurd (h 10 h') (by decide)
theorem lf_past {a b pre u : Tx} (ha : (10 : UInt8) ∉ a) (h : a ++ b = pre ++ 10 :: u) : ∃ p, b = p ++ 10 :: u := by
  rcases List.append_eq_append_iff.1 h with ⟨a', e1, e2⟩ | ⟨c', e1, e2⟩
  · exact ⟨a', e2⟩
  · cases c' with
    | nil => exact ⟨[], by simpa using e2.symm⟩
    | cons x c' =>
      simp at e2
      exact absurd (by rw [e1, ← e2.1]; simp) ha
theorem lf_start (e l : Bool) (prev : Int) (L : List Sp) (h : fits e l prev L) (K : Tx) (hK : Cx K) (hP : ∀ pre u, K = pre ++ 10 :: u → Start u) (pre u : Tx) (hu : wrs L ++ K = pre ++ 10 :: u) : Start u := by
  match L, h with
  | [], _ => rw [wrs, List.nil_append] at hu; exact hP pre u hu
  | .mk k s kids :: R, h =>
    rw [fits] at h
    obtain ⟨h1, h2, h3⟩ := h
    rw [fit1] at h1
    rw [wrs, wr1, List.append_assoc] at hu
    rcases h1 with ⟨rfl, rfl, hs⟩ | ⟨rfl, rfl, hs, h10⟩ | ⟨rfl, rfl, hk, rfl, hkids⟩ | ⟨rfl, hs, hd, hk, rfl, hkids⟩
    · rw [if_pos rfl] at hu
      rcases esc_lf s _ pre u hu with ⟨s1, s2, _, hu'⟩ | ⟨p, hp⟩
      · exact ⟨s2, R, K, e, l, hu', hK, h3⟩
      · exact lf_start e l 1 R h3 K hK hP p u hp
    · rw [if_neg (by decide), if_pos rfl] at hu
      obtain ⟨p, hp⟩ := lf_past (code_10 s h10 _) hu
      exact lf_start e l 2 R h3 K hK hP p u hp
    · rw [if_neg (by decide), if_neg (by decide), if_pos rfl] at hu
      have e1 : (42 :: (wrs kids ++ [42]) : Tx) ++ (wrs R ++ K) = [42] ++ (wrs kids ++ (42 :: (wrs R ++ K))) := by simp
      rw [e1] at hu
      obtain ⟨p, hp⟩ := lf_past (by simp) hu
      refine lf_start true l 0 kids hkids (42 :: (wrs R ++ K)) (Cx.emph false l R K hK h3) (fun pre' u' hu' => ?_) p u hp
      obtain ⟨p', hp'⟩ := lf_past (a := [42]) (b := wrs R ++ K) (by simp) hu'
      exact lf_start false l 3 R h3 K hK hP p' u' hp'
    · rw [if_neg (by decide), if_neg (by decide), if_neg (by decide), if_pos rfl] at hu
      have e1 : (91 :: (wrs kids ++ (93 :: 40 :: (s ++ [41]))) : Tx) ++ (wrs R ++ K) = [91] ++ (wrs kids ++ (93 :: 40 :: (s ++ 41 :: (wrs R ++ K)))) := by simp
      rw [e1] at hu
      obtain ⟨p, hp⟩ := lf_past (by simp) hu
      refine lf_start e true 0 kids hkids _ (Cx.link e false s R K hK hd h3) (fun pre' u' hu' => ?_) p u hp
      have e2 : (93 :: 40 :: (s ++ 41 :: (wrs R ++ K)) : Tx) = (93 :: 40 :: (s ++ [41])) ++ (wrs R ++ K) := by simp
      rw [e2] at hu'
      obtain ⟨p', hp'⟩ := lf_past (by have := dest_10 hd; simp [this]) hu'
      exact lf_start e false 4 R h3 K hK hP p' u' hp'
termination_by SizeOf.sizeOf L
theorem df_some : ∀ (t acc a d : Tx), df E acc t = some (a, d) → ∃ p, a = acc ++ p ∧ t = p ++ 93 :: 58 :: 32 :: d ∧ label E a = true ∧ isDest d = true
  | [], acc, a, d, h => by cases h
  | c :: t, acc, a, d, h => by
    by_cases hc : c = 93
    · subst hc
      by_cases ht : ∃ d', t = 58 :: 32 :: d'
      · obtain ⟨d', rfl⟩ := ht
        rw [df] at h
        split at h
        · rename_i hld
          simp only [Option.some.injEq, Prod.mk.injEq] at h
          obtain ⟨rfl, rfl⟩ := h
          rw [Bool.and_eq_true] at hld
          exact ⟨[], by simp, rfl, hld.1, hld.2⟩
        · obtain ⟨p, h1, h2, h3, h4⟩ := df_some _ _ a d h
          exact ⟨93 :: p, by rw [h1]; simp, by rw [h2]; rfl, h3, h4⟩
      · have hd : df E acc (93 :: t) = df E (acc ++ [93]) t := by
          rw [df]
          intro d' _ he
          exact ht ⟨d', he⟩
        rw [hd] at h
        obtain ⟨p, h1, h2, h3, h4⟩ := df_some t _ a d h
        exact ⟨93 :: p, by rw [h1]; simp, by rw [h2]; rfl, h3, h4⟩
    · rw [df_on E acc c t hc] at h
      obtain ⟨p, h1, h2, h3, h4⟩ := df_some t _ a d h
      exact ⟨c :: p, by rw [h1]; simp, by rw [h2]; rfl, h3, h4⟩
theorem past {C Z acc d : Tx} {x : UInt8} (h : C ++ Z = acc ++ x :: d) : (∃ a', acc = C ++ a' ∧ Z = a' ++ x :: d) ∨ (∃ c', C = acc ++ x :: c' ∧ d = c' ++ Z) := by
  rcases List.append_eq_append_iff.1 h with ⟨a', e1, e2⟩ | ⟨c', e1, e2⟩
  · exact Or.inl ⟨a', e1, e2⟩
  · cases c' with
    | nil => exact Or.inl ⟨[], by simpa using e1.symm, by simpa using e2.symm⟩
    | cons y c' =>
      simp at e2
      obtain ⟨rfl, e3⟩ := e2
      exact Or.inr ⟨c', e1, e3⟩
theorem first93 (e l : Bool) (prev : Int) (L : List Sp) (h : fits e l prev L) (K acc d : Tx) (hl : ln (wrs L ++ K) = acc ++ 93 :: d) (h93 : (93 : UInt8) ∉ acc) (h92 : (92 : UInt8) ∉ acc) :
    (96 : UInt8) ∈ d ∨ d.head? = some 40 ∨ ∃ acc', acc = wrs L ++ acc' ∧ ln K = acc' ++ 93 :: d := by
  match L, h with
  | [], _ => exact Or.inr (Or.inr ⟨acc, by rw [wrs]; rfl, by rw [wrs, List.nil_append] at hl; exact hl⟩)
  | .mk k s kids :: R, h =>
    rw [fits] at h
    obtain ⟨h1, h2, h3⟩ := h
    rw [fit1] at h1
    rw [wrs, wr1, List.append_assoc] at hl
    rw [wrs, wr1]
    rcases h1 with ⟨rfl, rfl, hs⟩ | ⟨rfl, rfl, hs, h10⟩ | ⟨rfl, rfl, hk, rfl, hkids⟩ | ⟨rfl, hs, hd, hk, rfl, hkids⟩
    · rw [if_pos rfl] at hl ⊢
      by_cases h10 : (10 : UInt8) ∈ s
      · obtain ⟨a, b, rfl, ha⟩ := split_10 h10
        rw [esc_app, show esc (10 :: b) = 10 :: esc b from by rw [esc_cons]; rfl, List.append_assoc, List.cons_append, ln_lf _ _ (esc_10 a ha)] at hl
        exact absurd (esc_93 a acc d hl) h92
      · rw [ln_app _ _ (esc_10 s h10)] at hl
        rcases past hl with ⟨a', rfl, e2⟩ | ⟨c', e1, e2⟩
        · rcases first93 e l 1 R h3 K a' d e2 (fun h' => h93 (List.mem_append_right _ h')) (fun h' => h92 (List.mem_append_right _ h')) with h | h | ⟨b, rfl, e4⟩
          · exact Or.inl h
          · exact Or.inr (Or.inl h)
          · exact Or.inr (Or.inr ⟨b, by rw [List.append_assoc], e4⟩)
        · exact absurd (esc_93 s acc c' e1) h92
    · rw [if_neg (by decide), if_pos rfl] at hl ⊢
      obtain ⟨_, hn⟩ := ticksOf_ok s
      rw [ln_app _ _ (code_10 s h10 _)] at hl
      generalize ticksOf s = n at *
      rcases past hl with ⟨a', rfl, e2⟩ | ⟨c', e1, rfl⟩
      · rcases first93 e l 2 R h3 K a' d e2 (fun h' => h93 (List.mem_append_right _ h')) (fun h' => h92 (List.mem_append_right _ h')) with h | h | ⟨b, rfl, e4⟩
        · exact Or.inl h
        · exact Or.inr (Or.inl h)
        · exact Or.inr (Or.inr ⟨b, by simp [List.append_assoc], e4⟩)
      · left
        have hlast : (List.replicate n (96 : UInt8) ++ (padded s ++ List.replicate n 96)).getLast? = some 96 := by
          obtain ⟨m, rfl⟩ : ∃ m, n = m + 1 := ⟨n - 1, by omega⟩
          rw [List.replicate_succ' (n := m) (a := (96 : UInt8)), ← List.append_assoc, ← List.append_assoc, List.getLast?_concat]
        rw [e1, List.getLast?_append] at hlast
        cases c' with
        | nil => simp at hlast
        | cons y c' =>
          rw [List.getLast?_cons_cons] at hlast
          cases hc : (y :: c' : Tx).getLast? with
          | none => simp at hc
          | some v =>
            rw [hc] at hlast
            simp at hlast
            subst hlast
            exact List.mem_append_left _ (List.mem_of_getLast? hc)
    · rw [if_neg (by decide), if_neg (by decide), if_pos rfl] at hl ⊢
      have e1 : (42 :: (wrs kids ++ [42]) : Tx) ++ (wrs R ++ K) = 42 :: (wrs kids ++ (42 :: (wrs R ++ K))) := by simp
      rw [e1, ln_cons (by decide)] at hl
      cases acc with
      | nil => simp at hl
      | cons a acc =>
        simp only [List.cons_append, List.cons.injEq] at hl
        obtain ⟨rfl, hl⟩ := hl
        rcases first93 true l 0 kids hkids _ acc d hl (fun h' => h93 (List.mem_cons_of_mem _ h')) (fun h' => h92 (List.mem_cons_of_mem _ h')) with h | h | ⟨b, rfl, e4⟩
        · exact Or.inl h
        · exact Or.inr (Or.inl h)
        · rw [ln_cons (by decide)] at e4
          cases b with
          | nil => simp at e4
          | cons b0 b =>
            simp only [List.cons_append, List.cons.injEq] at e4
            obtain ⟨rfl, e4⟩ := e4
            rcases first93 false l 3 R h3 K b d e4 (fun h' => h93 (by simp [h'])) (fun h' => h92 (by simp [h'])) with h | h | ⟨b', rfl, e5⟩
            · exact Or.inl h
            · exact Or.inr (Or.inl h)
            · exact Or.inr (Or.inr ⟨b', by simp, e5⟩)
    · rw [if_neg (by decide), if_neg (by decide), if_neg (by decide), if_pos rfl] at hl ⊢
      have e1 : (91 :: (wrs kids ++ (93 :: 40 :: (s ++ [41]))) : Tx) ++ (wrs R ++ K) = 91 :: (wrs kids ++ (93 :: 40 :: (s ++ 41 :: (wrs R ++ K)))) := by simp
      rw [e1, ln_cons (by decide)] at hl
      cases acc with
      | nil => simp at hl
      | cons a acc =>
        simp only [List.cons_append, List.cons.injEq] at hl
        obtain ⟨rfl, hl⟩ := hl
        rcases first93 e true 0 kids hkids _ acc d hl (fun h' => h93 (List.mem_cons_of_mem _ h')) (fun h' => h92 (List.mem_cons_of_mem _ h')) with h | h | ⟨b, rfl, e4⟩
        · exact Or.inl h
        · exact Or.inr (Or.inl h)
        · rw [ln_cons (by decide), ln_cons (by decide)] at e4
          cases b with
          | nil =>
            simp only [List.nil_append, List.cons.injEq, true_and] at e4
            exact Or.inr (Or.inl (by rw [← e4]; rfl))
          | cons b0 b =>
            simp only [List.cons_append, List.cons.injEq] at e4
            exact absurd (by rw [← e4.1]; simp) h93
termination_by SizeOf.sizeOf L
theorem kind_other (c : UInt8) (t : Tx) (hg : Ln.gapB c = false) (h1 : c ≠ 35) (h2 : c ≠ 45) (h3 : c ≠ 96) (h4 : c ≠ 62) (h5 : c ≠ 91) : kindOf E (c :: t) = 8 := by
  have hd : define E (c :: t) = none := by
    unfold define
    split
    · rename_i he; simp at he; exact absurd he.1 h5
    · rfl
  unfold kindOf
  rw [hd, if_neg (trim_ne hg t), run_head h1, run_head h2, run_head h3, if_neg (by omega), if_neg (by omega), if_neg (by omega), if_neg (by simp [h4]), if_neg (by simp [h2]), if_neg (by simp)]
theorem kind_code (n : Nat) (hn : 0 < n) (p r : Tx) (hp : p ≠ []) (hh : p.head? ≠ some 96) : kindOf E (List.replicate n 96 ++ (p ++ (List.replicate n 96 ++ r))) = 8 := by
  have hhead : (p ++ (List.replicate n 96 ++ r)).head? ≠ some 96 := by
    cases p with
    | nil => exact absurd rfl hp
    | cons c p => exact hh
  have hr := run_reps 96 _ hhead n
  have hdr : (List.replicate n (96 : UInt8) ++ (p ++ (List.replicate n 96 ++ r))).drop n = p ++ (List.replicate n 96 ++ r) := List.drop_left' (List.length_replicate ..)
  have hmx : mx 96 (p ++ (List.replicate n 96 ++ r)) ≠ 0 := fun h0 => mx_zero 96 _ h0 (by
    obtain ⟨m, rfl⟩ : ∃ m, n = m + 1 := ⟨n - 1, by omega⟩
    simp [List.replicate_succ])
  obtain ⟨m, rfl⟩ : ∃ m, n = m + 1 := ⟨n - 1, by omega⟩
  have e : List.replicate (m + 1) (96 : UInt8) ++ (p ++ (List.replicate (m + 1) 96 ++ r)) = 96 :: (List.replicate m 96 ++ (p ++ (List.replicate (m + 1) 96 ++ r))) := by rw [List.replicate_succ, List.cons_append]
  rw [e] at hr hdr ⊢
  have hd : define E (96 :: (List.replicate m 96 ++ (p ++ (List.replicate (m + 1) 96 ++ r)))) = none := rfl
  unfold kindOf
  rw [hr, hdr, hd, if_neg (trim_ne (by decide) _), run_head (by decide), run_head (by decide), if_neg (by omega), if_neg (by omega), if_neg (fun h => hmx h.2), if_neg (by simp), if_neg (by simp), if_neg (by simp)]
theorem kind_link (t : Tx) (h : define E (91 :: t) = none) : kindOf E (91 :: t) = 8 := by
  unfold kindOf
  rw [h, if_neg (trim_ne (by decide) _), run_head (by decide), run_head (by decide), run_head (by decide), if_neg (by omega), if_neg (by omega), if_neg (by omega), if_neg (by simp), if_neg (by simp), if_neg (by simp)]
theorem label_92 (s : Tx) (h : label E s = true) : (92 : UInt8) ∉ s := by
  unfold label at h
  simp only [Bool.and_eq_true] at h
  simpa using h.2
theorem kind_start (u : Tx) (hS : Start u) (c : UInt8) (t : Tx) (hl : ln u = c :: t) (hg : Ln.gapB c = false) : kindOf E (ln u) = 8 := by
  obtain ⟨s, R, K, e, l, rfl, hK, hR⟩ := hS
  cases s with
  | cons c0 s =>
    have hc : ∃ x y, esc (c0 :: s) ++ (wrs R ++ K) = x :: y ∧ (x = 92 ∨ (x = c0 ∧ marked c0 = false)) := by
      rw [esc_cons]
      cases hm : marked c0 with
      | true => exact ⟨92, c0 :: (esc s ++ (wrs R ++ K)), by simp, Or.inl rfl⟩
      | false => exact ⟨c0, esc s ++ (wrs R ++ K), by simp, Or.inr ⟨rfl, rfl⟩⟩
    obtain ⟨x, y, hxy, hx⟩ := hc
    rw [hxy] at hl ⊢
    have hx10 : x ≠ 10 := by
      intro e10
      rw [e10] at hl
      unfold ln at hl
      rw [List.takeWhile_cons_of_neg (by simp)] at hl
      cases hl
    rw [ln_cons hx10] at hl ⊢
    simp only [List.cons.injEq] at hl
    obtain ⟨rfl, _⟩ := hl
    rcases hx with rfl | ⟨rfl, hm⟩
    · exact kind_other E _ _ (by decide) (by decide) (by decide) (by decide) (by decide) (by decide)
    · have hmm := hm
      simp only [marked, List.contains_eq_mem, List.mem_cons, List.mem_nil_iff, or_false, decide_eq_false_iff_not, not_or] at hmm
      exact kind_other E _ _ hg hmm.2.2.2.2.1 hmm.2.2.2.2.2.2.1 hmm.2.2.2.2.2.2.2 hmm.2.2.2.2.2.1 hmm.2.2.1
  | nil =>
    rw [show esc ([] : Tx) = [] from rfl, List.nil_append] at hl ⊢
    match R, hR with
    | [], _ =>
      rw [wrs, List.nil_append] at hl ⊢
      cases hK with
      | nil => cases hl
      | emph e l R K _ _ =>
        rw [ln_cons (by decide)]
        exact kind_other E _ _ (by decide) (by decide) (by decide) (by decide) (by decide) (by decide)
      | link e l s R K _ _ _ =>
        rw [ln_cons (by decide)]
        exact kind_other E _ _ (by decide) (by decide) (by decide) (by decide) (by decide) (by decide)
    | .mk k s kids :: R, hR =>
      rw [fits] at hR
      obtain ⟨h1, h2, h3⟩ := hR
      rw [fit1] at h1
      rw [wrs, wr1, List.append_assoc] at hl ⊢
      rcases h1 with ⟨rfl, rfl, hs⟩ | ⟨rfl, rfl, hs, h10⟩ | ⟨rfl, rfl, hk, rfl, hkids⟩ | ⟨rfl, hs, hd, hk, rfl, hkids⟩
      · exact absurd ⟨rfl, by decide⟩ h2
      · rw [if_neg (by decide), if_pos rfl, ln_app _ _ (code_10 s h10 _), List.append_assoc, List.append_assoc]
        exact kind_code E _ (ticksOf_ok s).2 _ _ (padded_ne s hs) (padded_head s)
      · rw [if_neg (by decide), if_neg (by decide), if_pos rfl, List.cons_append, ln_cons (by decide)]
        exact kind_other E _ _ (by decide) (by decide) (by decide) (by decide) (by decide) (by decide)
      · have e1 : (91 :: (wrs kids ++ (93 :: 40 :: (s ++ [41]))) : Tx) ++ (wrs R ++ K) = 91 :: (wrs kids ++ (93 :: 40 :: (s ++ 41 :: (wrs R ++ K)))) := by simp
        rw [if_neg (by decide), if_neg (by decide), if_neg (by decide), if_pos rfl, e1, ln_cons (by decide)]
        apply kind_link
        show df E [] (ln (wrs kids ++ (93 :: 40 :: (s ++ 41 :: (wrs R ++ K))))) = none
        cases hdf : df E [] (ln (wrs kids ++ (93 :: 40 :: (s ++ 41 :: (wrs R ++ K))))) with
        | none => rfl
        | some p =>
          exfalso
          obtain ⟨a, d⟩ := p
          obtain ⟨p, ha, hp, hlab, hdest⟩ := df_some E _ [] a d hdf
          rw [List.nil_append] at ha
          subst ha
          have hall : ∀ x ∈ d, destB x = true := by
            unfold isDest at hdest
            rw [Bool.and_eq_true, List.all_eq_true] at hdest
            exact hdest.2
          rcases first93 e true 0 kids hkids _ _ (58 :: 32 :: d) hp (label_no E _ hlab) (label_92 E _ hlab) with h | h | ⟨b, rfl, e4⟩
          · simp at h
            exact absurd (hall 96 h) (by decide)
          · simp at h
          · rw [ln_cons (by decide), ln_cons (by decide)] at e4
            cases b with
            | nil => simp at e4
            | cons b0 b =>
              simp only [List.cons_append, List.cons.injEq] at e4
              exact label_no E _ hlab (by rw [← e4.1]; simp)
end Go.Proofs.YthpnbialpkkpgaaGreatDoor.Bk
