/-
  SPANS PUT TOGETHER, in plain words: a Code between two lists in normal form; a span doubled; an Emph in an Emph.
-/
import Derived.Test.YtjgaggikgjibiaaSpWrapsWalk
namespace Go.Proofs.Ytjgaggikgjibiaa.Sp
set_option linter.unusedVariables false

/-- The kind of the last one, p if there is none. -/
def lkI (p : Int) : List Sp → Int
  | [] => p
  | x :: r => lkI x.kind r
theorem okAll_app (e k : Bool) : ∀ (l : List Sp) (p : Int) (m : List Sp), okAll e k p (l ++ m) = (okAll e k p l && okAll e k (lkI p l) m)
  | [], p, m => by simp [okAll, lkI]
  | x :: r, p, m => by
    rw [List.cons_append, okAll_cons, okAll_cons, okAll_app e k r x.kind m, lkI]
    simp only [Bool.and_assoc]
/-- What stands ahead plays a part at the first one alone. -/
theorem okAll_first (e k : Bool) (p : Int) (y : Sp) (r : List Sp) : okAll e k p (y :: r) = (okAll e k 0 (y :: r) && !(decide (y.kind = p) && decide (y.kind ≤ 2))) := by
  rw [okAll_cons, okAll_cons]
  cases h : okOne e k y with
  | false => simp
  | true =>
    have h1 := okOne_kind h
    have h0 : ¬ (y.kind = 0) := by omega
    rw [decide_eq_false h0]
    cases decide (y.kind = p) <;> cases decide (y.kind ≤ 2) <;> simp
def lastK (l : List Sp) : Int := lkI 0 l
def headK : List Sp → Int
  | [] => 0
  | x :: _ => x.kind
theorem lkI_last : ∀ (l : List Sp) (p : Int) (h : l ≠ []), lkI p l = (l.getLast h).kind
  | [], _, h => absurd rfl h
  | [x], p, _ => rfl
  | x :: y :: r, p, _ => by
    show lkI x.kind (y :: r) = _
    rw [lkI_last (y :: r) x.kind (by simp)]
    exact congrArg Sp.kind (List.getLast_cons (by simp)).symm
theorem lastK_at (l : List Sp) (h : 0 < l.length) : lastK l = (l[l.length - 1]'(by omega)).kind := by
  have hne : l ≠ [] := fun e => by rw [e] at h; exact absurd h (Nat.not_lt_zero _)
  unfold lastK
  rw [lkI_last l 0 hne, List.getLast_eq_getElem]
theorem headK_at (l : List Sp) (h : 0 < l.length) : headK l = l[0].kind := by
  cases l with
  | nil => exact absurd h (Nat.not_lt_zero _)
  | cons x r => rfl
theorem rt_ends {l : List Sp} (h : rtB l = true) : endB l = true := by unfold rtB at h; rw [Bool.and_eq_true] at h; exact h.2
theorem endB_mid (a b : List Sp) (c : Sp) (hc : c.kind ≠ 1) (ha : endB a = true) (hb : endB b = true) : endB (a ++ c :: b) = true := by
  unfold endB at ha hb ⊢
  rw [Bool.and_eq_true] at ha hb ⊢
  constructor
  · cases a with
    | nil => simp [hdB, hc]
    | cons x r => simpa using ha.1
  · cases b with
    | nil => simp [ltB, hc]
    | cons y t =>
      have : (a ++ c :: (y :: t)).getLast? = (y :: t).getLast? := by
        rw [List.getLast?_append, List.getLast?_cons_cons]
        cases h : (y :: t).getLast? with
        | none => simp at h
        | some z => rfl
      rw [this]
      exact hb.2
/-- A Code between two lists. -/
theorem between_rt {a b : List Sp} {c : Sp} (ha : rtB a = true) (hb : rtB b = true) (hc : rtB [c] = true) (h2 : c.kind = 2) :
    rtB (a ++ c :: b) = !((!a.isEmpty && decide (lastK a = 2)) || (!b.isEmpty && decide (headK b = 2))) := by
  have h1 : okOne false false c = true := okAll_mem (rt_all hc) c (List.mem_cons_self ..)
  have e1 := endB_mid a b c (by omega) (rt_ends ha) (rt_ends hb)
  unfold rtB
  rw [e1, Bool.and_true, okAll_app, rt_all ha, Bool.true_and, okAll_cons, h1, Bool.true_and]
  have hle : decide (c.kind ≤ 2) = true := decide_eq_true (by omega)
  rw [hle, Bool.and_true]
  have hla : (!decide (c.kind = lkI 0 a)) = !(!a.isEmpty && decide (lastK a = 2)) := by
    cases a with
    | nil =>
      have : ¬ (c.kind = lkI 0 []) := by show ¬ (c.kind = 0); omega
      rw [decide_eq_false this]; rfl
    | cons x r =>
      unfold lastK
      rw [h2]
      simp [eq_comm]
  have hlb : okAll false false c.kind b = !(!b.isEmpty && decide (headK b = 2)) := by
    cases b with
    | nil => simp [okAll]
    | cons y t =>
      rw [okAll_first, rt_all hb, h2, Bool.true_and]
      show (!(decide (y.kind = 2) && decide (y.kind ≤ 2))) = !(true && decide (y.kind = 2))
      by_cases hy : y.kind = 2
      · rw [decide_eq_true hy, decide_eq_true (by omega)]; try rfl
      · rw [decide_eq_false hy]; try rfl
  rw [hla, hlb, Bool.not_or]
theorem lkI_app (p : Int) : ∀ (l : List Sp) (x : Sp), lkI p (l ++ [x]) = x.kind
  | [], x => rfl
  | y :: r, x => by rw [List.cons_append, lkI, lkI_app y.kind r x]
/-- A span doubled. -/
theorem twice_rt (a : List Sp) (i : Nat) (hi : i < a.length) (h2 : a[i].kind ≤ 2) : rtB (a.take (i + 1) ++ a[i] :: a.drop (i + 1)) = false := by
  have ht : a.take (i + 1) = a.take i ++ [a[i]] := List.take_succ_eq_append_getElem hi
  unfold rtB
  rw [okAll_app, okAll_cons, ht, lkI_app]
  have : (!(decide (a[i].kind = a[i].kind) && decide (a[i].kind ≤ 2))) = false := by rw [decide_eq_true rfl, decide_eq_true h2]; rfl
  rw [this]
  simp
/-- An Emph in an Emph; an Emph alone. -/
theorem emph_in {x : Sp} (h : x.kind = 3) : rtB [.mk 3 [] [x]] = false := by
  rw [rt_single 3 [] [x] (by decide) (by decide), okOne, if_neg (by decide), if_neg (by decide), if_pos rfl, okAll_emph, kdAll_cons, kdOne_eq, decide_eq_true h]
  simp
theorem emph_alone {l : List Sp} (hr : rtB l = true) {x : Sp} (hx : x ∈ l) (h : x.kind = 3) : rtB [x] = true := by
  have h1 := okAll_mem (rt_all hr) x hx
  obtain ⟨q, s, k⟩ := x
  have h' : q = 3 := h
  rw [rt_single q s k (by omega) (by omega)]
  exact h1

end Go.Proofs.Ytjgaggikgjibiaa.Sp
