import Derived.Test.YtihihgfcklkkhaaGreatDoorPkAD
import Derived.Test.YtihihgfcklkkhaaGreatDoorPkL
import Derived.Test.YtihihgfcklkkhaaGreatDoorPkAB
import Derived.Test.YtihihgfcklkkhaaGreatDoorPkU
import Derived.Test.YtihihgfcklkkhaaGreatDoorPkV
import Derived.Test.YtihihgfcklkkhaaGreatDoorPkC
import Derived.BigQuiet
import Derived.Deep.QuietTactic
namespace Go.Proofs.YtihihgfcklkkhaaGreatDoor.Pa
open Go.Proofs.YtihihgfcklkkhaaGreatDoor.Bk (Tx Bk Env fenceL spanK itemL dropBlank listL items kindOf closes unquote unitem inner define parse joinLF)
open Go.Proofs.YtihihgfcklkkhaaGreatDoor.Bt (dp)
open Go.Proofs.YtihihgfcklkkhaaGreatDoor.Ln (run mx trim)
open Go.Proofs.YtihihgfcklkkhaaGreatDoor.Kd (E0)
set_option linter.unusedVariables false
structure Tl (T : List Tx) : Prop where
  hd : T = [] ∨ ∃ t r, T = t :: r ∧ kindOf E0 t = 1
  it : itemL E0 T = ([], T)
  nx : dropBlank E0 T = [] ∨ ∃ t r, dropBlank E0 T = t :: r ∧ kindOf E0 t ≠ 6
variable {T : List Tx}
theorem span_tl (h : Tl T) (k : Nat) (hk : k ≠ 1) : ∀ l : List Tx, spanK E0 k (l ++ T) = ((spanK E0 k l).1, (spanK E0 k l).2 ++ T)
  | [] => by
    rcases h.hd with rfl | ⟨t, r, rfl, ht⟩
    · rfl
    · show spanK E0 k (t :: r) = ([], t :: r)
      rw [spanK, if_neg (by omega)]
  | s :: l => by
    rw [List.cons_append, spanK, spanK]
    split
    · rw [span_tl h k hk l]
    · rfl
theorem item_tl (h : Tl T) : ∀ l : List Tx, itemL E0 (l ++ T) = ((itemL E0 l).1, (itemL E0 l).2 ++ T)
  | [] => by rw [List.nil_append, h.it]; rfl
  | s :: l => by
    have ih := item_tl h l
    rw [List.cons_append, itemL, itemL]
    split
    · rfl
    · rw [ih]
      split
      · rfl
      · rfl
theorem blank_tl : ∀ r : List Tx, dropBlank E0 (r ++ T) = if dropBlank E0 r = [] then dropBlank E0 T else dropBlank E0 r ++ T
  | [] => by rw [List.nil_append]; rfl
  | s :: r => by
    rw [List.cons_append, dropBlank, dropBlank]
    split
    · exact blank_tl r
    · rw [if_neg (by simp)]; rfl
theorem lst_tl (h : Tl T) : ∀ (n : Nat) (s : Tx) (l : List Tx), l.length ≤ n → lst (s :: l ++ T) = ((lst (s :: l)).1, (lst (s :: l)).2 ++ T)
  | n, s, l, hn => by
    have hi := item_tl h l
    rw [List.cons_append]
    have hb : dropBlank E0 (itemL E0 (l ++ T)).2 = if dropBlank E0 (itemL E0 l).2 = [] then dropBlank E0 T else dropBlank E0 (itemL E0 l).2 ++ T := by rw [hi]; exact blank_tl _
    cases hd : dropBlank E0 (itemL E0 l).2 with
    | nil =>
      rw [hd, if_pos rfl] at hb
      rw [lst_one (s := s) (l := l ++ T) (by rw [hb]; exact h.nx), lst_one (s := s) (l := l) (Or.inl hd), hi]
    | cons t r =>
      rw [hd, if_neg (by simp)] at hb
      by_cases hk : kindOf E0 t = 6
      · rw [lst_more (s := s) (l := l ++ T) (t := t) (r := r ++ T) hb hk, lst_more (s := s) (l := l) hd hk, hi]
        have h4 := ((blank_suf E0 (itemL E0 l).2).trans (item_suf E0 l)).length_le
        rw [hd] at h4
        simp only [List.length_cons] at h4
        cases n with
        | zero => exact absurd h4 (by omega)
        | succ n =>
          have ih := lst_tl h n t r (by omega)
          rw [List.cons_append] at ih
          rw [ih]
      · rw [lst_one (s := s) (l := l ++ T) (by rw [hb]; exact Or.inr ⟨t, r ++ T, rfl, hk⟩), lst_one (s := s) (l := l) (Or.inr ⟨t, r, hd, hk⟩), hi]
def shut (n : Nat) (l : List Tx) : Bool := l.any (fun s => closes s n)
theorem fence_shut (n : Nat) : ∀ l : List Tx, shut n l = true → fenceL n (l ++ T) = ((fenceL n l).1, (fenceL n l).2 ++ T)
  | [], h => by cases h
  | s :: l, h => by
    rw [List.cons_append, fenceL, fenceL]
    by_cases hc : closes s n = true
    · rw [if_pos hc, if_pos hc]
    · rw [if_neg hc, if_neg hc]
      unfold shut at h
      rw [List.any_cons, Bool.or_eq_true] at h
      rw [fence_shut n l (h.resolve_left hc)]
theorem fence_open (n : Nat) : ∀ l : List Tx, shut n l = false → (fenceL n l).2 = [] ∧ fenceL n (l ++ T) = (l ++ (fenceL n T).1, (fenceL n T).2)
  | [], _ => ⟨rfl, rfl⟩
  | s :: l, h => by
    unfold shut at h
    rw [List.any_cons, Bool.or_eq_false_iff] at h
    have ih := fence_open n l h.2
    rw [List.cons_append, fenceL, fenceL, if_neg (by rw [h.1]; decide), if_neg (by rw [h.1]; decide), ih.2]
    exact ⟨ih.1, rfl⟩
def opn (s : Tx) (l : List Tx) : Bool := decide (kindOf E0 s = 4) && !shut (run 96 s) l
theorem val_tl (h : Tl T) {rec : Nat → List Tx → Option (List Bk)} {d : Nat} {s : Tx} {l : List Tx} (hk : kindOf E0 s ≠ 1) (ho : opn s l = false) : valB rec d s (l ++ T) = valB rec d s l ∧ restB s (l ++ T) = restB s l ++ T := by
  rcases kind_cases s hk with k | k | k | k | k | k | k
  · rw [val2 k, val2 k, rest1 (Or.inl k), rest1 (Or.inl k)]; exact ⟨rfl, rfl⟩
  · rw [val3 k, val3 k, rest1 (Or.inr (Or.inl k)), rest1 (Or.inr (Or.inl k))]; exact ⟨rfl, rfl⟩
  · have hs : shut (run 96 s) l = true := by
      unfold opn at ho
      rw [decide_eq_true k, Bool.true_and] at ho
      simpa using ho
    have hf := fence_shut (T := T) (run 96 s) l hs
    rw [val4 k, val4 k, rest4 k, rest4 k, hf]; exact ⟨rfl, rfl⟩
  · have hf := span_tl h 5 (by decide) (s :: l)
    rw [List.cons_append] at hf
    rw [val5 k, val5 k, rest5 k, rest5 k, quoted, hf]; exact ⟨rfl, rfl⟩
  · have hf := lst_tl h l.length s l (Nat.le_refl _)
    rw [List.cons_append] at hf
    rw [val6 k, val6 k, rest6 k, rest6 k, hf]; exact ⟨rfl, rfl⟩
  · rw [val7 k, val7 k, rest1 (Or.inr (Or.inr k)), rest1 (Or.inr (Or.inr k))]; exact ⟨rfl, rfl⟩
  · have hf := span_tl h 8 (by decide) (s :: l)
    rw [List.cons_append] at hf
    rw [val8 k, val8 k, rest8 k, rest8 k, paraL, hf]; exact ⟨rfl, rfl⟩
theorem opn_rest {s : Tx} {l : List Tx} (ho : opn s l = true) : kindOf E0 s = 4 ∧ restB s l = [] ∧ ∀ T, (fenceL (run 96 s) (l ++ T)).1 = l ++ (fenceL (run 96 s) T).1 ∧ restB s (l ++ T) = (fenceL (run 96 s) T).2 := by
  unfold opn at ho
  rw [Bool.and_eq_true, decide_eq_true_iff, Bool.not_eq_true'] at ho
  refine ⟨ho.1, ?_, fun T => ?_⟩
  · rw [rest4 ho.1]; exact (fence_open (T := []) _ l ho.2).1
  · rw [rest4 ho.1, (fence_open (T := T) _ l ho.2).2]; exact ⟨rfl, rfl⟩
theorem all_tail (h : Tl T) (d : Nat) : ∀ (n : Nat) (a : List Tx), a.length ≤ n → ∀ x, allE d a = some x → (∀ b, x.getLast? = some b → b.kind ≠ 4) → allE d (a ++ T) = (allE d T).map (x ++ ·) := by
  intro n
  by_cases hd : 16 < d
  · intro a _ x hx; rw [allE_deep hd] at hx; cases hx
  have hd' : d ≤ 16 := by omega
  induction n with
  | zero =>
    intro a hn x hx _
    obtain rfl : a = [] := List.eq_nil_of_length_eq_zero (by omega)
    rw [allE_nil hd'] at hx
    injection hx with hx
    subst hx
    rw [List.nil_append]
    cases allE d T <;> rfl
  | succ n ih =>
    intro a hn x hx hl
    cases a with
    | nil =>
      rw [allE_nil hd'] at hx
      injection hx with hx
      subst hx
      rw [List.nil_append]
      cases allE d T <;> rfl
    | cons s l =>
      simp only [List.length_cons] at hn
      by_cases hk : kindOf E0 s = 1
      · rw [allE_blank hk] at hx
        rw [List.cons_append, allE_blank hk]
        exact ih l (by omega) x hx hl
      · rw [allE_block hd' hk] at hx
        cases hv : valB allE d s l with
        | none => rw [hv] at hx; cases hx
        | some b =>
          rw [hv] at hx
          obtain ⟨x', hr, rfl⟩ := Option.map_eq_some_iff.1 hx
          by_cases ho : opn s l = true
          · exfalso
            obtain ⟨k4, hr0, _⟩ := opn_rest ho
            rw [hr0, allE_nil hd'] at hr
            injection hr with hr
            subst hr
            rw [val4 k4] at hv
            injection hv with hv
            subst hv
            exact hl _ rfl rfl
          · have ho' : opn s l = false := by simpa using ho
            obtain ⟨h1, h2⟩ := val_tl h (rec := allE) (d := d) hk ho'
            have hsf := (rest_suf s l).length_le
            rw [List.cons_append, allE_block hd' hk, h1, hv, h2]
            have := ih (restB s l) (by omega) x' hr (fun b' hb' => hl b' (by
              cases x' with
              | nil => cases hb'
              | cons y r => rw [List.getLast?_cons_cons]; exact hb'))
            simp only
            rw [this]
            cases allE d T <;> rfl
theorem all_tail_none (h : Tl T) (d : Nat) : ∀ (n : Nat) (a : List Tx), a.length ≤ n → allE d a = none → allE d (a ++ T) = none := by
  intro n
  by_cases hd : 16 < d
  · intro a _ _; exact allE_deep hd _
  have hd' : d ≤ 16 := by omega
  induction n with
  | zero =>
    intro a hn hx
    obtain rfl : a = [] := List.eq_nil_of_length_eq_zero (by omega)
    rw [allE_nil hd'] at hx
    cases hx
  | succ n ih =>
    intro a hn hx
    cases a with
    | nil => rw [allE_nil hd'] at hx; cases hx
    | cons s l =>
      simp only [List.length_cons] at hn
      by_cases hk : kindOf E0 s = 1
      · rw [allE_blank hk] at hx
        rw [List.cons_append, allE_blank hk]
        exact ih l (by omega) hx
      · by_cases ho : opn s l = true
        · exfalso
          obtain ⟨k4, hr0, _⟩ := opn_rest ho
          rw [allE_block hd' hk, val4 k4, hr0, allE_nil hd'] at hx
          cases hx
        · have ho' : opn s l = false := by simpa using ho
          obtain ⟨h1, h2⟩ := val_tl h (rec := allE) (d := d) hk ho'
          have hsf := (rest_suf s l).length_le
          rw [List.cons_append, allE_block hd' hk, h1, h2]
          rw [allE_block hd' hk] at hx
          cases hv : valB allE d s l with
          | none => rfl
          | some b =>
            rw [hv] at hx
            simp only at hx ⊢
            rw [ih (restB s l) (by omega) (by
              cases hr : allE d (restB s l) with
              | none => rfl
              | some r => rw [hr] at hx; cases hx)]
            rfl
theorem tl_blank : ∀ T : List Tx, (∀ t ∈ T, kindOf E0 t = 1) → Tl T
  | [], _ => ⟨Or.inl rfl, rfl, Or.inl rfl⟩
  | t :: r, h => by
    have ih := tl_blank r (fun x hx => h x (List.mem_cons_of_mem _ hx))
    have ht := h t (List.mem_cons_self ..)
    refine ⟨Or.inr ⟨t, r, rfl, ht⟩, ?_, ?_⟩
    · rw [itemL]
      split
      · rfl
      · rw [ih.it, if_pos ⟨rfl, ht⟩]
    · rw [dropBlank, if_pos ht]; exact ih.nx
theorem all_blank (d : Nat) (hd : d ≤ 16) : ∀ T : List Tx, (∀ t ∈ T, kindOf E0 t = 1) → allE d T = some []
  | [], _ => allE_nil hd
  | t :: r, h => by rw [allE_blank (h t (List.mem_cons_self ..))]; exact all_blank d hd r (fun x hx => h x (List.mem_cons_of_mem _ hx))
theorem no_close {t : Tx} (n : Nat) (h : kindOf E0 t = 1) : closes t n = false := by
  unfold closes
  have h1 := (Bk.kind_one (E := E0) t).1 h
  cases t with
  | nil => rfl
  | cons c r =>
    by_cases hc : c = 96
    · exfalso
      exact Bk.trim_ne (c := c) (by rw [hc]; decide) r h1
    · rw [Ln.run_no hc]
      simp
theorem shut_blank (n : Nat) (T : List Tx) (h : ∀ t ∈ T, kindOf E0 t = 1) : shut n T = false := by
  unfold shut
  rw [List.any_eq_false]
  exact fun x hx => by rw [no_close n (h x hx)]; decide
theorem all_end (hb : ∀ t ∈ T, kindOf E0 t = 1) (d : Nat) : ∀ (n : Nat) (a : List Tx), a.length ≤ n → ∀ x, allE d a = some x → ∃ y, allE d (a ++ T) = some y ∧ dp y = dp x ∧ y.length = x.length := by
  intro n
  have h := tl_blank T hb
  by_cases hd : 16 < d
  · intro a _ x hx; rw [allE_deep hd] at hx; cases hx
  have hd' : d ≤ 16 := by omega
  induction n with
  | zero =>
    intro a hn x hx
    obtain rfl : a = [] := List.eq_nil_of_length_eq_zero (by omega)
    rw [allE_nil hd'] at hx
    injection hx with hx
    subst hx
    exact ⟨[], by rw [List.nil_append]; exact all_blank d hd' T hb, rfl, rfl⟩
  | succ n ih =>
    intro a hn x hx
    cases a with
    | nil =>
      rw [allE_nil hd'] at hx
      injection hx with hx
      subst hx
      exact ⟨[], by rw [List.nil_append]; exact all_blank d hd' T hb, rfl, rfl⟩
    | cons s l =>
      simp only [List.length_cons] at hn
      by_cases hk : kindOf E0 s = 1
      · rw [allE_blank hk] at hx
        rw [List.cons_append, allE_blank hk]
        exact ih l (by omega) x hx
      · rw [allE_block hd' hk] at hx
        cases hv : valB allE d s l with
        | none => rw [hv] at hx; cases hx
        | some b =>
          rw [hv] at hx
          obtain ⟨x', hr, rfl⟩ := Option.map_eq_some_iff.1 hx
          by_cases ho : opn s l = true
          · obtain ⟨k4, hr0, hT⟩ := opn_rest ho
            rw [hr0, allE_nil hd'] at hr
            injection hr with hr
            subst hr
            rw [val4 k4] at hv
            injection hv with hv
            subst hv
            have hfo := fence_open (T := []) (run 96 s) T (shut_blank _ T hb)
            refine ⟨[.mk 4 0 (trim (s.drop (run 96 s))) (fenceL (run 96 s) (l ++ T)).1 [] []], ?_, rfl, rfl⟩
            rw [List.cons_append, allE_block hd' hk, val4 k4, (hT T).2, hfo.1, allE_nil hd']
            rfl
          · have ho' : opn s l = false := by simpa using ho
            obtain ⟨h1, h2⟩ := val_tl h (rec := allE) (d := d) hk ho'
            have hsf := (rest_suf s l).length_le
            obtain ⟨y, hy1, hy2, hy3⟩ := ih (restB s l) (by omega) x' hr
            refine ⟨b :: y, ?_, by rw [dp_cons, dp_cons, hy2], by rw [List.length_cons, List.length_cons, hy3]⟩
            rw [List.cons_append, allE_block hd' hk, h1, hv, h2]
            simp only
            rw [hy1]
            rfl
end Go.Proofs.YtihihgfcklkkhaaGreatDoor.Pa
namespace Go.Proofs.YtihihgfcklkkhaaGreatDoor.Pa
open Go.Proofs.YtihihgfcklkkhaaGreatDoor.Bk (Tx Bk Env fenceL spanK itemL dropBlank listL items kindOf closes unquote unitem inner define parse joinLF)
open Go.Proofs.YtihihgfcklkkhaaGreatDoor.Bt (dp)
open Go.Proofs.YtihihgfcklkkhaaGreatDoor.Ln (run mx trim)
open Go.Proofs.YtihihgfcklkkhaaGreatDoor.Kd (E0)
set_option linter.unusedVariables false
theorem gB5 (ks : List Bk) (h : dp ks ≤ 100) : gB (.mk 5 0 [] [] [] ks) = 1 + dp ks := by
  have := Bt.dp_ge ks
  show (if Bt.boxB 5 = true then IntKind.i64.wrap (1 + dp ks) else dp ks) = _
  rw [if_pos (by decide), IntKind.wrap_i64]
  omega
theorem gB6 (ks : List Bk) (h : dp ks ≤ 100) : gB (.mk 6 0 [] [] [] ks) = 1 + dp ks := by
  have := Bt.dp_ge ks
  show (if Bt.boxB 6 = true then IntKind.i64.wrap (1 + dp ks) else dp ks) = _
  rw [if_pos (by decide), IntKind.wrap_i64]
  omega
theorem gB7 (ks : List Bk) (h : dp ks ≤ 100) : gB (.mk 7 0 [] [] [] ks) = 1 + dp ks := by
  have := Bt.dp_ge ks
  show (if Bt.boxB 7 = true then IntKind.i64.wrap (1 + dp ks) else dp ks) = _
  rw [if_pos (by decide), IntKind.wrap_i64]
  omega
def lim (x : List Bk) (e : Nat) : Option (List Bk) := if dp x + (e : Int) ≤ 16 then some x else none
theorem gB_deep {d : Nat} {s : Tx} {l : List Tx} {b : Bk} (hk : kindOf E0 s ≠ 1) (hv : valB allE d s l = some b) (h : b.kind ≠ 5) (h6 : b.kind ≠ 6) : gB b = 0 := by
  rcases kind_cases s hk with k | k | k | k | k | k | k
  · rw [val2 k] at hv; injection hv with hv; subst hv; rfl
  · rw [val3 k] at hv; injection hv with hv; subst hv; rfl
  · rw [val4 k] at hv; injection hv with hv; subst hv; rfl
  · rw [val5 k] at hv; obtain ⟨_, _, hv⟩ := Option.map_eq_some_iff.1 hv; subst hv; exact absurd rfl h
  · rw [val6 k] at hv; obtain ⟨_, _, hv⟩ := Option.map_eq_some_iff.1 hv; subst hv; exact absurd rfl h6
  · rw [val7 k] at hv; obtain ⟨_, _, hv⟩ := Option.map_eq_some_iff.1 hv; subst hv; rfl
  · rw [val8 k] at hv; injection hv with hv; subst hv; rfl
theorem items_shift {d e : Nat} : ∀ (xs : List (List Tx)) (ks : List Bk), (∀ x ∈ xs, ∀ k, allE d x = some k → dp k ≤ 16 ∧ allE e x = lim k e) → items (allE d) xs = some ks → dp ks ≤ 17 ∧ ((dp ks + (e : Int) ≤ 17 ∧ items (allE e) xs = some ks) ∨ (17 < dp ks + (e : Int) ∧ (xs = [] ∨ items (allE e) xs = none)))
  | [], ks, _, h => by
    unfold items at h
    injection h with h
    subst h
    rw [dp_nil]
    refine ⟨by decide, ?_⟩
    by_cases he : (0 : Int) + e ≤ 17
    · exact Or.inl ⟨he, rfl⟩
    · exact Or.inr ⟨by omega, Or.inl rfl⟩
  | x :: r, ks, hx, h => by
    unfold items at h
    cases ha : allE d x with
    | none => rw [ha] at h; cases h
    | some k =>
      rw [ha] at h
      obtain ⟨ks', h2, rfl⟩ := Option.map_eq_some_iff.1 h
      obtain ⟨h3a, h3⟩ := items_shift r ks' (fun y hy => hx y (List.mem_cons_of_mem _ hy)) h2
      obtain ⟨h4, h5⟩ := hx x (List.mem_cons_self ..) k ha
      have h6 := Bt.dp_ge k
      have h7 := Bt.dp_ge ks'
      rw [dp_cons, gB7 k (by omega)]
      refine ⟨by omega, ?_⟩
      unfold items
      rw [h5]
      unfold lim
      by_cases hk : dp k + (e : Int) ≤ 16
      · rw [if_pos hk]
        rcases h3 with ⟨h8, h9⟩ | ⟨h8, h9⟩
        · exact Or.inl ⟨by omega, by rw [h9]; rfl⟩
        · rcases h9 with h9 | h9
          · subst h9
            unfold items at h2
            injection h2 with h2
            subst h2
            rw [dp_nil] at h8
            omega
          · exact Or.inr ⟨by omega, Or.inr (by rw [h9]; rfl)⟩
      · rw [if_neg hk]
        exact Or.inr ⟨by omega, Or.inr rfl⟩
theorem all_shift (d : Nat) (l : List Tx) (x : List Bk) (h : allE d l = some x) : ∀ e, d ≤ e → allE e l = if e ≤ 16 then lim x e else none := by
  refine all_ind (Q := fun d l x => ∀ e, d ≤ e → allE e l = if e ≤ 16 then lim x e else none) ?_ ?_ ?_ _ d l x (Nat.le_refl _) h
  · intro d hd e he
    by_cases h16 : e ≤ 16
    · rw [allE_nil h16, if_pos h16, lim, dp_nil, if_pos (by omega)]
    · rw [allE_deep (by omega), if_neg h16]
  · intro d s l bs _ hk _ ih e he
    rw [allE_blank hk]
    exact ih e he
  · intro d s l b bs hd hk hv hr ih h5 h6 e he
    by_cases h16 : e ≤ 16
    · rw [if_pos h16, allE_block h16 hk]
      have ihe := ih e he
      rw [if_pos h16] at ihe
      have hdr := all_deep d _ bs hr
      have hbs := Bt.dp_ge bs
      have hval : gB b ≤ 17 ∧ ((gB b + (e : Int) ≤ 16 ∧ valB allE e s l = some b) ∨ (16 < gB b + (e : Int) ∧ valB allE e s l = none)) := by
        by_cases hb5 : b.kind = 5
        · have k5 : kindOf E0 s = 5 := by
            rcases kind_cases s hk with k | k | k | k | k | k | k
            · rw [val2 k] at hv; injection hv with hv; subst hv; simp [Bk.kind] at hb5
            · rw [val3 k] at hv; injection hv with hv; subst hv; simp [Bk.kind] at hb5
            · rw [val4 k] at hv; injection hv with hv; subst hv; simp [Bk.kind] at hb5
            · exact k
            · rw [val6 k] at hv; obtain ⟨_, _, hv⟩ := Option.map_eq_some_iff.1 hv; subst hv; simp [Bk.kind] at hb5
            · rw [val7 k] at hv; obtain ⟨_, _, hv⟩ := Option.map_eq_some_iff.1 hv; subst hv; simp [Bk.kind] at hb5
            · rw [val8 k] at hv; injection hv with hv; subst hv; simp [Bk.kind] at hb5
          rw [val5 k5] at hv
          obtain ⟨ks, ha, rfl⟩ := Option.map_eq_some_iff.1 hv
          have hk1 := all_deep (d + 1) _ ks ha
          have hk2 := Bt.dp_ge ks
          rw [val5 k5, h5 ks ha (e + 1) (by omega), gB5 ks (by omega)]
          refine ⟨by omega, ?_⟩
          by_cases h17 : e + 1 ≤ 16
          · rw [if_pos h17]
            unfold lim
            by_cases hc : dp ks + ((e + 1 : Nat) : Int) ≤ 16
            · rw [if_pos hc]; exact Or.inl ⟨by omega, rfl⟩
            · rw [if_neg hc]; exact Or.inr ⟨by omega, rfl⟩
          · rw [if_neg h17]; exact Or.inr ⟨by omega, rfl⟩
        · by_cases hb6 : b.kind = 6
          · have k6 := val_six hk hv hb6
            rw [val6 k6] at hv
            obtain ⟨ks, ha, rfl⟩ := Option.map_eq_some_iff.1 hv
            have hne : (lst (s :: l)).1 ≠ [] := by
              rcases lst_cases s l with ⟨h, _⟩ | ⟨t, r, _, _, h⟩
              · rw [h]; simp
              · rw [h]; simp
            have hit := items_shift (e := e + 2) (lst (s :: l)).1 ks (fun x hx k' hk' => by
              have hd2 := all_deep (d + 2) x k' hk'
              refine ⟨by omega, ?_⟩
              rw [h6 x hx k' hk' (e + 2) (by omega)]
              by_cases h18 : e + 2 ≤ 16
              · rw [if_pos h18]
              · rw [if_neg h18, lim, if_neg]
                have := Bt.dp_ge k'
                omega) ha
            have hk2 := Bt.dp_ge ks
            rw [val6 k6, gB6 ks (by omega)]
            refine ⟨?_, ?_⟩
            · have hd2 := items_deep (14 - d) (by
                have : d + 2 ≤ 16 := by
                  rcases Nat.lt_or_ge 16 (d + 2) with h' | h'
                  · exfalso
                    cases hx : (lst (s :: l)).1 with
                    | nil => exact hne hx
                    | cons x r =>
                      rw [hx] at ha
                      unfold items at ha
                      rw [allE_deep h'] at ha
                      cases ha
                  · exact h'
                omega) (by omega) _ ks (fun x hx k' hk' => by have := all_deep (d + 2) x k' hk'; omega) ha
              omega
            · rcases hit.2 with ⟨h8, h9⟩ | ⟨h8, h9⟩
              · exact Or.inl ⟨by omega, by rw [h9]; rfl⟩
              · rcases h9 with h9 | h9
                · exact absurd h9 hne
                · exact Or.inr ⟨by omega, by rw [h9]; rfl⟩
          · have h0 := gB_deep hk hv hb5 hb6
            refine ⟨by omega, Or.inl ⟨by omega, ?_⟩⟩
            rcases kind_cases s hk with k | k | k | k | k | k | k
            · rw [val2 k] at hv ⊢; exact hv
            · rw [val3 k] at hv ⊢; exact hv
            · rw [val4 k] at hv ⊢; exact hv
            · rw [val5 k] at hv; obtain ⟨_, _, hv⟩ := Option.map_eq_some_iff.1 hv; subst hv; exact absurd rfl hb5
            · rw [val6 k] at hv; obtain ⟨_, _, hv⟩ := Option.map_eq_some_iff.1 hv; subst hv; exact absurd rfl hb6
            · rw [val7 k] at hv ⊢; exact hv
            · rw [val8 k] at hv ⊢; exact hv
      rw [lim, dp_cons]
      rcases hval.2 with ⟨h8, h9⟩ | ⟨h8, h9⟩
      · rw [h9, ihe]
        unfold lim
        by_cases hc : dp bs + (e : Int) ≤ 16
        · rw [if_pos hc, if_pos (by omega)]; rfl
        · rw [if_neg hc, if_neg (by omega)]; rfl
      · rw [h9, if_neg (by omega)]
    · rw [if_neg h16, allE_deep (by omega)]
theorem all_up (d : Nat) (l : List Tx) (x : List Bk) (h : allE d l = some x) : ∀ e, e ≤ d → allE e l = some x := by
  have hit : ∀ (d e : Nat) (xs : List (List Tx)) (ks : List Bk), (∀ x ∈ xs, ∀ k, allE d x = some k → allE e x = some k) → items (allE d) xs = some ks → items (allE e) xs = some ks := by
    intro d e xs
    induction xs with
    | nil =>
      intro ks _ h
      unfold items at h ⊢
      exact h
    | cons x r ih =>
      intro ks hx h
      unfold items at h ⊢
      cases ha : allE d x with
      | none => rw [ha] at h; cases h
      | some k =>
        rw [ha] at h
        obtain ⟨ks', h2, rfl⟩ := Option.map_eq_some_iff.1 h
        rw [hx x (List.mem_cons_self ..) k ha]
        simp only
        rw [ih ks' (fun y hy => hx y (List.mem_cons_of_mem _ hy)) h2]
        rfl
  refine all_ind (Q := fun d l x => ∀ e, e ≤ d → allE e l = some x) ?_ ?_ ?_ _ d l x (Nat.le_refl _) h
  · intro d hd e he; exact allE_nil (by omega)
  · intro d s l bs _ hk _ ih e he; rw [allE_blank hk]; exact ih e he
  · intro d s l b bs hd hk hv hr ih h5 h6 e he
    rw [allE_block (by omega) hk]
    have hve : valB allE e s l = some b := by
      rcases kind_cases s hk with k | k | k | k | k | k | k
      · rw [val2 k] at hv ⊢; exact hv
      · rw [val3 k] at hv ⊢; exact hv
      · rw [val4 k] at hv ⊢; exact hv
      · rw [val5 k] at hv ⊢
        obtain ⟨ks, ha, rfl⟩ := Option.map_eq_some_iff.1 hv
        rw [h5 ks ha (e + 1) (by omega)]; rfl
      · rw [val6 k] at hv ⊢
        obtain ⟨ks, ha, rfl⟩ := Option.map_eq_some_iff.1 hv
        rw [hit (d + 2) (e + 2) _ ks (fun x hx k' hk' => h6 x hx k' hk' (e + 2) (by omega)) ha]; rfl
      · rw [val7 k] at hv ⊢; exact hv
      · rw [val8 k] at hv ⊢; exact hv
    rw [hve]
    simp only
    rw [ih e he]
    rfl
theorem all_none (d : Nat) (l : List Tx) (h : allE d l = none) (e : Nat) (he : d ≤ e) : allE e l = none := by
  cases hx : allE e l with
  | none => rfl
  | some x => rw [all_up e l x hx d he] at h; cases h
end Go.Proofs.YtihihgfcklkkhaaGreatDoor.Pa
namespace Go.Proofs.YtihihgfcklkkhaaGreatDoor.Pa
open Go.Proofs.YtihihgfcklkkhaaGreatDoor.Bk (Tx Bk Env fenceL spanK itemL dropBlank listL items kindOf closes unquote unitem inner define parse joinLF)
open Go.Proofs.YtihihgfcklkkhaaGreatDoor.Bt (dp)
open Go.Proofs.YtihihgfcklkkhaaGreatDoor.Ln (run mx trim run_no)
open Go.Proofs.YtihihgfcklkkhaaGreatDoor.Kd (E0)
set_option linter.unusedVariables false
theorem kind_62 (t : Tx) : kindOf E0 (62 :: t) = 5 := by
  unfold kindOf
  rw [if_neg (Bk.trim_ne (by decide) t), Bk.run_head (by decide), Bk.run_head (by decide), Bk.run_head (by decide), if_neg (by omega), if_neg (by omega), if_neg (by omega), if_pos (show (62 :: t).head? = some 62 from rfl)]
def mq (s : Tx) : Tx := 62 :: 32 :: s
def mi (s : Tx) : Tx := 32 :: 32 :: s
def mk1 (s : Tx) : Tx := 45 :: 32 :: s
theorem unq_mq (s : Tx) : unquote (mq s) = s := rfl
theorem span_mq (l : List Tx) : spanK E0 5 (l.map mq) = (l.map mq, []) := by
  induction l with
  | nil => rfl
  | cons s l ih =>
    rw [List.map_cons, spanK, if_pos (show kindOf E0 (mq s) = 5 from kind_62 _), ih]
theorem quote_all (s : Tx) (l : List Tx) : allE 0 ((s :: l).map mq) = (allE 1 (s :: l)).map (fun k => [.mk 5 0 [] [] [] k]) := by
  have hk : kindOf E0 (mq s) = 5 := kind_62 _
  have hsp := span_mq (s :: l)
  rw [List.map_cons] at hsp ⊢
  have hq : quoted (mq s) (l.map mq) = s :: l := by
    unfold quoted
    rw [hsp, List.map_cons, List.map_map]
    show s :: l.map (unquote ∘ mq) = s :: l
    have : unquote ∘ mq = id := funext unq_mq
    rw [this, List.map_id]
  rw [allE_block (by omega) (by rw [hk]; decide), val5 hk, hq, rest5 hk, hsp]
  cases allE (0 + 1) (s :: l) with
  | none => rfl
  | some k =>
    show (allE 0 []).map _ = _
    rw [allE_nil (by omega)]
    rfl
theorem kind_mi (s : Tx) : kindOf E0 (mi s) = 1 ↔ kindOf E0 s = 1 := by
  rw [Bk.kind_one, Bk.kind_one]
  unfold mi
  rw [Bk.trim_sp, Bk.trim_sp]
theorem inner_mi (s : Tx) : inner (mi s) = some s := rfl
theorem cut_blank : ∀ r : List Tx, ∃ p T, r = p ++ T ∧ (∀ t ∈ T, kindOf E0 t = 1) ∧ (p = [] ∨ ∃ q s, p = q ++ [s] ∧ kindOf E0 s ≠ 1)
  | [] => ⟨[], [], rfl, (fun t h => by cases h), Or.inl rfl⟩
  | s :: r => by
    obtain ⟨p, T, h1, h2, h3⟩ := cut_blank r
    rcases h3 with rfl | ⟨q, z, rfl, hz⟩
    · by_cases hk : kindOf E0 s = 1
      · refine ⟨[], s :: r, rfl, fun t ht => ?_, Or.inl rfl⟩
        rcases List.mem_cons.1 ht with rfl | ht
        · exact hk
        · exact h2 t (by rw [← List.nil_append T, ← h1]; exact ht)
      · exact ⟨[s], r, rfl, fun t ht => h2 t (by rw [← List.nil_append T, ← h1]; exact ht), Or.inr ⟨[], s, rfl, hk⟩⟩
    · exact ⟨s :: (q ++ [z]), T, by rw [List.cons_append, ← h1], h2, Or.inr ⟨s :: q, z, rfl, hz⟩⟩
theorem item_mi : ∀ p : List Tx, (p = [] ∨ ∃ q s, p = q ++ [s] ∧ kindOf E0 s ≠ 1) → itemL E0 (p.map mi) = (p, [])
  | [], _ => rfl
  | s :: p, h => by
    have hrest : p = [] ∨ ∃ q z, p = q ++ [z] ∧ kindOf E0 z ≠ 1 := by
      rcases h with h | ⟨q, z, h, hz⟩
      · cases h
      · cases q with
        | nil =>
          rw [List.nil_append] at h
          injection h with h1 h2
          exact Or.inl h2
        | cons y q =>
          rw [List.cons_append] at h
          injection h with h1 h2
          exact Or.inr ⟨q, z, h2, hz⟩
    have ih := item_mi p hrest
    rw [List.map_cons, itemL, inner_mi]
    simp only
    rw [ih]
    have : ¬ (p = [] ∧ kindOf E0 (mi s) = 1) := by
      rintro ⟨rfl, hk⟩
      rcases h with h | ⟨q, z, h, hz⟩
      · cases h
      · cases q with
        | nil =>
          rw [List.nil_append] at h
          injection h with h1 h2
          subst h1
          exact hz ((kind_mi s).1 hk)
        | cons y q =>
          rw [List.cons_append] at h
          injection h with h1 h2
          exact absurd h2.symm (by simp)
    rw [if_neg this]
def itl : List Tx → List Tx
  | [] => []
  | s :: r => mk1 s :: r.map mi
theorem itl_all (s : Tx) (p T : List Tx) (hT : ∀ t ∈ T, kindOf E0 t = 1) (hp : p = [] ∨ ∃ q z, p = q ++ [z] ∧ kindOf E0 z ≠ 1) : allE 0 (itl (s :: (p ++ T))) = (allE 2 (s :: p)).map (fun k => [.mk 6 0 [] [] [] [.mk 7 0 [] [] [] k]]) := by
  have hk : kindOf E0 (mk1 s) = 6 := Bk.kind_item E0 s
  have hTm : ∀ t ∈ T.map mi, kindOf E0 t = 1 := fun t ht => by
    obtain ⟨y, hy, rfl⟩ := List.mem_map.1 ht
    exact (kind_mi y).2 (hT y hy)
  have hit : itemL E0 ((p ++ T).map mi) = (p, T.map mi) := by
    rw [List.map_append, item_tl (tl_blank _ hTm), item_mi p hp]
    rfl
  have hdb : dropBlank E0 (T.map mi) = [] := (fun (L : List Tx) (h : ∀ t ∈ L, kindOf E0 t = 1) => (show dropBlank E0 L = [] from by
    induction L with
    | nil => rfl
    | cons t r ih => rw [dropBlank, if_pos (h t (List.mem_cons_self ..))]; exact ih (fun x hx => h x (List.mem_cons_of_mem _ hx)))) _ hTm
  have hl : lst (mk1 s :: (p ++ T).map mi) = ([s :: p], T.map mi) := by
    rw [lst_one (Or.inl (by rw [hit]; exact hdb)), hit]
    rfl
  unfold itl
  rw [allE_block (by omega) (by rw [hk]; decide), val6 hk, hl, rest6 hk, hl]
  unfold items
  cases allE (0 + 2) (s :: p) with
  | none => rfl
  | some k =>
    show (allE 0 (T.map mi)).map _ = _
    rw [all_blank 0 (by omega) _ hTm]
    rfl
theorem quotes_all (s : Tx) (r : List Tx) :
    (∀ x, allE 0 (s :: r) = some x → allE 0 ((s :: r).map mq) = (if dp x + 1 ≤ 16 then some [.mk 5 0 [] [] [] x] else none) ∧
      (∃ x', allE 0 (itl (s :: r)) = (if dp x + 2 ≤ 16 then some [.mk 6 0 [] [] [] [.mk 7 0 [] [] [] x']] else none) ∧ ((∀ z, (s :: r).getLast? = some z → kindOf E0 z ≠ 1) → x' = x))) ∧
    (allE 0 (s :: r) = none → allE 0 ((s :: r).map mq) = none ∧ allE 0 (itl (s :: r)) = none) := by
  obtain ⟨p, T, h1, hT, hp⟩ := cut_blank r
  have hsr : s :: r = (s :: p) ++ T := by rw [h1]; rfl
  constructor
  · intro x hx
    have hd := all_deep 0 _ x hx
    have hd0 := Bt.dp_ge x
    refine ⟨?_, ?_⟩
    · rw [quote_all, all_shift 0 _ x hx 1 (by omega), if_pos (by omega), lim]
      by_cases hc : dp x + 1 ≤ 16
      · rw [if_pos hc, if_pos (by omega)]; rfl
      · rw [if_neg hc, if_neg (by omega)]; rfl
    · cases hx' : allE 0 (s :: p) with
      | none =>
        exfalso
        have := all_tail_none (tl_blank T hT) 0 (s :: p).length (s :: p) (Nat.le_refl _) hx'
        rw [hsr, this] at hx
        cases hx
      | some x' =>
        obtain ⟨y, hy1, hy2, _⟩ := all_end hT 0 (s :: p).length (s :: p) (Nat.le_refl _) x' hx'
        rw [← hsr, hx] at hy1
        injection hy1 with hy1
        subst hy1
        refine ⟨x', ?_, fun hz => ?_⟩
        · rw [h1, itl_all s p T hT hp, all_shift 0 _ x' hx' 2 (by omega), if_pos (by omega), lim, ← hy2]
          by_cases hc : dp x + 2 ≤ 16
          · rw [if_pos hc, if_pos (by omega)]; rfl
          · rw [if_neg hc, if_neg (by omega)]; rfl
        · have hT0 : T = [] := by
            cases T with
            | nil => rfl
            | cons t T =>
              exfalso
              obtain ⟨z, hz1⟩ : ∃ z, (t :: T).getLast? = some z := by
                cases h : (t :: T).getLast? with
                | none => simp at h
                | some z => exact ⟨z, rfl⟩
              refine hz z ?_ (hT z (List.mem_of_getLast? hz1))
              rw [hsr, List.getLast?_append, hz1]
              rfl
          subst hT0
          rw [List.append_nil] at hsr
          rw [hsr, hx'] at hx
          injection hx
  · intro hx
    refine ⟨by rw [quote_all, all_none 0 _ hx 1 (by omega)]; rfl, ?_⟩
    have hx' : allE 0 (s :: p) = none := by
      cases hx' : allE 0 (s :: p) with
      | none => rfl
      | some x' =>
        obtain ⟨y, hy1, _⟩ := all_end hT 0 (s :: p).length (s :: p) (Nat.le_refl _) x' hx'
        rw [← hsr, hx] at hy1
        cases hy1
    rw [h1, itl_all s p T hT hp, all_none 0 _ hx' 2 (by omega)]
    rfl
def rul : Tx := [45, 45, 45]
theorem kind_rul : kindOf E0 rul = 3 := Bk.kind_rule E0
theorem rule_tl (b : List Tx) : Tl ([] :: rul :: [] :: b) := by
  have h0 : kindOf E0 ([] : Tx) = 1 := rfl
  have hi : inner rul = none := by decide
  refine ⟨Or.inr ⟨[], _, rfl, h0⟩, ?_, Or.inr ⟨rul, [] :: b, ?_, by rw [kind_rul]; decide⟩⟩
  · have h1 : itemL E0 (rul :: [] :: b) = ([], rul :: [] :: b) := by rw [itemL, hi]
    rw [itemL]
    have hin : inner ([] : Tx) = some [] := by decide
    rw [hin]
    simp only
    rw [h1, if_pos ⟨rfl, h0⟩]
  · rw [dropBlank, if_pos h0, dropBlank, if_neg (by rw [kind_rul]; decide)]
theorem rule_all (b : List Tx) (y : List Bk) (h : allE 0 b = some y) : allE 0 ([] :: rul :: [] :: b) = some (.mk 3 0 [] [] [] [] :: y) := by
  have h0 : kindOf E0 ([] : Tx) = 1 := rfl
  rw [allE_blank h0, allE_block (by omega) (by rw [kind_rul]; decide), val3 kind_rul, rest1 (Or.inr (Or.inl kind_rul)), allE_blank h0, h]
  rfl
theorem joins_all (a b : List Tx) (x y : List Bk) (hx : allE 0 a = some x) (hy : allE 0 b = some y) (hl : ∀ z, x.getLast? = some z → z.kind ≠ 4) : allE 0 (a ++ [] :: rul :: [] :: b) = some (x ++ .mk 3 0 [] [] [] [] :: y) := by
  rw [all_tail (rule_tl b) 0 a.length a (Nat.le_refl _) x hx hl, rule_all b y hy]
  rfl
theorem ends_front (l : List Tx) : allE 0 ([] :: [32] :: l) = allE 0 l := by
  rw [allE_blank rfl, allE_blank (by decide)]
theorem ends_back (l : List Tx) : (allE 0 l = none → allE 0 (l ++ [[]]) = none) ∧ ∀ x, allE 0 l = some x → ∃ y, allE 0 (l ++ [[]]) = some y ∧ ((∀ z, x.getLast? = some z → z.kind ≠ 4) → y = x) := by
  have hT : ∀ t ∈ ([[]] : List Tx), kindOf E0 t = 1 := fun t ht => by rw [List.mem_singleton] at ht; subst ht; rfl
  refine ⟨fun h => all_tail_none (tl_blank _ hT) 0 l.length l (Nat.le_refl _) h, fun x hx => ?_⟩
  obtain ⟨y, hy, _⟩ := all_end hT 0 l.length l (Nat.le_refl _) x hx
  refine ⟨y, hy, fun hl => ?_⟩
  have h1 := all_tail (tl_blank _ hT) 0 l.length l (Nat.le_refl _) x hx hl
  rw [hy, all_blank 0 (by omega) _ hT] at h1
  simpa using h1
end Go.Proofs.YtihihgfcklkkhaaGreatDoor.Pa
namespace Go.Proofs.YtihihgfcklkkhaaGreatDoor.Pa
open Go.RowKit
open Go.Proofs.YtihihgfcklkkhaaGreatDoor.Tk (S S_size S_list S_app get_lt Rd)
open Go.Proofs.YtihihgfcklkkhaaGreatDoor.Ln (jn jn_cons2 drop_at split_jn_true split_jn_false)
open Go.Proofs.YtihihgfcklkkhaaGreatDoor.Sp (V V_app V_nil Wt Wt_app Wt_nil)
open Go.Proofs.YtihihgfcklkkhaaGreatDoor.Bk (Tx Bk)
open Go.Proofs.YtihihgfcklkkhaaGreatDoor.Utf (chk)
set_option linter.unusedVariables false
set_option maxHeartbeats 800000 in
theorem rjoinW_any (v : Value) (xs : List (List UInt8)) (e : Bool) (w : World) (h : Rd w v xs) (hfe : xs.length ≤ 1000 ∧ ∀ x ∈ xs, x.length ≤ 1000) :
    Calls Tryz.prog 25 #[v, .bool e] w fun r w' => r = .returned (.string (S (jn xs e))) ∧ w = w' := by
  obtain ⟨ao, ca, rfl, hca, hax⟩ := h
  by_cases h0 : xs = []
  · have Hf : Hid (jn xs e = []) := Lib.hid (by rw [h0]; rfl)
    have hz : xs.length = 0 := by rw [h0]; rfl
    rw [hz]
    clear hax h0 hfe
    go_enter Tryz.func25, Tryz.ntmps25
    go_wp2_with fail
    go_loop [5, 9] (fun s i => s = .string (S []) ∧ i = .int .i64 0) (fun _ i => 0)
    case atStart => exact ⟨rfl, rfl⟩
    case round =>
      obtain ⟨rfl, rfl⟩ := hrel
      go_wp2_with fail
      go_ret
      exact ⟨by rw [Hf.out]; rfl, rfl⟩
  · rcases hax with hax | ⟨b1, o1, rfl, hb1, hc1⟩
    · exact absurd hax h0
    have H1 := Lib.hid hc1
    have H2 := Lib.hid hfe.2
    have hx : xs.length ≤ 1000 := hfe.1
    clear hc1 h0 hfe
    go_enter Tryz.func25, Tryz.ntmps25
    go_wp2_with fail
    go_loop [5, 9] (fun s i => ∃ (k : Nat) (acc : List UInt8), k ≤ xs.length ∧ i = .int .i64 k ∧ s = .string (S acc) ∧ acc.length ≤ k * 1001 ∧ Hid (jn xs e = acc ++ jn (xs.drop k) e)) (fun _ i => xs.length - (intOf i).toNat)
    case atStart => exact ⟨0, [], Nat.zero_le _, rfl, rfl, Nat.zero_le _, Lib.hid (by simp)⟩
    case round =>
      obtain ⟨k, acc, hk, rfl, rfl, ha, HT⟩ := hrel
      have hs0 : (S acc).size ≤ 1001000 := by rw [S_size]; omega
      by_cases hlt : k < xs.length
      · have k1 : w.cell? ⟨b1, o1 + k, none⟩ = some (.string (S xs[k])) := H1.out k _ (get_lt hlt)
        have hs1 : (S xs[k]).size ≤ 1000 := by rw [S_size]; exact H2.out _ (List.getElem_mem hlt)
        have hs2 : xs[k].length ≤ 1000 := H2.out _ (List.getElem_mem hlt)
        have hd := drop_at hlt
        have happ := S_app acc xs[k]
        have hs3 : (S acc ++ S xs[k]).size ≤ 1002000 := by rw [ByteArray.size_append]; omega
        by_cases hn : k + 1 < xs.length
        · have HT2 : Hid (jn xs e = (acc ++ xs[k] ++ [10]) ++ jn (xs.drop (k + 1)) e) := Lib.hid (by
            rw [HT.out, hd, drop_at hn, jn_cons2]; simp)
          have d1 : decide ((k : Int) + 1 < (xs.length : Int)) = true := decide_eq_true (by omega)
          have Hap : Hid (S acc ++ S xs[k] ++ ⟨#[10]⟩ = S (acc ++ xs[k] ++ [10])) := Lib.hid (by rw [happ]; exact S_app _ [10])
          clear HT hd happ
          generalize xs[k] = x at *
          cases e with
          | true =>
            go_wp2_with fail
            go_round
            case rel => exact ⟨k + 1, _, by omega, by go_num, by rw [Hap.out], by simp; omega, HT2⟩
            case measure => simp [intOf]; omega
          | false =>
            go_wp2_with fail
            go_round
            case rel => exact ⟨k + 1, _, by omega, by go_num, by rw [Hap.out], by simp; omega, HT2⟩
            case measure => simp [intOf]; omega
        · have hd2 : xs.drop (k + 1) = [] := List.drop_eq_nil_of_le (by omega)
          have d1 : decide ((k : Int) + 1 < (xs.length : Int)) = false := decide_eq_false (by omega)
          cases e with
          | true =>
            have HT2 : Hid (jn xs true = (acc ++ xs[k] ++ [10]) ++ jn (xs.drop (k + 1)) true) := Lib.hid (by rw [HT.out, hd, hd2]; simp [jn])
            have Hap : Hid (S acc ++ S xs[k] ++ ⟨#[10]⟩ = S (acc ++ xs[k] ++ [10])) := Lib.hid (by rw [happ]; exact S_app _ [10])
            clear HT hd happ
            generalize xs[k] = x at *
            go_wp2_with fail
            go_round
            case rel => exact ⟨k + 1, _, by omega, by go_num, by rw [Hap.out], by simp; omega, HT2⟩
            case measure => simp [intOf]; omega
          | false =>
            have HT2 : Hid (jn xs false = (acc ++ xs[k]) ++ jn (xs.drop (k + 1)) false) := Lib.hid (by rw [HT.out, hd, hd2]; simp [jn])
            have Hap : Hid (S acc ++ S xs[k] = S (acc ++ xs[k])) := Lib.hid happ
            clear HT hd happ
            generalize xs[k] = x at *
            go_wp2_with fail
            go_round
            case rel => exact ⟨k + 1, _, by omega, by go_num, by rw [Hap.out], by simp; omega, HT2⟩
            case measure => simp [intOf]; omega
      · have Hf : Hid (jn xs e = acc) := Lib.hid (by rw [HT.out, List.drop_eq_nil_of_le (by omega)]; simp [jn])
        clear HT
        go_wp2_with fail
        go_ret
        exact ⟨by rw [Hf.out]; rfl, rfl⟩
theorem wt_chk {t : Tx} (h : Wt t) (hl : t.length ≤ 1000000) : chk (S t) = 0 := by
  refine (Utf.chk_zero_iff (S t)).2 ⟨by rw [S_size]; omega, ?_, h.1⟩
  unfold Utf.zeroB
  rw [S_list]
  exact decide_eq_false h.2.1
theorem jn_wt (e : Bool) : ∀ l : List Tx, (∀ x ∈ l, Lt x) → Wt (jn l e)
  | [], _ => Wt_nil
  | [x], h => by
    have hx := h x (List.mem_cons_self ..)
    cases e with
    | true => exact Wt_app hx.1 ⟨Sp.V_one (by decide), by decide, by decide⟩
    | false => exact hx.1
  | x :: y :: r, h => by
    have hx := h x (List.mem_cons_self ..)
    rw [jn_cons2]
    exact Wt_app hx.1 (Wt_app (a := [10]) ⟨Sp.V_one (by decide), by decide, by decide⟩ (jn_wt e (y :: r) (fun z hz => h z (List.mem_cons_of_mem _ hz))))
theorem jn_tot (e : Bool) : ∀ l : List Tx, (jn l e).length ≤ tot l
  | [] => Nat.zero_le _
  | [x] => by
    cases e with
    | true => show (x ++ [10]).length ≤ _; rw [List.length_append]; simp only [tot, List.length_cons, List.length_nil]; omega
    | false => show x.length ≤ _; simp only [tot]; omega
  | x :: y :: r => by
    have := jn_tot e (y :: r)
    rw [jn_cons2]
    simp only [tot, List.length_append, List.length_cons] at this ⊢
    omega
theorem lt_ends {l : List Tx} (h : ∀ x ∈ l, Lt x) : ∀ x ∈ l, (10 : UInt8) ∉ x ∧ (13 : UInt8) ∉ x := fun x hx => ⟨(h x hx).2, (h x hx).1.2.2⟩
theorem doc_jn_true {l : List Tx} (h : ∀ x ∈ l, Lt x) (ht : tot l ≤ 900000) : docB (jn l true) = lnsB l := by
  unfold docB
  rw [if_pos (wt_chk (jn_wt true l h) (by have := jn_tot true l; omega)), split_jn_true l (lt_ends h)]
theorem doc_jn_false {l : List Tx} (h : ∀ x ∈ l, Lt x) (ht : tot l ≤ 900000) (hl : l.getLast? ≠ some []) : docB (jn l false) = lnsB l := by
  unfold docB
  rw [if_pos (wt_chk (jn_wt false l h) (by have := jn_tot false l; omega))]
  by_cases h0 : l = []
  · subst h0; rfl
  · rw [split_jn_false l h0 (lt_ends h), if_neg hl]
end Go.Proofs.YtihihgfcklkkhaaGreatDoor.Pa
namespace Go.Proofs.YtihihgfcklkkhaaGreatDoor.Pa
open Go.RowKit
open Go.Proofs.YtihihgfcklkkhaaGreatDoor.Tk (S S_of S_list S_size S_toList S_app ret_int eq8 ne8 at_data len_data Rd)
open Go.Proofs.YtihihgfcklkkhaaGreatDoor.Sp (ret_bool)
open Go.Proofs.YtihihgfcklkkhaaGreatDoor.Bk (Tx Bk kindOf)
open Go.Proofs.YtihihgfcklkkhaaGreatDoor.Ln (mx mx_le rlongest_any)
open Go.Proofs.YtihihgfcklkkhaaGreatDoor.Utf (chk rcheck_any)
set_option linter.unusedVariables false
def lnB (s : Tx) : Bool := decide (chk (S s) = 0) && decide (mx 10 s + mx 13 s = 0)
def fitsB (xs : List Tx) (most : Nat) : Bool := xs.all lnB && decide (tot xs ≤ most)
set_option maxHeartbeats 1600000 in
theorem fits_any (v : Value) (xs : List Tx) (w : World) (hr : Rd w v xs) (ht : tot xs ≤ 100000000) (most : Nat) (hm : most ≤ 1000000) :
    Calls Tryz.prog 18 #[v, .int .i64 (most : Nat)] w fun e w' => e = .returned (.bool (fitsB xs most)) ∧ Below w.heap.size w w' := by
  obtain ⟨ao, ca, rfl⟩ := hr.len
  have hlen : xs.length ≤ 100000000 := Nat.le_trans (tot_len xs) ht
  have HRd := Lib.hid (fun w' (h : Below w.heap.size w w') => Bt.Rd.at (hr.below h))
  have hsz := fun j (hj : j < xs.length) => tot_mem xs xs[j] (List.getElem_mem hj)
  have HC := Lib.hid (fun j (hj : j < xs.length) w' => rcheck_any (S xs[j]) (by rw [S_size]; have := hsz j hj; omega) w')
  have HLo := Lib.hid (fun j (hj : j < xs.length) (c : UInt8) w' => rlongest_any (S xs[j]) (by rw [S_size]; have := hsz j hj; omega) c w')
  simp only [S_list] at HLo
  obtain ⟨X, hX⟩ : ∃ X, fitsB xs most = X := ⟨_, rfl⟩
  have H0 : Hid (X = ((xs.drop 0).all lnB && decide (0 + tot (xs.drop 0) ≤ most))) := Lib.hid (by rw [← hX, List.drop_zero, Nat.zero_add]; rfl)
  have Hsum : Hid (∀ j, tot (xs.take j) + tot (xs.drop j) = tot xs) := Lib.hid (fun j => by rw [← tot_app, List.take_append_drop])
  rw [hX]
  have Hmx := Lib.hid (fun j (hj : j < xs.length) (c : UInt8) => mx_le c xs[j])
  have Hsz := Lib.hid hsz
  have Htl := Lib.hid ht
  clear hX hr hsz
  have h10 : ((10 : UInt8).toNat : Int) = 10 := rfl
  have h13 : ((13 : UInt8).toNat : Int) = 13 := rfl
  go_enter Tryz.func18, Tryz.ntmps18
  go_wp2_with fail
  go_loopw [5, 9] (fun nv iv wr => ∃ (j n : Nat), j ≤ xs.length ∧ iv = .int .i64 j ∧ nv = .int .i64 n ∧ n + tot (xs.drop j) ≤ 100000000 ∧ Hid (Below w.heap.size w wr) ∧ Hid (X = ((xs.drop j).all lnB && decide (n + tot (xs.drop j) ≤ most)))) (fun _ iv _ => xs.length - (intOf iv).toNat)
  case atStart => exact ⟨0, 0, Nat.zero_le _, rfl, rfl, by rw [List.drop_zero, Nat.zero_add]; exact Htl.out, Lib.hid (Below.refl _ _), H0⟩
  case round =>
    clear H0
    obtain ⟨j, n, hj, rfl, rfl, hn, HB, HN⟩ := hrel
    by_cases hlt : j < xs.length
    · have hji : (j : Int) < (xs.length : Int) := by omega
      obtain ⟨b, of, hbo, c0⟩ := HRd.out wr HB.out j hlt
      subst hbo
      have hdr : xs.drop j = xs[j] :: xs.drop (j + 1) := List.drop_eq_getElem_cons hlt
      have hz : (S xs[j]).size = xs[j].length := S_size _
      have HCj := Lib.hid (fun w' => HC.out j hlt w')
      have HLs : Hid (∀ (x : Int) (w' : World), x = 10 ∨ x = 13 → Calls Tryz.prog 35 #[.string (S xs[j]), .int .u8 x] w' fun e w'' => e = .returned (.int .i64 (if x = 10 then (mx 10 xs[j] : Int) else (mx 13 xs[j] : Int))) ∧ w'' = w') := Lib.hid (fun x w' hx => by
        rcases hx with rfl | rfl
        · have h := HLo.out j hlt 10 w'
          rw [h10] at h
          rw [if_pos rfl]
          exact h.mono (fun _ _ h => ⟨h.1, h.2.symm⟩)
        · have h := HLo.out j hlt 13 w'
          rw [h13] at h
          rw [if_neg (by decide)]
          exact h.mono (fun _ _ h => ⟨h.1, h.2.symm⟩))
      have m10 := Hmx.out j hlt 10
      have m13 := Hmx.out j hlt 13
      have hsj := Hsz.out j hlt
      have htl := Htl.out
      rw [hdr] at hn HN
      rw [tot] at hn
      have HX : Hid (X = (lnB xs[j] && ((xs.drop (j + 1)).all lnB && decide (n + 1 + xs[j].length + tot (xs.drop (j + 1)) ≤ most)))) := Lib.hid (by
        have hd : decide (n + (1 + xs[j].length + tot (xs.drop (j + 1))) ≤ most) = decide (n + 1 + xs[j].length + tot (xs.drop (j + 1)) ≤ most) := by rw [decide_eq_decide]; omega
        rw [HN.out, List.all_cons, tot, hd, Bool.and_assoc])
      have HLn : Hid (lnB xs[j] = (decide (chk (S xs[j]) = 0) && decide (mx 10 xs[j] + mx 13 xs[j] = 0))) := Lib.hid rfl
      clear HN hdr
      generalize lnB xs[j] = lb at *
      generalize chk (S xs[j]) = c at *
      generalize mx 10 xs[j] = a10 at *
      generalize mx 13 xs[j] = a13 at *
      obtain ⟨z, hzz⟩ : ∃ z, xs[j].length = z := ⟨_, rfl⟩
      rw [hzz] at hz hsj hn HX m10 m13
      clear hzz
      obtain ⟨sx, hsx⟩ : ∃ x, S xs[j] = x := ⟨_, rfl⟩
      rw [hsx] at hz c0
      simp only [hsx] at HCj HLs
      clear hsx HC HLo Hmx Hsz
      have w1 : IntKind.i64.wrap ((n : Int) + 1) = ((n + 1 : Nat) : Int) := by rw [IntKind.wrap_i64]; omega
      obtain ⟨n1, hn1⟩ : ∃ q, q = n + 1 := ⟨_, rfl⟩
      rw [← hn1] at w1
      have w2 : IntKind.i64.wrap ((n1 : Int) + (z : Int)) = ((n1 + z : Nat) : Int) := by rw [IntKind.wrap_i64]; omega
      obtain ⟨n2, hn2⟩ : ∃ q, q = n1 + z := ⟨_, rfl⟩
      rw [← hn2] at w2
      have hszi : ((sx.size : Nat) : Int) = (z : Int) := by rw [hz]
      have w3 : IntKind.i64.wrap ((a10 : Int) + (a13 : Int)) = ((a10 + a13 : Nat) : Int) := by rw [IntKind.wrap_i64]; omega
      obtain ⟨a, ha⟩ : ∃ q, q = a10 + a13 := ⟨_, rfl⟩
      rw [← ha] at w3 HLn
      have HX2 : Hid (X = (lb && ((xs.drop (j + 1)).all lnB && decide (n2 + tot (xs.drop (j + 1)) ≤ most)))) := Lib.hid (by rw [HX.out, hn2, hn1])
      have hn3 : n2 + tot (xs.drop (j + 1)) ≤ 100000000 := by omega
      have Hn3 := Lib.hid hn3
      clear HX hn hsj hn1 hn2 ha hn3 m10 m13 htl
      by_cases hc : c = 0
      · rw [decide_eq_true hc, Bool.true_and] at HLn
        subst hc
        by_cases h0 : a = 0
        · have ea : decide ((a : Int) > 0) = false := decide_eq_false (by omega)
          have ea2 : decide ((0 : Int) < (a : Int)) = false := decide_eq_false (by omega)
          have ea3 : decide (0 < a) = false := decide_eq_false (by omega)
          have HN2 : Hid (X = ((xs.drop (j + 1)).all lnB && decide (n2 + tot (xs.drop (j + 1)) ≤ most))) := Lib.hid (by rw [HX2.out, HLn.out, decide_eq_true h0, Bool.true_and])
          clear h0 HX2 HLn
          go_wp2_with fail
          go_quiet (first | (go_at_call 28; exact Calls.quiet_of_same ((HCj.out _).mono (fun _ _ h => ⟨h.1, h.2.symm⟩))) | (go_at_call 35; exact Calls.quiet_of_same (HLs.out _ _ (by decide))))
          go_wp2_with fail
          go_roundw
          case rel => exact ⟨j + 1, n2, by omega, by go_num, rfl, Hn3.out, Lib.hid (below_drewN HB.out _), HN2⟩
          case measure => simp [intOf] <;> omega
        · have ea : decide ((a : Int) > 0) = true := decide_eq_true (by omega)
          have ea2 : decide ((0 : Int) < (a : Int)) = true := decide_eq_true (by omega)
          have ea3 : decide (0 < a) = true := decide_eq_true (by omega)
          have HR : Hid (X = false) := Lib.hid (by rw [HX2.out, HLn.out, decide_eq_false h0, Bool.false_and])
          clear h0 HX2 HLn
          go_wp2_with fail
          go_quiet (first | (go_at_call 28; exact Calls.quiet_of_same ((HCj.out _).mono (fun _ _ h => ⟨h.1, h.2.symm⟩))) | (go_at_call 35; exact Calls.quiet_of_same (HLs.out _ _ (by decide))))
          go_wp2_with fail
          go_ret
          exact ⟨ret_bool HR.out.symm, below_drewN HB.out _⟩
      · have ec : (c != 0) = true := by rw [bne_iff_ne]; exact hc
        have ec2 : (c == 0) = false := by rw [beq_eq_false_iff_ne]; exact hc
        have HR : Hid (X = false) := Lib.hid (by rw [HX2.out, HLn.out, decide_eq_false hc, Bool.false_and, Bool.false_and])
        clear hc HX2 HLn
        go_wp2_with fail
        go_quiet (first | (go_at_call 28; exact Calls.quiet_of_same ((HCj.out _).mono (fun _ _ h => ⟨h.1, h.2.symm⟩))) | (go_at_call 35; exact Calls.quiet_of_same (HLs.out _ _ (by decide))))
        go_wp2_with fail
        go_ret
        exact ⟨ret_bool HR.out.symm, below_drewN HB.out _⟩
    · obtain rfl : j = xs.length := by omega
      have HR : Hid (X = decide (n ≤ most)) := Lib.hid (by
        rw [HN.out, List.drop_length]
        show (true && decide (n + 0 ≤ most)) = _
        rw [Bool.true_and]
        rfl)
      have e1 : decide ((n : Int) ≤ (most : Int)) = decide (n ≤ most) := by rw [decide_eq_decide]; omega
      clear HN hlt
      obtain ⟨y, hy⟩ : ∃ y, decide (n ≤ most) = y := ⟨_, rfl⟩
      rw [hy] at HR
      have Hy := Lib.hid hy
      clear e1 hy
      go_wp2_with fail
      go_ret
      exact ⟨by rw [HR.out]; exact ret_bool Hy.out, HB.out⟩
end Go.Proofs.YtihihgfcklkkhaaGreatDoor.Pa
