/-
  BLOCKS: what is written is read as it was, where paragraphs' and headings' own texts are. No program.
-/
import Derived.Test.YtpenjdnbnacebaaDoorBkPlain
namespace Go.Proofs.YtpenjdnbnacebaaDoor.Bk
open Go.Proofs.YtpenjdnbnacebaaDoor.Ln (run mx trim run_yes run_no run_le run_le_mx dr_cons dl_no mx_none)
open Go.Proofs.YtpenjdnbnacebaaDoor.Sp (Sp wrs destB)
set_option linter.unusedVariables false
variable (E : Env)

/-! Lines by their first byte. -/
theorem trim_ne {c : UInt8} (h : Ln.gapB c = false) (t : Tx) : trim (c :: t) ≠ [] := by
  unfold trim
  rw [dr_cons]
  split
  · rw [h]; simp [dl_no h]
  · rw [dl_no h]; simp
theorem take2_ne {c : UInt8} (h : c ≠ 32) (t : Tx) : (c :: t).take 2 ≠ [32, 32] := by
  cases t <;> simp [h]
theorem inner_none {c : UInt8} (h : Ln.gapB c = false) (t : Tx) : inner (c :: t) = none := by
  have hc : c ≠ 32 := fun e => by subst e; cases h
  unfold inner
  rw [if_neg (take2_ne hc t), if_neg (trim_ne h t)]
theorem run_head {c d : UInt8} (h : c ≠ d) (t : Tx) : run d (c :: t) = 0 := run_no h t
theorem kind_blank : kindOf E [] = 1 := rfl
theorem kind_quote (s : Tx) : kindOf E (preQ s) = 5 := by
  obtain ⟨t, ht⟩ : ∃ t, preQ s = 62 :: t := by unfold preQ; split <;> exact ⟨_, rfl⟩
  rw [ht]
  unfold kindOf
  rw [if_neg (trim_ne (by decide) t), run_head (by decide), run_head (by decide), run_head (by decide), if_neg (by omega), if_neg (by omega), if_neg (by omega), if_pos (show (62 :: t).head? = some 62 from rfl)]
theorem kind_item (t : Tx) : kindOf E (45 :: 32 :: t) = 6 := by
  unfold kindOf
  have hr : run 45 (45 :: 32 :: t) = 1 := by rw [run_yes rfl, run_no (by decide)]
  rw [if_neg (trim_ne (by decide) _), run_head (by decide), hr, run_head (by decide), if_neg (by omega), if_neg (by omega), if_neg (by omega), if_neg (by simp), if_pos (show (45 :: 32 :: t = [45]) ∨ (List.take 2 (45 :: 32 :: t) = [45, 32]) from Or.inr rfl)]
theorem kind_item0 : kindOf E [45] = 6 := by
  unfold kindOf
  rw [if_neg (by decide), if_neg (by decide), if_neg (by decide), if_neg (by decide), if_neg (by decide), if_pos (Or.inl rfl)]
theorem kind_rule : kindOf E [45, 45, 45] = 3 := by
  unfold kindOf
  rw [if_neg (by decide), if_neg (by decide), if_pos (by decide)]
theorem run_reps (c : UInt8) (t : Tx) (ht : t.head? ≠ some c) : ∀ n, run c (List.replicate n c ++ t) = n
  | 0 => by
    cases t with
    | nil => rfl
    | cons b r => exact run_no (fun e => ht (by rw [e]; rfl)) r
  | n + 1 => by rw [List.replicate_succ, List.cons_append, run_yes rfl, run_reps c t ht n]
theorem kind_head (n : Nat) (h1 : 1 ≤ n) (h6 : n ≤ 6) (t : Tx) (ht : t = [] ∨ ∃ r, t = 32 :: r) : kindOf E (List.replicate n 35 ++ t) = 2 ∧ run 35 (List.replicate n 35 ++ t) = n := by
  have hr : run 35 (List.replicate n 35 ++ t) = n := run_reps 35 t (by rcases ht with rfl | ⟨r, rfl⟩ <;> simp) n
  obtain ⟨m, rfl⟩ : ∃ m, n = m + 1 := ⟨n - 1, by omega⟩
  have hc : (List.replicate (m + 1) (35 : UInt8) ++ t).length = m + 1 ∨ (List.replicate (m + 1) (35 : UInt8) ++ t)[m + 1]? = some 32 := by
    rcases ht with rfl | ⟨r, rfl⟩
    · left; simp
    · right; rw [List.getElem?_append_right (by simp)]; simp
  refine ⟨?_, hr⟩
  unfold kindOf
  rw [hr]
  rw [if_neg (by rw [List.replicate_succ, List.cons_append]; exact trim_ne (by decide) _), if_pos ⟨⟨h1, h6⟩, hc⟩]
theorem kind_fence (n : Nat) (h3 : 3 ≤ n) (info : Tx) (h96 : (96 : UInt8) ∉ info) : kindOf E (List.replicate n 96 ++ info) = 4 ∧ run 96 (List.replicate n 96 ++ info) = n := by
  have hr : run 96 (List.replicate n 96 ++ info) = n := run_reps 96 info (by
    cases info with
    | nil => simp
    | cons c r => simp; exact fun e => h96 (by rw [e]; exact List.mem_cons_self ..)) n
  refine ⟨?_, hr⟩
  obtain ⟨m, hm⟩ : ∃ m, n = m + 1 := ⟨n - 1, by omega⟩
  have hd : (List.replicate n 96 ++ info).drop n = info := List.drop_left' (List.length_replicate ..)
  unfold kindOf
  rw [hr, hd]
  subst hm
  have e : List.replicate (m + 1) (96 : UInt8) ++ info = 96 :: (List.replicate m 96 ++ info) := by rw [List.replicate_succ, List.cons_append]
  rw [e, if_neg (trim_ne (by decide) _), run_head (by decide), run_head (by decide), if_neg (by omega), if_neg (by omega), if_pos ⟨h3, mx_none 96 info h96⟩]
theorem df_on (acc : Tx) (c : UInt8) (t : Tx) (h : c ≠ 93) : df E acc (c :: t) = df E (acc ++ [c]) t := by
  rw [df]
  intro d hc _
  exact h hc
theorem df_pre (t : Tx) : ∀ (p acc : Tx), (93 : UInt8) ∉ p → df E acc (p ++ t) = df E (acc ++ p) t
  | [], acc, _ => by simp
  | c :: p, acc, h => by
    rw [List.cons_append, df_on E acc c _ (fun e => h (by rw [e]; exact List.mem_cons_self ..)), df_pre t p _ (fun h' => h (List.mem_cons_of_mem _ h')), List.append_assoc]
    rfl
theorem df_found (acc d : Tx) (h1 : label E acc = true) (h2 : isDest d = true) : df E acc (93 :: 58 :: 32 :: d) = some (acc, d) := by
  rw [df]
  simp [h1, h2]
theorem label_no (s : Tx) (h : label E s = true) : (93 : UInt8) ∉ s := by
  unfold label at h
  simp only [Bool.and_eq_true] at h
  have := h.1.2
  simpa using this
theorem define_ok (info d : Tx) (h1 : label E info = true) (h2 : isDest d = true) : define E (91 :: (info ++ 93 :: 58 :: 32 :: d)) = some (info, d) := by
  show df E [] (info ++ 93 :: 58 :: 32 :: d) = _
  rw [df_pre E _ info [] (label_no E info h1), List.nil_append, df_found E info d h1 h2]
theorem kind_def (info d : Tx) (h1 : label E info = true) (h2 : isDest d = true) : kindOf E (91 :: (info ++ 93 :: 58 :: 32 :: d)) = 7 := by
  have hd := define_ok E info d h1 h2
  unfold kindOf
  rw [hd, if_neg (trim_ne (by decide) _), run_head (by decide), run_head (by decide), run_head (by decide), if_neg (by omega), if_neg (by omega), if_neg (by omega), if_neg (by simp), if_neg (by simp), if_pos (show (some (info, d)).isSome = true from rfl)]

/-! Normal form, and depth. -/
/-- A paragraph's spans: their lines are Plain, and tell them. -/
structure PG (spans : List Sp) : Prop where
  ne : (Ln.split (wrs spans)).1 ≠ []
  k8 : ∀ s ∈ (Ln.split (wrs spans)).1, kindOf E s = 8
  tr : ∀ s ∈ (Ln.split (wrs spans)).1, trim s = s
  rd : parse (joinLF (Ln.split (wrs spans)).1) = spans
/-- A heading's. -/
structure HG (spans : List Sp) : Prop where
  tr : spans ≠ [] → trim (32 :: wrs spans) = wrs spans
  rd : parse (wrs spans) = spans
mutual
def ok1 : Bool → Bk → Prop
  | list, .mk k lv info lines spans kids =>
    (list = true ∧ k = 7 ∧ lv = 0 ∧ info = [] ∧ lines = [] ∧ spans = [] ∧ oks false false kids) ∨
    (list = false ∧
      ((k = 1 ∧ lv = 0 ∧ info = [] ∧ lines = [] ∧ kids = [] ∧ PG E spans) ∨
       (k = 2 ∧ info = [] ∧ lines = [] ∧ kids = [] ∧ (1 ≤ lv ∧ lv ≤ 6) ∧ HG spans) ∨
       (k = 3 ∧ lv = 0 ∧ info = [] ∧ lines = [] ∧ spans = [] ∧ kids = []) ∨
       (k = 4 ∧ lv = 0 ∧ spans = [] ∧ kids = [] ∧ trim info = info ∧ (96 : UInt8) ∉ info) ∨
       (k = 5 ∧ lv = 0 ∧ info = [] ∧ lines = [] ∧ spans = [] ∧ oks false false kids) ∨
       (k = 6 ∧ lv = 0 ∧ info = [] ∧ lines = [] ∧ spans = [] ∧ kids ≠ [] ∧ oks true false kids) ∨
       (k = 8 ∧ lv = 0 ∧ spans = [] ∧ kids = [] ∧ label E info = true ∧ ∃ d, lines = [d] ∧ isDest d = true)))
def oks : Bool → Bool → List Bk → Prop
  | _, _, [] => True
  | list, prev, .mk k lv info lines spans kids :: r => ok1 list (.mk k lv info lines spans kids) ∧ ¬ (prev = true ∧ k = 6) ∧ oks list (k == 6) r
end
mutual
def dp1 : Bk → Nat
  | .mk k _ _ _ _ kids => (if k = 5 ∨ k = 6 ∨ k = 7 then 1 else 0) + dps kids
def dps : List Bk → Nat
  | [] => 0
  | b :: r => max (dp1 b) (dps r)
end
theorem wl_one (b : Bk) : wl [b] = one b := by rw [wl]
theorem wl_two (b c : Bk) (r : List Bk) : wl (b :: c :: r) = one b ++ [] :: wl (c :: r) := by rw [wl]

/-! What a block's lines begin and end with. -/
/-- A first line. -/
structure First (k : Int) (s : Tx) : Prop where
  nb : kindOf E s ≠ 1
  inn : inner s = none
  it : kindOf E s = 6 ↔ (k = 6 ∨ k = 7)
theorem trim_head_ne {s : Tx} (h : trim s = s) (hk : kindOf E s ≠ 1) : inner s = none := by
  cases s with
  | nil => exact absurd rfl hk
  | cons c t =>
    have := Ln.trim_head (c :: t) c (by rw [h]; rfl)
    exact inner_none this t
theorem its_cons (b : Bk) (r : List Bk) : its (b :: r) = one b ++ its r := by rw [its]
theorem itemW_first (l : List Tx) : ∃ s r, itemW l = s :: r ∧ kindOf E s = 6 ∧ inner s = none := by
  cases l with
  | nil => exact ⟨[45], [], rfl, kind_item0 E, inner_none (by decide) []⟩
  | cons s r => exact ⟨45 :: 32 :: s, r.map preI, rfl, kind_item E s, inner_none (by decide) _⟩
theorem first_of (list : Bool) (k lv : Int) (info : Tx) (lines : List Tx) (spans : List Sp) (kids : List Bk) (h : ok1 E list (.mk k lv info lines spans kids)) :
    ∃ s r, one (.mk k lv info lines spans kids) = s :: r ∧ First E k s := by
  rw [ok1] at h
  rw [one]
  rcases h with ⟨rfl, rfl, _⟩ | ⟨rfl, h⟩
  · obtain ⟨s, r, e, h6, hi⟩ := itemW_first E (wl kids)
    exact ⟨s, r, by simpa using e, by rw [h6]; decide, hi, by rw [h6]; simp⟩
  rcases h with ⟨rfl, _, _, _, _, hp⟩ | ⟨rfl, _, _, _, hl, hg⟩ | ⟨rfl, _⟩ | ⟨rfl, _, _, _, ht, h96⟩ | ⟨rfl, _⟩ | ⟨rfl, _, _, _, _, hne, hk⟩ | ⟨rfl, _, _, _, hlab, d, rfl, hd⟩
  · rw [if_pos rfl]
    cases hs : (Ln.split (wrs spans)).1 with
    | nil => exact absurd hs hp.ne
    | cons s r =>
      have h8 := hp.k8 s (by rw [hs]; exact List.mem_cons_self ..)
      have ht := hp.tr s (by rw [hs]; exact List.mem_cons_self ..)
      exact ⟨s, r, rfl, by rw [h8]; decide, trim_head_ne E ht (by rw [h8]; decide), by rw [h8]; simp⟩
  · rw [if_neg (by decide), if_pos rfl]
    refine ⟨_, [], rfl, ?_⟩
    obtain ⟨n, rfl⟩ : ∃ n : Nat, lv = n := ⟨lv.toNat, by omega⟩
    rw [Int.toNat_natCast]
    have h2 := (kind_head E n (by omega) (by omega) (if spans = [] then [] else 32 :: wrs spans) (by split; exact Or.inl rfl; exact Or.inr ⟨_, rfl⟩)).1
    obtain ⟨m, rfl⟩ : ∃ m, n = m + 1 := ⟨n - 1, by omega⟩
    exact ⟨by rw [h2]; decide, by rw [List.replicate_succ, List.cons_append]; exact inner_none (by decide) _, by rw [h2]; simp⟩
  · exact ⟨[45, 45, 45], [], rfl, by rw [kind_rule]; decide, inner_none (by decide) _, by rw [kind_rule]; simp⟩
  · rw [if_neg (by decide), if_neg (by decide), if_neg (by decide), if_pos rfl]
    have h3 : 3 ≤ ticksL lines := by
      unfold ticksL
      induction lines with
      | nil => exact Nat.le_refl _
      | cons x l ih => show 3 ≤ max _ _; omega
    have h4 := (kind_fence E _ h3 info h96).1
    refine ⟨_, _, rfl, by rw [h4]; decide, ?_, by rw [h4]; simp⟩
    obtain ⟨m, hm⟩ : ∃ m, ticksL lines = m + 1 := ⟨ticksL lines - 1, by omega⟩
    rw [hm, List.replicate_succ, List.cons_append]
    exact inner_none (by decide) _
  · rw [if_neg (by decide), if_neg (by decide), if_neg (by decide), if_neg (by decide), if_pos rfl]
    have hq : ∀ x, First E 5 (preQ x) := fun x => ⟨by rw [kind_quote]; decide, by unfold preQ; split <;> exact inner_none (by decide) _, by rw [kind_quote]; simp⟩
    split
    · exact ⟨_, [], rfl, hq []⟩
    · rename_i hw
      cases hl : wl kids with
      | nil => exact absurd hl hw
      | cons s r => exact ⟨preQ s, r.map preQ, rfl, hq s⟩
  · rw [if_neg (by decide), if_neg (by decide), if_neg (by decide), if_neg (by decide), if_neg (by decide), if_pos rfl]
    cases kids with
    | nil => exact absurd rfl hne
    | cons b r =>
      obtain ⟨k', lv', info', lines', spans', kids'⟩ := b
      rw [oks] at hk
      have h1 := hk.1
      rw [ok1] at h1
      rcases h1 with ⟨_, rfl, _⟩ | ⟨hf, _⟩
      · obtain ⟨s, q, e, h6, hi⟩ := itemW_first E (wl kids')
        refine ⟨s, q ++ its r, ?_, by rw [h6]; decide, hi, by rw [h6]; simp⟩
        rw [its_cons, one]
        simp [e]
      · cases hf
  · simp only [show ¬ ((8 : Int) = 1) by decide, show ¬ ((8 : Int) = 2) by decide, show ¬ ((8 : Int) = 3) by decide, show ¬ ((8 : Int) = 4) by decide, show ¬ ((8 : Int) = 5) by decide, show ¬ ((8 : Int) = 6) by decide, show ¬ ((8 : Int) = 7) by decide, if_false]
    have h7 := kind_def E info d hlab hd
    refine ⟨_, [], rfl, ?_⟩
    show First E 8 (91 :: (info ++ 93 :: 58 :: 32 :: d))
    exact ⟨by rw [h7]; decide, inner_none (by decide) _, by rw [h7]; simp⟩
theorem wl_ne {list prev : Bool} {b : Bk} {r : List Bk} (h : oks E list prev (b :: r)) : wl (b :: r) ≠ [] := by
  obtain ⟨k, lv, info, lines, spans, kids⟩ := b
  rw [oks] at h
  obtain ⟨s, q, e, _⟩ := first_of E list k lv info lines spans kids h.1
  cases r with
  | nil => rw [wl_one, e]; simp
  | cons c r => rw [wl_two, e]; simp

end Go.Proofs.YtpenjdnbnacebaaDoor.Bk
