/-
  Several texts in one:
  
  
  
-/
import Derived.Test.YtldllbmbcnipoabGreatDoorBkLines
import Derived.Test.YtldllbmbcnipoabGreatDoorPkWG
import Derived.Test.YtldllbmbcnipoabGreatDoorPkWM
import Derived.Test.YtldllbmbcnipoabGreatDoorShelf
namespace Go.Proofs.YtldllbmbcnipoabGreatDoor.Bk
open Go.Proofs.YtldllbmbcnipoabGreatDoor.Ln (trim ls strip_id ls_lf ls_on dl_fix dr_fix)
open Go.Proofs.YtldllbmbcnipoabGreatDoor.Sp (Sp wrs wr1 destB fits fit1 esc marked padded ticksOf ticksOf_ok padded_ne padded_lf parse_write)
set_option linter.unusedVariables false
variable (E : Env)
def bad (a b : UInt8) : Prop := (a = 10 ∧ (Ln.gapB b = true ∨ b = 10)) ∨ (b = 10 ∧ Ln.gapB a = true)
def hard (c : UInt8) : Prop := c ≠ 10 ∧ Ln.gapB c = false
theorem not_bad {a b : UInt8} (h : hard a ∨ hard b) : ¬ bad a b := by
  intro hb
  rcases hb with ⟨rfl, hb⟩ | ⟨rfl, hb⟩
  · rcases h with h | h
    · exact h.1 rfl
    · rcases hb with hb | hb
      · rw [h.2] at hb; cases hb
      · exact h.1 hb
  · rcases h with h | h
    · rw [h.2] at hb; cases hb
    · exact h.1 rfl
def adj : Tx → Prop
  | a :: b :: r => ¬ bad a b ∧ adj (b :: r)
  | _ => True
theorem adj_tail {c : UInt8} {t : Tx} (h : adj (c :: t)) : adj t := by
  cases t with
  | nil => trivial
  | cons d t => exact h.2
theorem adj_cons {c : UInt8} {t : Tx} (h : adj t) (hb : ∀ b, t.head? = some b → ¬ bad c b) : adj (c :: t) := by
  cases t with
  | nil => trivial
  | cons d t => exact ⟨hb d rfl, h⟩
theorem adj_app : ∀ (x y : Tx), adj x → adj y → (∀ a b, x.getLast? = some a → y.head? = some b → ¬ bad a b) → adj (x ++ y)
  | [], y, _, hy, _ => hy
  | [c], y, _, hy, hb => adj_cons hy (fun b h => hb c b rfl h)
  | c :: d :: x, y, hx, hy, hb => ⟨hx.1, adj_app (d :: x) y hx.2 hy (fun a b h => hb a b (by rw [List.getLast?_cons_cons]; exact h))⟩
theorem adj_no : ∀ (s : Tx), (10 : UInt8) ∉ s → adj s
  | [], _ => trivial
  | [c], _ => trivial
  | c :: d :: s, h => by
    have hc : c ≠ 10 := fun e => h (by simp [e])
    have hd : d ≠ 10 := fun e => h (by simp [e])
    refine ⟨fun hb => ?_, adj_no (d :: s) (fun h' => h (List.mem_cons_of_mem _ h'))⟩
    rcases hb with hb | hb
    · exact hc hb.1
    · exact hd hb.1
theorem esc_head? (c : UInt8) (s : Tx) : (esc (c :: s)).head? = some 92 ∨ (esc (c :: s)).head? = some c := by
  rw [esc_cons]
  cases marked c with
  | true => exact Or.inl rfl
  | false => exact Or.inr rfl
theorem hard92 : hard 92 := ⟨by decide, by decide⟩
theorem esc_adj : ∀ s : Tx, adj s → adj (esc s)
  | [], _ => trivial
  | c :: s, h => by
    have ih := esc_adj s (adj_tail h)
    have hc : adj (c :: esc s) := adj_cons ih (fun b hb => by
      cases s with
      | nil => cases hb
      | cons d s =>
        rcases esc_head? d s with e | e
        · rw [e] at hb; cases hb; exact not_bad (Or.inr hard92)
        · rw [e] at hb; cases hb; exact h.1)
    rw [esc_cons]
    cases marked c with
    | true => exact adj_cons hc (fun b _ => not_bad (Or.inl hard92))
    | false => exact hc
theorem esc_last : ∀ s : Tx, (esc s).getLast? = s.getLast?
  | [] => rfl
  | [c] => by rw [esc_cons]; cases marked c <;> rfl
  | c :: d :: s => by
    have ih := esc_last (d :: s)
    have hne : esc (d :: s) ≠ [] := by rw [esc_cons]; cases marked d <;> simp
    rw [esc_cons, List.getLast?_append, ih, List.getLast?_cons_cons]
    cases h : (d :: s).getLast? with
    | none => simp at h
    | some v => rfl
mutual
def tx1 : Sp → Prop
  | .mk k s kids => (k = 1 → adj s) ∧ txs kids
def txs : List Sp → Prop
  | [] => True
  | x :: l => tx1 x ∧ txs l
end
theorem rep_last (n : Nat) (hn : 0 < n) (p : Tx) : (p ++ List.replicate n (96 : UInt8)).getLast? = some 96 := by
  obtain ⟨m, rfl⟩ : ∃ m, n = m + 1 := ⟨n - 1, by omega⟩
  rw [List.replicate_succ' (n := m) (a := (96 : UInt8)), ← List.append_assoc, List.getLast?_concat]
theorem ends_hard {e l : Bool} {k : Int} {s : Tx} {kids : List Sp} (h : fit1 e l (.mk k s kids)) (hk : k ≠ 1) : (∃ c t, wr1 (.mk k s kids) = c :: t ∧ hard c) ∧ ∃ c, (wr1 (.mk k s kids)).getLast? = some c ∧ hard c := by
  rw [fit1] at h
  rw [wr1]
  rcases h with ⟨rfl, _⟩ | ⟨rfl, rfl, hs, h10⟩ | ⟨rfl, _⟩ | ⟨rfl, _⟩
  · exact absurd rfl hk
  · rw [if_neg (by decide), if_pos rfl]
    obtain ⟨_, hn⟩ := ticksOf_ok s
    generalize ticksOf s = n at *
    refine ⟨?_, 96, ?_, by decide, by decide⟩
    · obtain ⟨m, rfl⟩ : ∃ m, n = m + 1 := ⟨n - 1, by omega⟩
      exact ⟨96, List.replicate m 96 ++ (padded s ++ List.replicate (m + 1) 96), by rw [List.replicate_succ, List.cons_append], by decide, by decide⟩
    · rw [← List.append_assoc]; exact rep_last n hn _
  · rw [if_neg (by decide), if_neg (by decide), if_pos rfl]
    exact ⟨⟨42, _, rfl, by decide, by decide⟩, 42, by rw [← List.cons_append, List.getLast?_concat], by decide, by decide⟩
  · rw [if_neg (by decide), if_neg (by decide), if_neg (by decide), if_pos rfl]
    refine ⟨⟨91, _, rfl, by decide, by decide⟩, 41, ?_, by decide, by decide⟩
    have e : (91 :: (wrs kids ++ (93 :: 40 :: (s ++ [41]))) : Tx) = (91 :: (wrs kids ++ (93 :: 40 :: s))) ++ [41] := by simp
    rw [e, List.getLast?_concat]
theorem wrs_head {e l : Bool} : ∀ (R : List Sp), fits e l 1 R → ∀ b, (wrs R).head? = some b → hard b
  | [], _, b, hb => by rw [wrs] at hb; cases hb
  | .mk k s kids :: R, h, b, hb => by
    rw [fits] at h
    have hk : k ≠ 1 := fun e => h.2.1 ⟨e, by omega⟩
    obtain ⟨⟨c, t, e, hc⟩, _⟩ := ends_hard h.1 hk
    rw [wrs, e] at hb
    simp at hb
    rw [← hb]
    exact hc
theorem wrs_adj (e l : Bool) (prev : Int) (L : List Sp) (h : fits e l prev L) (ht : txs L) : adj (wrs L) := by
  match L, h, ht with
  | [], _, _ => rw [wrs]; trivial
  | .mk k s kids :: R, h, ht =>
    rw [fits] at h
    rw [txs, tx1] at ht
    obtain ⟨h1, h2, h3⟩ := h
    obtain ⟨⟨ht1, htk⟩, htR⟩ := ht
    have ihR := wrs_adj e l k R h3 htR
    rw [wrs]
    refine adj_app _ _ ?_ ihR (fun a b ha hb => ?_)
    · have h1' := h1
      rw [fit1] at h1'
      rw [wr1]
      rcases h1' with ⟨rfl, rfl, hs⟩ | ⟨rfl, rfl, hs, h10⟩ | ⟨rfl, rfl, hk, rfl, hkids⟩ | ⟨rfl, hs, hd, hk, rfl, hkids⟩
      · rw [if_pos rfl]; exact esc_adj s (ht1 rfl)
      · rw [if_neg (by decide), if_pos rfl]; exact adj_no _ (code_10 s h10 _)
      · rw [if_neg (by decide), if_neg (by decide), if_pos rfl]
        have ihk := wrs_adj true l 0 kids hkids htk
        exact adj_cons (adj_app _ _ ihk trivial (fun a b _ hb => by simp at hb; rw [← hb]; exact not_bad (Or.inr ⟨by decide, by decide⟩))) (fun b _ => not_bad (Or.inl ⟨by decide, by decide⟩))
      · rw [if_neg (by decide), if_neg (by decide), if_neg (by decide), if_pos rfl]
        have ihk := wrs_adj e true 0 kids hkids htk
        have h10 := dest_10 hd
        exact adj_cons (adj_app _ _ ihk (adj_no _ (by simp [h10])) (fun a b _ hb => by simp at hb; rw [← hb]; exact not_bad (Or.inr ⟨by decide, by decide⟩))) (fun b _ => not_bad (Or.inl ⟨by decide, by decide⟩))
    · by_cases hk : k = 1
      · subst hk
        exact not_bad (Or.inr (wrs_head R h3 b hb))
      · obtain ⟨_, c, hc, hh⟩ := ends_hard h1 hk
        rw [hc] at ha
        cases ha
        exact not_bad (Or.inl hh)
termination_by SizeOf.sizeOf L
theorem ls_lines : ∀ (t cur : Tx), (13 : UInt8) ∉ cur → (13 : UInt8) ∉ t → (∀ b, t.getLast? = some b → b ≠ 10) → (cur ≠ [] ∨ t ≠ []) →
    ((10 : UInt8) ∉ t ∧ (ls cur t).1 = [cur ++ t]) ∨ ∃ a u, t = a ++ 10 :: u ∧ (10 : UInt8) ∉ a ∧ (ls cur t).1 = (cur ++ a) :: (ls [] u).1
  | [], cur, _, _, _, h => by
    left
    refine ⟨by simp, ?_⟩
    rw [ls, if_neg (h.resolve_right (by simp))]
    simp
  | c :: t, cur, h1, h2, h3, _ => by
    have hc13 : c ≠ 13 := fun e => h2 (by simp [e])
    have ht13 : (13 : UInt8) ∉ t := fun h => h2 (List.mem_cons_of_mem _ h)
    by_cases e : c = 10
    · subst e
      exact Or.inr ⟨[], t, rfl, by simp, by rw [ls_lf, strip_id cur h1, List.append_nil]⟩
    · rw [ls_on cur c t e hc13]
      have h3' : ∀ b, t.getLast? = some b → b ≠ 10 := fun b hb => h3 b (by
        cases t with
        | nil => cases hb
        | cons d t => rw [List.getLast?_cons_cons]; exact hb)
      rcases ls_lines t (cur ++ [c]) (by simp [h1, Ne.symm hc13]) ht13 h3' (Or.inl (by simp)) with ⟨h10, he⟩ | ⟨a, u, rfl, ha, he⟩
      · exact Or.inl ⟨by simp [h10, Ne.symm e], by rw [he]; simp⟩
      · exact Or.inr ⟨c :: a, u, rfl, by simp [ha, Ne.symm e], by rw [he]; simp⟩
theorem adj_drop : ∀ (p t : Tx), adj (p ++ t) → adj t
  | [], t, h => h
  | c :: p, t, h => adj_drop p t (adj_tail h)
theorem adj_pair : ∀ (p : Tx) (a b : UInt8) (t : Tx), adj (p ++ a :: b :: t) → ¬ bad a b
  | [], a, b, t, h => h.1
  | c :: p, a, b, t, h => adj_pair p a b t (adj_tail h)
structure Cl (W : Tx) : Prop where
  ne : W ≠ []
  cr : (13 : UInt8) ∉ W
  ad : adj W
  hd : ∀ b, W.head? = some b → hard b
  la : ∀ b, W.getLast? = some b → hard b
theorem Cl.next {a u : Tx} (h : Cl (a ++ 10 :: u)) : Cl u := by
  have hne : u ≠ [] := by
    intro e
    subst e
    have := h.la 10 (by rw [List.getLast?_concat])
    exact this.1 rfl
  refine ⟨hne, fun h' => h.cr (by simp [h']), adj_tail (adj_drop a _ h.ad), fun b hb => ?_, fun b hb => h.la b ?_⟩
  · cases u with
    | nil => cases hb
    | cons c u =>
      simp at hb
      subst hb
      have := adj_pair a 10 c u h.ad
      refine ⟨fun e => this (Or.inl ⟨rfl, Or.inr e⟩), ?_⟩
      cases hg : Ln.gapB c with
      | false => rfl
      | true => exact absurd (Or.inl ⟨rfl, Or.inl hg⟩) this
  · cases u with
    | nil => cases hb
    | cons c u => rw [List.getLast?_append, List.getLast?_cons_cons, hb]; rfl
theorem trim_fix (s : Tx) (h1 : ∀ b, s.head? = some b → Ln.gapB b = false) (h2 : ∀ b, s.getLast? = some b → Ln.gapB b = false) : trim s = s := by
  unfold trim
  rw [dr_fix s h2, dl_fix s h1]
theorem cl_lines : ∀ (n : Nat) (W : Tx), W.length ≤ n → Cl W → (ls [] W).1 ≠ [] ∧ joinLF (ls [] W).1 = W ∧ ∀ s ∈ (ls [] W).1, trim s = s ∧ (∃ c t, s = c :: t ∧ Ln.gapB c = false) ∧ (s = ln W ∨ ∃ pre u, W = pre ++ 10 :: u ∧ s = ln u)
  | 0, W, hn, h => absurd (List.eq_nil_of_length_eq_zero (by omega)) h.ne
  | n + 1, W, hn, h => by
    rcases ls_lines W [] (by simp) h.cr (fun b hb => (h.la b hb).1) (Or.inr h.ne) with ⟨h10, he⟩ | ⟨a, u, rfl, ha, he⟩
    · rw [List.nil_append] at he
      rw [he]
      refine ⟨by simp, rfl, fun s hs => ?_⟩
      simp at hs
      subst hs
      refine ⟨trim_fix s (fun b hb => (h.hd b hb).2) (fun b hb => (h.la b hb).2), ?_, Or.inl ?_⟩
      · cases s with
        | nil => exact absurd rfl h.ne
        | cons c t => exact ⟨c, t, rfl, (h.hd c rfl).2⟩
      · have := ln_app s [] h10
        rw [List.append_nil] at this
        rw [this]
        simp [ln]
    · rw [List.nil_append] at he
      have hu := h.next
      have hane : a ≠ [] := by
        intro e
        subst e
        exact (h.hd 10 rfl).1 rfl
      obtain ⟨i1, i2, i3⟩ := cl_lines n u (by simp at hn; omega) hu
      rw [he]
      refine ⟨by simp, ?_, fun s hs => ?_⟩
      · cases hl : (ls [] u).1 with
        | nil => exact absurd hl i1
        | cons y r =>
          rw [hl] at i2
          show a ++ 10 :: joinLF (y :: r) = _
          rw [i2]
      · rcases List.mem_cons.1 hs with rfl | hs
        · refine ⟨trim_fix s (fun b hb => ?_) (fun b hb => ?_), ?_, Or.inl (ln_lf s u ha).symm⟩
          · cases s with
            | nil => cases hb
            | cons c s => simp at hb; subst hb; exact (h.hd c rfl).2
          · obtain ⟨p, rfl⟩ : ∃ p, s = p ++ [b] := ⟨s.dropLast, by
              have := List.dropLast_concat_getLast hane
              rw [List.getLast?_eq_some_getLast hane] at hb
              cases hb
              exact this.symm⟩
            have := adj_pair p b 10 u (by have := h.ad; simpa using this)
            cases hg : Ln.gapB b with
            | false => rfl
            | true => exact absurd (Or.inr ⟨rfl, hg⟩) this
          · cases s with
            | nil => exact absurd rfl hane
            | cons c t => exact ⟨c, t, rfl, (h.hd c rfl).2⟩
        · obtain ⟨j1, j2, j3⟩ := i3 s hs
          refine ⟨j1, j2, Or.inr ?_⟩
          rcases j3 with j3 | ⟨pre, u', e, j3⟩
          · exact ⟨a, u, rfl, j3⟩
          · exact ⟨a ++ 10 :: pre, u', by rw [e]; simp, j3⟩
structure Norm (L : List Sp) : Prop where
  fit : fits false false 0 L
  txt : txs L
  cr : (13 : UInt8) ∉ wrs L
  hd : ∀ k s kids r, L = .mk k s kids :: r → k = 1 → ∀ b, s.head? = some b → hard b
  la : ∀ k s kids r, L = r ++ [.mk k s kids] → k = 1 → ∀ b, s.getLast? = some b → hard b
theorem wr1_ne {e l : Bool} {k : Int} {s : Tx} {kids : List Sp} (h : fit1 e l (.mk k s kids)) : wr1 (.mk k s kids) ≠ [] := by
  by_cases hk : k = 1
  · subst hk
    rw [fit1] at h
    rcases h with ⟨_, _, hs⟩ | ⟨h, _⟩ | ⟨h, _⟩ | ⟨h, _⟩
    · rw [wr1, if_pos rfl]
      cases s with
      | nil => exact absurd rfl hs
      | cons c s => rw [esc_cons]; cases marked c <;> simp
    all_goals exact absurd h (by decide)
  · obtain ⟨⟨c, t, e, _⟩, _⟩ := ends_hard h hk
    rw [e]; simp
theorem wrs_snoc (x : Sp) : ∀ r : List Sp, wrs (r ++ [x]) = wrs r ++ wr1 x
  | [] => by rw [List.nil_append, wrs, wrs]; simp [wrs]
  | y :: r => by rw [List.cons_append, wrs, wrs, wrs_snoc x r, List.append_assoc]
theorem fits_last {e l : Bool} (x : Sp) : ∀ (r : List Sp) (p : Int), fits e l p (r ++ [x]) → fit1 e l x
  | [], p, h => by
    obtain ⟨k, s, kids⟩ := x
    rw [List.nil_append, fits] at h
    exact h.1
  | .mk k s kids :: r, p, h => by
    rw [List.cons_append, fits] at h
    exact fits_last x r k h.2.2
theorem norm_cl {L : List Sp} (h : Norm L) (hne : L ≠ []) : Cl (wrs L) := by
  have hfit := h.fit
  refine ⟨?_, h.cr, wrs_adj _ _ _ L h.fit h.txt, fun b hb => ?_, fun b hb => ?_⟩
  · match L, hfit, hne with
    | .mk k s kids :: r, hfit, _ =>
      rw [fits] at hfit
      rw [wrs]
      simp [wr1_ne hfit.1]
  · match L, hfit, hne, h, hb with
    | .mk k s kids :: r, hfit, _, h, hb =>
      rw [fits] at hfit
      rw [wrs] at hb
      by_cases hk : k = 1
      · subst hk
        have h1 := hfit.1
        rw [fit1] at h1
        rcases h1 with ⟨_, _, hs⟩ | ⟨h1, _⟩ | ⟨h1, _⟩ | ⟨h1, _⟩
        · rw [wr1, if_pos rfl] at hb
          cases s with
          | nil => exact absurd rfl hs
          | cons c s =>
            have hc := h.hd 1 (c :: s) kids r rfl rfl c rfl
            rw [esc_cons] at hb
            cases hm : marked c with
            | true => rw [hm] at hb; simp at hb; rw [← hb]; exact hard92
            | false => rw [hm] at hb; simp at hb; rw [← hb]; exact hc
        all_goals exact absurd h1 (by decide)
      · obtain ⟨⟨c, t, e, hc⟩, _⟩ := ends_hard hfit.1 hk
        rw [e] at hb
        simp at hb
        rw [← hb]
        exact hc
  · obtain ⟨r, x, rfl⟩ : ∃ r x, L = r ++ [x] := ⟨L.dropLast, L.getLast hne, (List.dropLast_concat_getLast hne).symm⟩
    have hx := fits_last x r 0 hfit
    obtain ⟨k, s, kids⟩ := x
    rw [wrs_snoc, List.getLast?_append] at hb
    by_cases hk : k = 1
    · subst hk
      have h1 := hx
      rw [fit1] at h1
      rcases h1 with ⟨_, _, hs⟩ | ⟨h1, _⟩ | ⟨h1, _⟩ | ⟨h1, _⟩
      · rw [wr1, if_pos rfl, esc_last] at hb
        cases hl : s.getLast? with
        | none => simp at hl; exact absurd hl hs
        | some v =>
          rw [hl] at hb
          simp at hb
          rw [← hb]
          exact h.la 1 s kids r rfl rfl v hl
      all_goals exact absurd h1 (by decide)
    · obtain ⟨_, c, hc, hh⟩ := ends_hard hx hk
      rw [hc] at hb
      simp at hb
      rw [← hb]
      exact hh
theorem start_of {L : List Sp} (h : fits false false 0 L) (hne : L ≠ []) : Start (wrs L) := by
  match L, h, hne with
  | .mk k s kids :: r, h, _ =>
    have h' := h
    rw [fits] at h
    by_cases hk : k = 1
    · subst hk
      refine ⟨s, r, [], false, false, ?_, Cx.nil, h.2.2⟩
      rw [wrs, wr1, if_pos rfl, List.append_nil]
    · refine ⟨[], .mk k s kids :: r, [], false, false, by simp [esc], Cx.nil, ?_⟩
      exact Sp.fits_of h' (fun k' s' kids' r' he => by cases he; exact fun h => hk h.1)
theorem para_ok {L : List Sp} (h : Norm L) (hne : L ≠ []) : PG E L := by
  have hc := norm_cl h hne
  obtain ⟨i1, i2, i3⟩ := cl_lines _ (wrs L) (Nat.le_refl _) hc
  refine ⟨i1, fun s hs => ?_, fun s hs => (i3 s hs).1, ?_⟩
  · obtain ⟨_, ⟨c, t, e, hg⟩, hw⟩ := i3 s hs
    rcases hw with hw | ⟨pre, u, hu, hw⟩
    · rw [hw] at e ⊢
      exact kind_start E _ (start_of h.fit hne) c t e hg
    · have hS : Start u := lf_start false false 0 L h.fit [] Cx.nil (fun pre' u' h' => by simp at h') pre u (by rw [List.append_nil]; exact hu)
      rw [hw] at e ⊢
      exact kind_start E u hS c t e hg
  · show parse (joinLF (ls [] (wrs L)).1) = L
    rw [i2]
    exact parse_write L h.fit
theorem head_ok {L : List Sp} (h : Norm L) : HG L := by
  refine ⟨fun hne => ?_, parse_write L h.fit⟩
  have hc := norm_cl h hne
  rw [trim_sp]
  exact trim_fix _ (fun b hb => (hc.hd b hb).2) (fun b hb => (hc.la b hb).2)
end Go.Proofs.YtldllbmbcnipoabGreatDoor.Bk

namespace Go.Proofs.YtldllbmbcnipoabGreatDoor.Bt
open Go.Proofs.YtldllbmbcnipoabGreatDoor.Sp (Sp)
open Go.Proofs.YtldllbmbcnipoabGreatDoor.Bk (Bk)
set_option linter.unusedVariables false
theorem rg_parts {l : List Bk} (h : rgB l = true) : allB false 0 l = true ∧ dp l ≤ 16 := by
  unfold rgB at h
  rw [Bool.and_eq_true, decide_eq_true_iff] at h
  exact h
theorem ttAll_app : ∀ a b : List Bk, ttAll (a ++ b) = ttAll a + ttAll b
  | [], b => by rw [List.nil_append, ttAll]; omega
  | x :: a, b => by rw [List.cons_append, ttAll_cons, ttAll_cons, ttAll_app a b]; omega
mutual
theorem sz1_tt : ∀ x : Bk, szOne x ≤ ttOne x
  | .mk k lv i ls ss l => by
    have := sz_tt l
    rw [szOne, ttOne]
    omega
theorem sz_tt : ∀ l : List Bk, szAll l ≤ ttAll l
  | [] => by rw [szAll]; omega
  | x :: r => by
    have h1 := sz1_tt x
    have h2 := sz_tt r
    rw [szAll, ttAll]
    omega
end
end Go.Proofs.YtldllbmbcnipoabGreatDoor.Bt

namespace Go.Proofs.YtldllbmbcnipoabGreatDoor.Sp
open Go.RowKit
open Go.Proofs.YtldllbmbcnipoabGreatDoor.Tk (S S_of S_list S_size S_toList S_app ret_int len_data)
open Go.Proofs.YtldllbmbcnipoabGreatDoor.Cm (calls_at alloc_new alloc_at cell_at lt_of_at set_at frozen_at)
set_option linter.unusedVariables false
def lnC (l : List Sp) : Int := IntKind.i64.wrap (1 + ((plAll l).count 10 : Nat))
theorem wrap_wrap (a b : Int) : IntKind.i64.wrap (IntKind.i64.wrap a + b) = IntKind.i64.wrap (a + b) := by
  rw [IntKind.wrap_i64, IntKind.wrap_i64, IntKind.wrap_i64]
  omega
def CntW (b : Nat) (p : List UInt8) (w : World) : Prop := w.heap[b]? = some (Obj.cells #[.int .i64 (IntKind.i64.wrap (1 + (p.count 10 : Nat)))] 3 (0, 0))
theorem linesW1_any (B b : Nat) (p s : List UInt8) (w : World) (h : CntW b p w) (hB : B ≤ b) :
    Calls Tryz.prog 132 #[.string (S s), .pointer (some ⟨b, 0, none⟩)] w fun e w' => e = .returned (.tuple #[]) ∧ Below B w w' ∧ CntW b (p ++ s) w' ∧ ∀ (k : Nat) (c : Array Value), w.heap[k]? = some (Obj.cells c 81 (0, 0)) → w'.heap[k]? = some (Obj.cells c 81 (0, 0)) := by
  have HC := Lib.hid (fun w => Tryz.strings_Count_one (S s) 10 w)
  have HS : Hid (IntKind.i64.wrap (IntKind.i64.wrap (1 + (p.count 10 : Nat)) + (Lib.countByte (S s).data.toList 10 : Nat)) = IntKind.i64.wrap (1 + ((p ++ s).count 10 : Nat))) := Lib.hid (by
    unfold Lib.countByte
    rw [wrap_wrap, S_list, List.count_append]
    push_cast
    congr 1
    omega)
  have c0 : w.cell? ⟨b, 0, none⟩ = some (.int .i64 (IntKind.i64.wrap (1 + (p.count 10 : Nat)))) := cell_at h 0
  have f0 : w.frozen? ⟨b, 0, none⟩ = false := frozen_at h 0
  have HH := Lib.hid h
  unfold CntW at HH
  have HG : Hid (CntW b (p ++ s) (w.setCell ⟨b, 0, none⟩ (.int .i64 (IntKind.i64.wrap (1 + ((p ++ s).count 10 : Nat)))))) := Lib.hid (by unfold CntW; exact set_at HH.out 0 _)
  clear h
  generalize Lib.countByte (S s).data.toList 10 = n at *
  generalize S s = t at *
  obtain ⟨m, hm⟩ : ∃ m, IntKind.i64.wrap (1 + (p.count 10 : Nat)) = m := ⟨_, rfl⟩
  rw [hm] at c0 HH HS
  obtain ⟨mn, hmn⟩ : ∃ m, IntKind.i64.wrap (1 + ((p ++ s).count 10 : Nat)) = m := ⟨_, rfl⟩
  rw [hmn] at HG HS
  clear hm hmn
  have hw := HS.out
  have HK : Hid (∀ (v : Value) (k : Nat) (c : Array Value), w.heap[k]? = some (Obj.cells c 81 (0, 0)) → (w.setCell ⟨b, 0, none⟩ v).heap[k]? = some (Obj.cells c 81 (0, 0))) := Lib.hid (fun v k c hk => by
    rw [Below.heap_setCell _ _ _ _ (fun e => by
      have e : k = b := e
      subst e
      rw [HH.out] at hk
      simp at hk)]
    exact hk)
  have HBl : Hid (∀ v, Below B w (w.setCell ⟨b, 0, none⟩ v)) := Lib.hid (fun v => (Below.refl B w).setCell (p := ⟨b, 0, none⟩) hB v)
  go_enter Tryz.func132, Tryz.ntmps132
  go_region_with (go_at_call 133; refine (HC.out _).mono ?_; rintro e w' ⟨rfl, hw⟩; subst hw)
  all_goals go_end0
  all_goals exact ⟨rfl, (HBl.out _).drew, HG.out, fun k c hk => HK.out _ k c hk⟩
def IntW (w : World) (n : Int) (e : Ending) (w' : World) : Prop := e = .returned (.int .i64 n) ∧ Below w.heap.size w w'
theorem linesWP_any (l : List Sp) (v : Value) (w : World) (ht : Tr w v l) :
    Calls Tryz.prog 111 #[v] w (IntW w (lnC l)) := by
  have hK : Sink 132 (.pointer (some ⟨w.heap.size, 0, none⟩)) w.heap.size (plAll l).length (fun p w' => CntW w.heap.size p w') :=
    ⟨enters_of Tryz.func132 (by kernel_rfl) rfl, fun p w' o h => alloc_at h o, fun p s w' h hB hl => linesW1_any _ _ p s w' h (Nat.le_refl _)⟩
  have hb1 : Below w.heap.size w (w.alloc (.cells #[.int .i64 1] 3)) := (Below.refl _ _).alloc (Nat.le_refl _) _
  have hf : CntW w.heap.size [] (w.alloc (.cells #[.int .i64 1] 3)) := alloc_new w _
  have HR := Lib.hid (read_any _ _ (plAll l).length _ w hK (totAll l) l v (w.alloc (.cells #[.int .i64 1] 3)) [] (Nat.le_refl _) ht hb1 hf (by simp))
  obtain ⟨ao, ca, rfl⟩ := ht.len
  rw [List.nil_append] at HR
  have HX : Hid (lnC l = IntKind.i64.wrap (1 + ((plAll l).count 10 : Nat))) := Lib.hid rfl
  obtain ⟨X, hX⟩ : ∃ X, lnC l = X := ⟨_, rfl⟩
  rw [hX] at HX
  rw [hX]
  clear hK hb1 hf ht hX
  generalize plAll l = p at *
  go_enter Tryz.func111, Tryz.ntmps111
  go_wp2_with fail
  refine HR.out.mono ?_
  rintro e w2 ⟨rfl, hb2, hi2⟩
  have HB2 := Lib.hid hb2
  unfold CntW at hi2
  rw [← HX.out] at hi2
  have c0 : w2.cell? ⟨w.heap.size, 0, none⟩ = some (.int .i64 X) := cell_at hi2 0
  clear hb2 hi2 HR HX
  go_wp2_with fail
  go_ret
  exact ⟨rfl, HB2.out⟩
end Go.Proofs.YtldllbmbcnipoabGreatDoor.Sp
