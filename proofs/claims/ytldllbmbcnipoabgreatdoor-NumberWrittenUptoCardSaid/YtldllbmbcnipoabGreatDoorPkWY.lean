/-
  Several texts in one:
  
  
  
  
  
  
-/
import Derived.Test.YtldllbmbcnipoabGreatDoorPkWX
import Derived.Test.YtldllbmbcnipoabGreatDoorPkWR
import Derived.Test.YtldllbmbcnipoabGreatDoorPkWS
import Derived.Test.YtldllbmbcnipoabGreatDoorPkWQ
import Derived.Test.YtldllbmbcnipoabGreatDoorPkWG
import Derived.Test.YtldllbmbcnipoabGreatDoorPkWC
namespace Go.Proofs.YtldllbmbcnipoabGreatDoor.Bt
open Go.Proofs.YtldllbmbcnipoabGreatDoor.Tk (S S_size S_list at_data)
open Go.Proofs.YtldllbmbcnipoabGreatDoor.Sp (Sp rtB hsB plAll dsB dcB lnC plAll_len dc_range chk_ascii has_mem)
open Go.Proofs.YtldllbmbcnipoabGreatDoor.Bk (Bk)
set_option linter.unusedVariables false
def usB (k lv : Int) (i : List UInt8) (ls : List (List UInt8)) (ss : List Sp) (l : List Bk) : Bool :=
  if k = 1 then (lv == 0) && i.isEmpty && ls.isEmpty && l.isEmpty
  else if k = 2 then i.isEmpty && ls.isEmpty && l.isEmpty
  else if k = 4 ∨ k = 8 then (lv == 0) && ss.isEmpty && l.isEmpty
  else if k = 5 ∨ k = 6 ∨ k = 7 then (lv == 0) && i.isEmpty && ls.isEmpty && ss.isEmpty
  else (lv == 0) && i.isEmpty && ls.isEmpty && ss.isEmpty && l.isEmpty
mutual
def oneW (n : Nat) : Bk → Bool
  | .mk k lv i ls ss l => usB k lv i ls ss l && (
    if k = 1 then !ss.isEmpty && rtB ss
    else if k = 2 then decide (lv ≥ 1) && decide (lv ≤ 6) && rtB ss && (lnC ss == 1)
    else if k = 3 then true
    else if k = 4 then infB i && ls.all lineB
    else if k = 5 then decide (0 < n) && allW (n - 1) 0 l
    else if k = 7 then decide (0 < n) && allW (n - 1) 0 l
    else if k = 6 then decide (0 < n) && (itmW (n - 1) l && !l.isEmpty)
    else if k = 8 then labB i && decide (ls.length = 1) && (ckB (ls.headD []) && dsB (ls.headD []))
    else false)
def allW (n : Nat) (p : Int) : List Bk → Bool
  | [] => true
  | x :: r => !decide (x.kind = 7) && !(decide (p = 6) && decide (x.kind = 6)) && oneW n x && allW n x.kind r
def itmW (n : Nat) : List Bk → Bool
  | [] => true
  | x :: r => decide (x.kind = 7) && oneW n x && itmW n r
end
mutual
def oneV (list : Bool) : Bk → Bool
  | .mk k lv i ls ss l => (decide (k = 7) == list) && (
    if k = 1 then (lv == 0) && i.isEmpty && ls.isEmpty && l.isEmpty && !ss.isEmpty && rtB ss
    else if k = 2 then i.isEmpty && ls.isEmpty && l.isEmpty && decide (lv ≥ 1) && decide (lv ≤ 6) && rtB ss && (lnC ss == 1)
    else if k = 3 then (lv == 0) && i.isEmpty && ls.isEmpty && ss.isEmpty && l.isEmpty
    else if k = 4 then ls.all lineB && ((lv == 0) && ss.isEmpty && l.isEmpty && infB i)
    else if k = 5 then (lv == 0) && i.isEmpty && ls.isEmpty && ss.isEmpty && allV false 0 l
    else if k = 7 then (lv == 0) && i.isEmpty && ls.isEmpty && ss.isEmpty && allV false 0 l
    else if k = 6 then (lv == 0) && i.isEmpty && ls.isEmpty && ss.isEmpty && !l.isEmpty && allV true 0 l
    else if k = 8 then (lv == 0) && ss.isEmpty && l.isEmpty && labB i && decide (ls.length = 1) && (ckB (ls.headD []) && dsB (ls.headD []))
    else false)
def allV (list : Bool) (p : Int) : List Bk → Bool
  | [] => true
  | x :: r => oneV list x && !(decide (p = 6) && decide (x.kind = 6)) && allV list x.kind r
end
mutual
def d1N : Bk → Nat
  | .mk k _ _ _ _ l => if boxB k = true then 1 + dN l else dN l
def dN : List Bk → Nat
  | [] => 0
  | x :: r => max (d1N x) (dN r)
end
theorem allW_cons (n : Nat) (p : Int) (x : Bk) (r : List Bk) : allW n p (x :: r) = (!decide (x.kind = 7) && !(decide (p = 6) && decide (x.kind = 6)) && oneW n x && allW n x.kind r) := by rw [allW]
theorem itmW_cons (n : Nat) (x : Bk) (r : List Bk) : itmW n (x :: r) = (decide (x.kind = 7) && oneW n x && itmW n r) := by rw [itmW]
theorem allV_cons (list : Bool) (p : Int) (x : Bk) (r : List Bk) : allV list p (x :: r) = (oneV list x && !(decide (p = 6) && decide (x.kind = 6)) && allV list x.kind r) := by rw [allV]
theorem dN_cons (x : Bk) (r : List Bk) : dN (x :: r) = max (d1N x) (dN r) := by rw [dN]
theorem oneV_off {x : Bk} (h : x.kind = 7) : oneV false x = false := by
  obtain ⟨k, lv, i, ls, ss, l⟩ := x
  have h : k = 7 := h
  rw [oneV, decide_eq_true h]
  rfl
theorem oneV_on {x : Bk} (h : x.kind ≠ 7) : oneV true x = false := by
  obtain ⟨k, lv, i, ls, ss, l⟩ := x
  have h : k ≠ 7 := h
  rw [oneV, decide_eq_false h]
  rfl
theorem in_one (n d : Nat) (A : Bool) : (decide (0 < n) && (A && decide (d ≤ n - 1))) = (A && decide (1 + d ≤ n)) := by
  rw [Bool.eq_iff_iff]
  simp only [Bool.and_eq_true, decide_eq_true_iff]
  constructor
  · rintro ⟨h1, h2, h3⟩; exact ⟨h2, by omega⟩
  · rintro ⟨h1, h2⟩; exact ⟨by omega, h1, by omega⟩
theorem max_le (a b n : Nat) : decide (max a b ≤ n) = (decide (a ≤ n) && decide (b ≤ n)) := by
  rw [Bool.eq_iff_iff, Bool.and_eq_true, decide_eq_true_iff, decide_eq_true_iff, decide_eq_true_iff]
  omega
mutual
theorem oneW_eq : ∀ (x : Bk) (n : Nat), oneW n x = (oneV (decide (x.kind = 7)) x && decide (d1N x ≤ n))
  | .mk k lv i ls ss l, n => by
    have I1 := allW_eq l (n - 1) 0
    have I2 := itmW_eq l (n - 1) 0
    have hk : (Bk.mk k lv i ls ss l).kind = k := rfl
    rw [oneW, oneV, d1N, hk, I1, I2, beq_self_eq_true, Bool.true_and]
    unfold usB boxB
    by_cases q1 : k = 1
    · subst q1
      cases l with
      | nil => simp [dN, Bool.and_assoc]
      | cons y r => simp
    · by_cases q2 : k = 2
      · subst q2
        cases l with
        | nil => simp [dN, Bool.and_assoc]
        | cons y r => simp
      · by_cases q3 : k = 3
        · subst q3
          cases l with
          | nil => simp [dN]
          | cons y r => simp
        · by_cases q4 : k = 4
          · subst q4
            cases l with
            | nil =>
              simp [dN]
              generalize infB i = a
              generalize ls.all lineB = b
              cases a <;> cases b <;> simp
            | cons y r => simp
          · by_cases q5 : k = 5
            · subst q5
              have h := in_one n (dN l) (allV false 0 l)
              simp [-Bool.and_eq_true, h, Bool.and_assoc]
            · by_cases q7 : k = 7
              · subst q7
                have h := in_one n (dN l) (allV false 0 l)
                simp [-Bool.and_eq_true, h, Bool.and_assoc]
              · by_cases q6 : k = 6
                · subst q6
                  have h2 : decide (1 + dN l ≤ n) = (decide (0 < n) && decide (dN l ≤ n - 1)) := by have h := in_one n (dN l) true; rw [Bool.true_and, Bool.true_and] at h; exact h.symm
                  simp only [Int.reduceEq, if_false, if_true, or_true, or_false, decide_false, decide_true, Bool.or_true, Bool.or_false, h2]
                  generalize decide (0 < n) = a
                  generalize decide (dN l ≤ n - 1) = b
                  generalize allV true 0 l = c
                  generalize l.isEmpty = d
                  generalize (lv == 0 && List.isEmpty i && ls.isEmpty && ss.isEmpty) = e
                  revert a b c d e
                  decide
                · by_cases q8 : k = 8
                  · subst q8
                    cases l with
                    | nil => simp [dN, Bool.and_assoc]
                    | cons y r => simp
                  · simp [q1, q2, q3, q4, q5, q6, q7, q8]
theorem allW_eq : ∀ (l : List Bk) (n : Nat) (p : Int), allW n p l = (allV false p l && decide (dN l ≤ n))
  | [], n, p => by rw [allW, allV, dN]; simp
  | x :: r, n, p => by
    rw [allW_cons, allV_cons, dN_cons, oneW_eq x n, allW_eq r n x.kind, max_le]
    by_cases h : x.kind = 7
    · rw [decide_eq_true h, oneV_off h]; rfl
    · rw [decide_eq_false h]
      generalize oneV false x = a
      generalize allV false x.kind r = b
      generalize decide (d1N x ≤ n) = c
      generalize decide (dN r ≤ n) = d
      generalize (decide (p = 6) && decide (x.kind = 6)) = e
      revert a b c d e
      decide
theorem itmW_eq : ∀ (l : List Bk) (n : Nat) (p : Int), itmW n l = (allV true p l && decide (dN l ≤ n))
  | [], n, p => by rw [itmW, allV, dN]; simp
  | x :: r, n, p => by
    rw [itmW_cons, allV_cons, dN_cons, oneW_eq x n, itmW_eq r n x.kind, max_le]
    by_cases h : x.kind = 7
    · have h6 : x.kind ≠ 6 := by omega
      rw [decide_eq_true h, decide_eq_false h6]
      generalize oneV true x = a
      generalize allV true x.kind r = b
      generalize decide (d1N x ≤ n) = c
      generalize decide (dN r ≤ n) = d
      generalize decide (p = 6) = e
      revert a b c d e
      decide
    · rw [decide_eq_false h, oneV_on h]; rfl
end
mutual
theorem dpOne_dN : ∀ (x : Bk) (n : Int), 0 ≤ n → d1N x ≤ 100000000 → dpOne n x = max n (d1N x : Nat)
  | .mk k lv i ls ss l, n, h0, h => by
    rw [d1N] at h ⊢
    rw [dpOne]
    cases hb : boxB k with
    | true =>
      rw [hb, if_pos rfl] at h
      rw [if_pos rfl, if_pos rfl, dpAll_dN l 0 (by omega) (by omega), IntKind.wrap_i64]
      omega
    | false =>
      rw [hb, if_neg (by decide)] at h
      rw [if_neg (by decide), if_neg (by decide), dpAll_dN l 0 (by omega) (by omega)]
      omega
theorem dpAll_dN : ∀ (l : List Bk) (n : Int), 0 ≤ n → dN l ≤ 100000000 → dpAll n l = max n (dN l : Nat)
  | [], n, h0, h => by
    rw [dpAll, dN]
    omega
  | x :: r, n, h0, h => by
    rw [dN] at h ⊢
    rw [dpAll, dpOne_dN x n h0 (by omega), dpAll_dN r _ (by omega) (by omega)]
    omega
end
theorem dp_dN {l : List Bk} (h : dN l ≤ 100000000) : dp l = (dN l : Nat) := by
  show dpAll 0 l = _
  rw [dpAll_dN l 0 (by omega) h]
  omega
mutual
theorem d1N_tt : ∀ x : Bk, d1N x ≤ ttOne x
  | .mk k lv i ls ss l => by
    have := dN_tt l
    rw [d1N, ttOne]
    split <;> omega
theorem dN_tt : ∀ l : List Bk, dN l ≤ ttAll l
  | [] => by rw [dN]; omega
  | x :: r => by
    have h1 := d1N_tt x
    have h2 := dN_tt r
    rw [dN, ttAll_cons]
    omega
end
theorem dest_text8 {s : List UInt8} (h : dsB s = true) (hs : s.length ≤ 1048576) : ckB s = true := by
  unfold ckB
  refine decide_eq_true (chk_ascii (S s) (by rw [S_size]; omega) (fun k hk => ?_))
  unfold dsB at h
  rw [Bool.and_eq_true, List.all_eq_true] at h
  apply dc_range
  apply h.1
  have := at_data (S s) k hk
  rw [S_list] at this
  have hm : (S s)[k] ∈ s.drop k := by rw [this]; exact List.mem_cons_self ..
  exact List.mem_of_mem_drop hm
theorem lnC_has {ss : List Sp} (h : Sp.totAll ss ≤ 9000000) : (lnC ss == 1) = !hsB 10 (plAll ss) := by
  have h1 : (plAll ss).count 10 ≤ 9000000 := Nat.le_trans List.count_le_length (Nat.le_trans (plAll_len ss) h)
  unfold lnC
  rw [IntKind.wrap_i64, Bool.eq_iff_iff, beq_iff_eq, Bool.not_eq_true']
  constructor
  · intro h2
    have h3 : (plAll ss).count 10 = 0 := by omega
    rw [List.count_eq_zero] at h3
    cases hb : hsB 10 (plAll ss) with
    | false => rfl
    | true => exact absurd (has_mem 10 (plAll ss) |>.1 hb) h3
  · intro h2
    have h3 : (plAll ss).count 10 = 0 := by
      rw [List.count_eq_zero]
      intro hm
      rw [(has_mem 10 (plAll ss)).2 hm] at h2
      cases h2
    omega
mutual
theorem oneV_oneB (b : Bool) : ∀ x : Bk, fitOne 1048576 x → ttOne x ≤ 9000000 → oneV b x = oneB b x
  | .mk k lv i ls ss l, hf, ht => by
    rw [ttOne] at ht
    rw [fitOne] at hf
    have hd : (ckB (ls.headD []) && dsB (ls.headD [])) = dsB (ls.headD []) := by
      cases h : dsB (ls.headD []) with
      | false => rw [Bool.and_false]
      | true =>
        rw [dest_text8 h (by
          cases ls with
          | nil => simp
          | cons s r => exact hf.2.2.2.1 s (List.mem_cons_self ..))]
        rfl
    rw [oneV, oneB, hd, lnC_has (by omega), allV_allB false l 0 hf.2.2.2.2.2 (by omega), allV_allB true l 0 hf.2.2.2.2.2 (by omega)]
theorem allV_allB (b : Bool) : ∀ (l : List Bk) (p : Int), fitAll 1048576 l → ttAll l ≤ 9000000 → allV b p l = allB b p l
  | [], p, _, _ => by rw [allV, allB]
  | x :: r, p, hf, ht => by
    unfold fitAll at hf
    rw [ttAll_cons] at ht
    rw [allV_cons, allB_cons, oneV_oneB b x hf.1 (by omega), allV_allB b r x.kind hf.2 (by omega)]
end
def rgW (l : List Bk) : Bool := allW 16 0 l
theorem rgW_eq (l : List Bk) : rgW l = (allV false 0 l && decide (dN l ≤ 16)) := allW_eq l 16 0
theorem rgW_rgB {l : List Bk} (hf : fitAll 1048576 l) (ht : ttAll l ≤ 9000000) : rgW l = rgB l := by
  rw [rgW_eq, allV_allB false l 0 hf ht]
  unfold rgB
  have h := dN_tt l
  rw [dp_dN (by omega)]
  congr 1
  rw [Bool.eq_iff_iff, decide_eq_true_iff, decide_eq_true_iff]
  omega
end Go.Proofs.YtldllbmbcnipoabGreatDoor.Bt

namespace Go.Proofs.YtldllbmbcnipoabGreatDoor.Sp
open Go.Proofs.YtldllbmbcnipoabGreatDoor.Tk (cls at_data len_data)
set_option linter.unusedVariables false
variable {e l : Bool} {L : List Sp}
end Go.Proofs.YtldllbmbcnipoabGreatDoor.Sp

namespace Go.Proofs.YtldllbmbcnipoabGreatDoor.Sp
open Go.Proofs.YtldllbmbcnipoabGreatDoor.Tk (cls at_data len_data)
set_option linter.unusedVariables false
end Go.Proofs.YtldllbmbcnipoabGreatDoor.Sp

namespace Go.Proofs.YtldllbmbcnipoabGreatDoor.Sp
open Go.Proofs.YtldllbmbcnipoabGreatDoor.Tk (cls)
set_option linter.unusedVariables false
theorem hs_not {c : UInt8} {s : List UInt8} (h : hsB c s = false) : c ∉ s := by
  intro hm
  have : hsB c s = true := List.any_eq_true.2 ⟨c, hm, by simp⟩
  rw [h] at this
  cases this
mutual
theorem fit1_ok (e k : Bool) : ∀ x : Sp, okOne e k x = true → fit1 e k x
  | .mk q s l, h => by
    have ih := fun e k p h => fits_ok e k p l h
    rw [okOne, Bool.and_eq_true] at h
    have h2 := h.2
    rw [fit1]
    split at h2
    · rename_i h1
      rw [Bool.and_eq_true] at h2
      refine Or.inl ⟨h1, List.isEmpty_iff.1 h2.1, ?_⟩
      rintro rfl
      exact absurd h2.2 (by decide)
    · split at h2
      · rename_i h1
        simp only [Bool.and_eq_true, Bool.not_eq_true'] at h2
        refine Or.inr (Or.inl ⟨h1, List.isEmpty_iff.1 h2.1, ?_, hs_not h2.2.2.1⟩)
        rintro rfl
        exact absurd h2.2.1 (by decide)
      · split at h2
        · rename_i h1
          simp only [Bool.and_eq_true, Bool.not_eq_true'] at h2
          refine Or.inr (Or.inr (Or.inl ⟨h1, List.isEmpty_iff.1 h2.1, ?_, h2.2.2.1, ih _ _ _ h2.2.2.2⟩))
          rintro rfl
          exact absurd h2.2.1 (by decide)
        · split at h2
          · rename_i h1
            simp only [Bool.and_eq_true, Bool.not_eq_true'] at h2
            have hd := h2.1
            unfold dsB at hd
            rw [Bool.and_eq_true] at hd
            refine Or.inr (Or.inr (Or.inr ⟨h1, ?_, fun c hc => ?_, ?_, h2.2.2.1, ih _ _ _ h2.2.2.2⟩))
            · rintro rfl
              exact absurd hd.2 (by decide)
            · rw [dcB_eq]; exact List.all_eq_true.1 hd.1 c hc
            · rintro rfl
              exact absurd h2.2.1 (by decide)
          · cases h2
theorem fits_ok (e k : Bool) (p : Int) : ∀ L : List Sp, okAll e k p L = true → fits e k p L
  | [], _ => by rw [fits]; trivial
  | .mk q s l :: r, h => by
    rw [okAll_cons, Bool.and_eq_true, Bool.and_eq_true] at h
    rw [fits]
    refine ⟨fit1_ok e k (.mk q s l) h.1.1, ?_, fits_ok e k q r h.2⟩
    rintro ⟨h1, h2⟩
    have h3 := h.1.2
    rw [show (Sp.mk q s l).kind = q from rfl, decide_eq_true h1, decide_eq_true h2] at h3
    cases h3
end
theorem fits_rt {l : List Sp} (h : rtB l = true) : fits false false 0 l := by
  unfold rtB at h
  rw [Bool.and_eq_true] at h
  exact fits_ok _ _ _ l h.1
theorem esc_one (c : UInt8) (r : List UInt8) : esc (c :: r) = (if marked c = true then [92, c] else [c]) ++ esc r := by
  rw [esc]
  split <;> rfl
theorem esc_both : ∀ a b : List UInt8, esc (a ++ b) = esc a ++ esc b
  | [], b => by simp [esc]
  | c :: a, b => by
    rw [List.cons_append, esc_one, esc_one, esc_both a b, List.append_assoc]
end Go.Proofs.YtldllbmbcnipoabGreatDoor.Sp

namespace Go.Proofs.YtldllbmbcnipoabGreatDoor.Utf
open Go.RowKit
theorem nx_parts (f : Nat → Nat) (m : Nat) (h : (nx f m).2 ≠ 0) :
    nx f m = (acc f (ln (f 0) - 1), ln (f 0)) ∧ 0 < ln (f 0) ∧ ln (f 0) ≤ m ∧ conts f (ln (f 0) - 1) = true ∧ fitsB (acc f (ln (f 0) - 1)) (ln (f 0)) = true := by
  unfold nx at h ⊢
  split at h
  · exact absurd rfl h
  · rename_i h0
    split at h
    · rename_i h1
      rw [if_neg h0, if_pos h1]
      exact ⟨rfl, by omega, by omega, h1.1, h1.2⟩
    · exact absurd rfl h
end Go.Proofs.YtldllbmbcnipoabGreatDoor.Utf

namespace Go.Proofs.YtldllbmbcnipoabGreatDoor.Utf
open Go.RowKit
set_option linter.unusedVariables false
theorem conts_congr (f g : Nat → Nat) (j : Nat) (h : ∀ i, i ≤ j → g i = f i) : conts g j = conts f j ∧ acc g j = acc f j := by
  induction j with
  | zero => exact ⟨rfl, by rw [acc_zero, acc_zero, h 0 (Nat.le_refl _)]⟩
  | succ j ih =>
    obtain ⟨h1, h2⟩ := ih (fun i hi => h i (by omega))
    exact ⟨by rw [conts_succ, conts_succ, h1, h (j + 1) (Nat.le_refl _)], by rw [acc_succ, acc_succ, h2, h (j + 1) (Nat.le_refl _)]⟩
theorem nx_congr (f g : Nat → Nat) (m m' : Nat) (h : (nx f m).2 ≠ 0) (hg : ∀ i, i < (nx f m).2 → g i = f i) (hm : (nx f m).2 ≤ m') : nx g m' = nx f m := by
  obtain ⟨e, h0, h1, h2, h3⟩ := nx_parts f m h
  rw [e] at hg hm ⊢
  have hg' : ∀ i, i < ln (f 0) → g i = f i := hg
  have hm' : ln (f 0) ≤ m' := hm
  have e0 : g 0 = f 0 := hg' 0 h0
  obtain ⟨c1, c2⟩ := conts_congr f g (ln (f 0) - 1) (fun i hi => hg' i (by omega))
  rw [← e0] at h0 hm' h2 h3 c1 c2 ⊢
  rw [nx_yes g m' h0 hm' (by rw [c1]; exact h2) (by rw [c2]; exact h3), c2]
theorem conts_at (f : Nat → Nat) (i j : Nat) (h : conts f j = true) (h1 : 1 ≤ i) (h2 : i ≤ j) : 128 ≤ f i ∧ f i ≤ 191 := by
  obtain ⟨i', rfl⟩ : ∃ i', i = i' + 1 := ⟨i - 1, by omega⟩
  exact (conts_more f i' (conts_le f (i' + 1) j h h2)).2
theorem bt_out (t : ByteArray) (k : Nat) (h : t.size ≤ k) : bt t k = 0 := by
  unfold bt
  rw [List.getD_eq_getElem?_getD, List.getElem?_eq_none (by simpa using h)]
  rfl
theorem bt_append_right (a b : ByteArray) (k : Nat) : bt (a ++ b) (a.size + k) = bt b k := by
  unfold bt
  rw [List.getD_eq_getElem?_getD, List.getD_eq_getElem?_getD, ByteArray.data_append, Array.toList_append, List.getElem?_append_right (by simp)]
  congr 3
  simp
theorem bt_append_left (a b : ByteArray) (k : Nat) (h : k < a.size) : bt (a ++ b) k = bt a k := by
  unfold bt
  rw [List.getD_eq_getElem?_getD, List.getD_eq_getElem?_getD, ByteArray.data_append, Array.toList_append, List.getElem?_append_left (by simpa using h)]
theorem bt_extract (t : ByteArray) (i m k : Nat) (hm : m ≤ t.size) (h : i + k < m) : bt (t.extract i m) k = bt t (i + k) := by
  unfold bt
  rw [List.getD_eq_getElem?_getD, List.getD_eq_getElem?_getD, ByteArray.data_extract, Array.toList_extract, List.extract_eq_take_drop, List.getElem?_take_of_lt (by omega), List.getElem?_drop]
theorem bt_suffix (t : ByteArray) (i k : Nat) : bt (t.extract i t.size) k = bt t (i + k) := by
  by_cases h : i + k < t.size
  · exact bt_extract t i t.size k (Nat.le_refl _) h
  · rw [bt_out t (i + k) (by omega), bt_out _ _ (by rw [ByteArray.size_extract]; omega)]
theorem nxt_suffix (t : ByteArray) (i k : Nat) : nxt (t.extract i t.size) k = nxt t (i + k) := by
  unfold nxt
  rw [ByteArray.size_extract]
  have e1 : (fun j => bt (t.extract i t.size) (k + j)) = fun j => bt t (i + k + j) := by
    funext j; rw [bt_suffix, Nat.add_assoc]
  rw [e1, show min t.size t.size - i - k = t.size - (i + k) by omega]
theorem nxt_append_right (a b : ByteArray) (k : Nat) : nxt (a ++ b) (a.size + k) = nxt b k := by
  unfold nxt
  have e1 : (fun j => bt (a ++ b) (a.size + k + j)) = fun j => bt b (k + j) := by
    funext j; rw [Nat.add_assoc, bt_append_right]
  rw [e1, ByteArray.size_append, show a.size + b.size - (a.size + k) = b.size - k by omega]
theorem nxt_append_left (a b : ByteArray) (k : Nat) (h : (nxt a k).2 ≠ 0) : nxt (a ++ b) k = nxt a k := by
  have hle := nxt_le a k
  refine nx_congr (fun i => bt a (k + i)) _ (a.size - k) _ h (fun i hi => ?_) ?_
  · have hi' : i < (nxt a k).2 := hi
    exact bt_append_left a b (k + i) (by omega)
  · show (nxt a k).2 ≤ _
    rw [ByteArray.size_append]; omega
theorem nxt_front (t : ByteArray) (m k : Nat) (hm : m ≤ t.size) (h : (nxt t k).2 ≠ 0) (hk : k + (nxt t k).2 ≤ m) : nxt (t.extract 0 m) k = nxt t k := by
  refine nx_congr (fun i => bt t (k + i)) _ (t.size - k) _ h (fun i hi => ?_) ?_
  · have hi' : i < (nxt t k).2 := hi
    show bt (t.extract 0 m) (k + i) = bt t (k + i)
    rw [bt_extract t 0 m (k + i) hm (by omega), Nat.zero_add]
  · show (nxt t k).2 ≤ _
    rw [ByteArray.size_extract]; omega
theorem nxt_parts (t : ByteArray) (k : Nat) (h : (nxt t k).2 ≠ 0) : (nxt t k).2 = ln (bt t k) ∧ conts (fun i => bt t (k + i)) (ln (bt t k) - 1) = true := by
  obtain ⟨e, h0, h1, h2, h3⟩ := nx_parts (fun i => bt t (k + i)) (t.size - k) h
  exact ⟨congrArg Prod.snd e, h2⟩
theorem goesAt_suffix (t : ByteArray) (i k : Nat) : goesAt (t.extract i t.size) k = goesAt t (i + k) := by
  have hsz : (t.extract i t.size).size = t.size - i := by rw [ByteArray.size_extract]; omega
  obtain ⟨m, hm⟩ : ∃ m, t.size - (i + k) = m := ⟨_, rfl⟩
  induction m using Nat.strongRecOn generalizing k with
  | ind m ih =>
    by_cases h : t.size ≤ i + k
    · rw [goesAt_end _ _ h, goesAt_end _ _ (by omega)]
    · have e := nxt_suffix t i k
      by_cases h0 : (nxt t (i + k)).2 = 0
      · rw [goesAt_bad t _ (by omega) h0, goesAt_bad _ k (by omega) (by rw [e]; exact h0)]
      · rw [← goesAt_step t _ (by omega) h0, ← goesAt_step _ k (by omega) (by rw [e]; exact h0), e, Nat.add_assoc]
        exact ih _ (by omega) _ rfl
theorem goesAt_append_right (a b : ByteArray) (k : Nat) : goesAt (a ++ b) (a.size + k) = goesAt b k := by
  have hsz := ByteArray.size_append (a := a) (b := b)
  obtain ⟨m, hm⟩ : ∃ m, b.size - k = m := ⟨_, rfl⟩
  induction m using Nat.strongRecOn generalizing k with
  | ind m ih =>
    by_cases h : b.size ≤ k
    · rw [goesAt_end _ _ h, goesAt_end _ _ (by omega)]
    · have e := nxt_append_right a b k
      by_cases h0 : (nxt b k).2 = 0
      · rw [goesAt_bad b _ (by omega) h0, goesAt_bad _ _ (by omega) (by rw [e]; exact h0)]
      · rw [← goesAt_step b _ (by omega) h0, ← goesAt_step _ _ (by omega) (by rw [e]; exact h0), e, Nat.add_assoc]
        exact ih _ (by omega) _ rfl
theorem goesAt_append_left (a b : ByteArray) (k : Nat) (hk : k ≤ a.size) (h : goesAt a k = true) : goesAt (a ++ b) k = goesAt (a ++ b) a.size := by
  have hsz := ByteArray.size_append (a := a) (b := b)
  obtain ⟨m, hm⟩ : ∃ m, a.size - k = m := ⟨_, rfl⟩
  induction m using Nat.strongRecOn generalizing k with
  | ind m ih =>
    by_cases h1 : k = a.size
    · rw [h1]
    · have h0 : (nxt a k).2 ≠ 0 := fun h0 => by rw [goesAt_bad a k (by omega) h0] at h; cases h
      have e := nxt_append_left a b k h0
      have hle := nxt_le a k
      rw [← goesAt_step _ k (by omega) (by rw [e]; exact h0), e]
      exact ih _ (by omega) _ (by omega) (by rw [goesAt_step a k (by omega) h0]; exact h) rfl
theorem goes_join (a b : ByteArray) (ha : goesAt a 0 = true) (hb : goesAt b 0 = true) : goesAt (a ++ b) 0 = true := by
  rw [goesAt_append_left a b 0 (Nat.zero_le _) ha, ← hb]
  exact goesAt_append_right a b 0
def Bnd (t : ByteArray) (p : Nat) : Prop := goesAt t p = true ∧ p ≤ t.size ∧ ∀ m, p ≤ m → m ≤ t.size → goesAt (t.extract 0 m) 0 = goesAt (t.extract 0 m) p
theorem Bnd.start (t : ByteArray) (h : goesAt t 0 = true) : Bnd t 0 := ⟨h, Nat.zero_le _, fun _ _ _ => rfl⟩
theorem Bnd.nonzero {t : ByteArray} {p : Nat} (h : Bnd t p) (hp : p < t.size) : (nxt t p).2 ≠ 0 := fun h0 => by
  have h1 := h.1
  rw [goesAt_bad t p hp h0] at h1; cases h1
theorem Bnd.step {t : ByteArray} {p : Nat} (h : Bnd t p) (hp : p < t.size) : Bnd t (p + (nxt t p).2) := by
  have h0 := h.nonzero hp
  have hle := nxt_le t p
  refine ⟨by rw [goesAt_step t p hp h0]; exact h.1, by omega, fun m h1 h2 => ?_⟩
  have e := nxt_front t m p h2 h0 h1
  have hs : (t.extract 0 m).size = m := by rw [ByteArray.size_extract]; omega
  rw [h.2.2 m (by omega) h2, ← goesAt_step (t.extract 0 m) p (by omega) (by rw [e]; exact h0), e]
theorem Bnd.parts {t : ByteArray} {k : Nat} (h : Bnd t k) : goesAt (t.extract 0 k) 0 = true ∧ goesAt (t.extract k t.size) 0 = true := by
  have hs : (t.extract 0 k).size = k := by rw [ByteArray.size_extract]; have := h.2.1; omega
  exact ⟨by rw [h.2.2 k (Nat.le_refl _) h.2.1]; exact goesAt_end _ _ (by omega), by rw [goesAt_suffix, Nat.add_zero]; exact h.1⟩
theorem chk_zero_iff (t : ByteArray) : chk t = 0 ↔ ¬ 1048576 < (t.size : Int) ∧ zeroB t = false ∧ goesAt t 0 = true := by
  unfold chk
  split
  · rename_i h; exact ⟨fun h1 => by omega, fun h1 => absurd h h1.1⟩
  · rename_i h
    split
    · rename_i h2; exact ⟨fun h1 => by omega, fun h1 => by rw [h2] at h1; cases h1.2.1⟩
    · rename_i h2
      split
      · rename_i h3; exact ⟨fun _ => ⟨h, by simpa using h2, h3⟩, fun _ => rfl⟩
      · rename_i h3; exact ⟨fun h1 => by omega, fun h1 => absurd h1.2.2 h3⟩
end Go.Proofs.YtldllbmbcnipoabGreatDoor.Utf
