/-
  BLOCKS IN NORMAL FORM, with room for so many containers one in the other, for blocks of whatever size, in plain words; where they are of a size that is looked at, it is the document's answer. No program.
-/
import Derived.Test.YthmgbmgbifbheaaDoorBtPlain
import Derived.Test.YthmgbmgbifbheaaDoorSpLinesW
import Derived.Test.YthmgbmgbifbheaaDoorSpChars
import Derived.Test.YthmgbmgbifbheaaDoorSpCrPlain
namespace Go.Proofs.YthmgbmgbifbheaaDoor.Bt
open Go.Proofs.YthmgbmgbifbheaaDoor.Tk (S S_size S_list at_data)
open Go.Proofs.YthmgbmgbifbheaaDoor.Sp (Sp rtB hsB plAll dsB dcB lnC plAll_len dc_range chk_ascii has_mem)
open Go.Proofs.YthmgbmgbifbheaaDoor.Bk (Bk)
set_option linter.unusedVariables false

/-- Is what a kind doesn't use empty? -/
def usB (k lv : Int) (i : List UInt8) (ls : List (List UInt8)) (ss : List Sp) (l : List Bk) : Bool :=
  if k = 1 then (lv == 0) && i.isEmpty && ls.isEmpty && l.isEmpty
  else if k = 2 then i.isEmpty && ls.isEmpty && l.isEmpty
  else if k = 4 ∨ k = 8 then (lv == 0) && ss.isEmpty && l.isEmpty
  else if k = 5 ∨ k = 6 ∨ k = 7 then (lv == 0) && i.isEmpty && ls.isEmpty && ss.isEmpty
  else (lv == 0) && i.isEmpty && ls.isEmpty && ss.isEmpty && l.isEmpty
mutual
/-- With room for n. -/
def oneW (n : Nat) : Bk → Bool
  | .mk k lv i ls ss l => usB k lv i ls ss l && (
    if k = 1 then !ss.isEmpty && rtB ss
    else if k = 2 then decide (lv ≥ 1) && decide (lv ≤ 6) && rtB ss && (lnC ss == 1)
    else if k = 3 then true
    else if k = 4 then infB i && ls.all lineB
    else if k = 5 then decide (0 < n) && allW (n - 1) 0 l
    else if k = 7 then decide (0 < n) && allW (n - 1) 0 l
    else if k = 6 then decide (0 < n) && (itmW (n - 1) l && !l.isEmpty)
    else if k = 8 then labB i && decide (ls.length = 1) && (ckB (ls.headD []) && dsB (ls.headD []))
    else false)
def allW (n : Nat) (p : Int) : List Bk → Bool
  | [] => true
  | x :: r => !decide (x.kind = 7) && !(decide (p = 6) && decide (x.kind = 6)) && oneW n x && allW n x.kind r
def itmW (n : Nat) : List Bk → Bool
  | [] => true
  | x :: r => decide (x.kind = 7) && oneW n x && itmW n r
end
mutual
/-- As the document's one, but for lines and places to go to, as the program asks for them. -/
def oneV (list : Bool) : Bk → Bool
  | .mk k lv i ls ss l => (decide (k = 7) == list) && (
    if k = 1 then (lv == 0) && i.isEmpty && ls.isEmpty && l.isEmpty && !ss.isEmpty && rtB ss
    else if k = 2 then i.isEmpty && ls.isEmpty && l.isEmpty && decide (lv ≥ 1) && decide (lv ≤ 6) && rtB ss && (lnC ss == 1)
    else if k = 3 then (lv == 0) && i.isEmpty && ls.isEmpty && ss.isEmpty && l.isEmpty
    else if k = 4 then ls.all lineB && ((lv == 0) && ss.isEmpty && l.isEmpty && infB i)
    else if k = 5 then (lv == 0) && i.isEmpty && ls.isEmpty && ss.isEmpty && allV false 0 l
    else if k = 7 then (lv == 0) && i.isEmpty && ls.isEmpty && ss.isEmpty && allV false 0 l
    else if k = 6 then (lv == 0) && i.isEmpty && ls.isEmpty && ss.isEmpty && !l.isEmpty && allV true 0 l
    else if k = 8 then (lv == 0) && ss.isEmpty && l.isEmpty && labB i && decide (ls.length = 1) && (ckB (ls.headD []) && dsB (ls.headD []))
    else false)
def allV (list : Bool) (p : Int) : List Bk → Bool
  | [] => true
  | x :: r => oneV list x && !(decide (p = 6) && decide (x.kind = 6)) && allV list x.kind r
end
mutual
def d1N : Bk → Nat
  | .mk k _ _ _ _ l => if boxB k = true then 1 + dN l else dN l
def dN : List Bk → Nat
  | [] => 0
  | x :: r => max (d1N x) (dN r)
end
theorem allW_cons (n : Nat) (p : Int) (x : Bk) (r : List Bk) : allW n p (x :: r) = (!decide (x.kind = 7) && !(decide (p = 6) && decide (x.kind = 6)) && oneW n x && allW n x.kind r) := by rw [allW]
theorem itmW_cons (n : Nat) (x : Bk) (r : List Bk) : itmW n (x :: r) = (decide (x.kind = 7) && oneW n x && itmW n r) := by rw [itmW]
theorem allV_cons (list : Bool) (p : Int) (x : Bk) (r : List Bk) : allV list p (x :: r) = (oneV list x && !(decide (p = 6) && decide (x.kind = 6)) && allV list x.kind r) := by rw [allV]
theorem dN_cons (x : Bk) (r : List Bk) : dN (x :: r) = max (d1N x) (dN r) := by rw [dN]
theorem oneV_off {x : Bk} (h : x.kind = 7) : oneV false x = false := by
  obtain ⟨k, lv, i, ls, ss, l⟩ := x
  have h : k = 7 := h
  rw [oneV, decide_eq_true h]
  rfl
theorem oneV_on {x : Bk} (h : x.kind ≠ 7) : oneV true x = false := by
  obtain ⟨k, lv, i, ls, ss, l⟩ := x
  have h : k ≠ 7 := h
  rw [oneV, decide_eq_false h]
  rfl
theorem in_one (n d : Nat) (A : Bool) : (decide (0 < n) && (A && decide (d ≤ n - 1))) = (A && decide (1 + d ≤ n)) := by
  rw [Bool.eq_iff_iff]
  simp only [Bool.and_eq_true, decide_eq_true_iff]
  constructor
  · rintro ⟨h1, h2, h3⟩; exact ⟨h2, by omega⟩
  · rintro ⟨h1, h2⟩; exact ⟨by omega, h1, by omega⟩
theorem max_le (a b n : Nat) : decide (max a b ≤ n) = (decide (a ≤ n) && decide (b ≤ n)) := by
  rw [Bool.eq_iff_iff, Bool.and_eq_true, decide_eq_true_iff, decide_eq_true_iff, decide_eq_true_iff]
  omega
mutual
theorem oneW_eq : ∀ (x : Bk) (n : Nat), oneW n x = (oneV (decide (x.kind = 7)) x && decide (d1N x ≤ n))
  | .mk k lv i ls ss l, n => by
    have I1 := allW_eq l (n - 1) 0
    have I2 := itmW_eq l (n - 1) 0
    have hk : (Bk.mk k lv i ls ss l).kind = k := rfl
    rw [oneW, oneV, d1N, hk, I1, I2, beq_self_eq_true, Bool.true_and]
    unfold usB boxB
    by_cases q1 : k = 1
    · subst q1
      cases l with
      | nil => simp [dN, Bool.and_assoc]
      | cons y r => simp
    · by_cases q2 : k = 2
      · subst q2
        cases l with
        | nil => simp [dN, Bool.and_assoc]
        | cons y r => simp
      · by_cases q3 : k = 3
        · subst q3
          cases l with
          | nil => simp [dN]
          | cons y r => simp
        · by_cases q4 : k = 4
          · subst q4
            cases l with
            | nil =>
              simp [dN]
              generalize infB i = a
              generalize ls.all lineB = b
              cases a <;> cases b <;> simp
            | cons y r => simp
          · by_cases q5 : k = 5
            · subst q5
              have h := in_one n (dN l) (allV false 0 l)
              simp [-Bool.and_eq_true, h, Bool.and_assoc]
            · by_cases q7 : k = 7
              · subst q7
                have h := in_one n (dN l) (allV false 0 l)
                simp [-Bool.and_eq_true, h, Bool.and_assoc]
              · by_cases q6 : k = 6
                · subst q6
                  have h2 : decide (1 + dN l ≤ n) = (decide (0 < n) && decide (dN l ≤ n - 1)) := by have h := in_one n (dN l) true; rw [Bool.true_and, Bool.true_and] at h; exact h.symm
                  simp only [Int.reduceEq, if_false, if_true, or_true, or_false, decide_false, decide_true, Bool.or_true, Bool.or_false, h2]
                  generalize decide (0 < n) = a
                  generalize decide (dN l ≤ n - 1) = b
                  generalize allV true 0 l = c
                  generalize l.isEmpty = d
                  generalize (lv == 0 && List.isEmpty i && ls.isEmpty && ss.isEmpty) = e
                  revert a b c d e
                  decide
                · by_cases q8 : k = 8
                  · subst q8
                    cases l with
                    | nil => simp [dN, Bool.and_assoc]
                    | cons y r => simp
                  · simp [q1, q2, q3, q4, q5, q6, q7, q8]
theorem allW_eq : ∀ (l : List Bk) (n : Nat) (p : Int), allW n p l = (allV false p l && decide (dN l ≤ n))
  | [], n, p => by rw [allW, allV, dN]; simp
  | x :: r, n, p => by
    rw [allW_cons, allV_cons, dN_cons, oneW_eq x n, allW_eq r n x.kind, max_le]
    by_cases h : x.kind = 7
    · rw [decide_eq_true h, oneV_off h]; rfl
    · rw [decide_eq_false h]
      generalize oneV false x = a
      generalize allV false x.kind r = b
      generalize decide (d1N x ≤ n) = c
      generalize decide (dN r ≤ n) = d
      generalize (decide (p = 6) && decide (x.kind = 6)) = e
      revert a b c d e
      decide
theorem itmW_eq : ∀ (l : List Bk) (n : Nat) (p : Int), itmW n l = (allV true p l && decide (dN l ≤ n))
  | [], n, p => by rw [itmW, allV, dN]; simp
  | x :: r, n, p => by
    rw [itmW_cons, allV_cons, dN_cons, oneW_eq x n, itmW_eq r n x.kind, max_le]
    by_cases h : x.kind = 7
    · have h6 : x.kind ≠ 6 := by omega
      rw [decide_eq_true h, decide_eq_false h6]
      generalize oneV true x = a
      generalize allV true x.kind r = b
      generalize decide (d1N x ≤ n) = c
      generalize decide (dN r ≤ n) = d
      generalize decide (p = 6) = e
      revert a b c d e
      decide
    · rw [decide_eq_false h, oneV_on h]; rfl
end

/-! How deep. -/
mutual
theorem dpOne_dN : ∀ (x : Bk) (n : Int), 0 ≤ n → d1N x ≤ 100000000 → dpOne n x = max n (d1N x : Nat)
  | .mk k lv i ls ss l, n, h0, h => by
    rw [d1N] at h ⊢
    rw [dpOne]
    cases hb : boxB k with
    | true =>
      rw [hb, if_pos rfl] at h
      rw [if_pos rfl, if_pos rfl, dpAll_dN l 0 (by omega) (by omega), IntKind.wrap_i64]
      omega
    | false =>
      rw [hb, if_neg (by decide)] at h
      rw [if_neg (by decide), if_neg (by decide), dpAll_dN l 0 (by omega) (by omega)]
      omega
theorem dpAll_dN : ∀ (l : List Bk) (n : Int), 0 ≤ n → dN l ≤ 100000000 → dpAll n l = max n (dN l : Nat)
  | [], n, h0, h => by
    rw [dpAll, dN]
    omega
  | x :: r, n, h0, h => by
    rw [dN] at h ⊢
    rw [dpAll, dpOne_dN x n h0 (by omega), dpAll_dN r _ (by omega) (by omega)]
    omega
end
theorem dp_dN {l : List Bk} (h : dN l ≤ 100000000) : dp l = (dN l : Nat) := by
  show dpAll 0 l = _
  rw [dpAll_dN l 0 (by omega) h]
  omega
mutual
theorem d1N_tt : ∀ x : Bk, d1N x ≤ ttOne x
  | .mk k lv i ls ss l => by
    have := dN_tt l
    rw [d1N, ttOne]
    split <;> omega
theorem dN_tt : ∀ l : List Bk, dN l ≤ ttAll l
  | [] => by rw [dN]; omega
  | x :: r => by
    have h1 := d1N_tt x
    have h2 := dN_tt r
    rw [dN, ttAll_cons]
    omega
end

/-! Of a size that is looked at. -/
theorem dest_text8 {s : List UInt8} (h : dsB s = true) (hs : s.length ≤ 1048576) : ckB s = true := by
  unfold ckB
  refine decide_eq_true (chk_ascii (S s) (by rw [S_size]; omega) (fun k hk => ?_))
  unfold dsB at h
  rw [Bool.and_eq_true, List.all_eq_true] at h
  apply dc_range
  apply h.1
  have := at_data (S s) k hk
  rw [S_list] at this
  have hm : (S s)[k] ∈ s.drop k := by rw [this]; exact List.mem_cons_self ..
  exact List.mem_of_mem_drop hm
theorem lnC_has {ss : List Sp} (h : Sp.totAll ss ≤ 9000000) : (lnC ss == 1) = !hsB 10 (plAll ss) := by
  have h1 : (plAll ss).count 10 ≤ 9000000 := Nat.le_trans List.count_le_length (Nat.le_trans (plAll_len ss) h)
  unfold lnC
  rw [IntKind.wrap_i64, Bool.eq_iff_iff, beq_iff_eq, Bool.not_eq_true']
  constructor
  · intro h2
    have h3 : (plAll ss).count 10 = 0 := by omega
    rw [List.count_eq_zero] at h3
    cases hb : hsB 10 (plAll ss) with
    | false => rfl
    | true => exact absurd (has_mem 10 (plAll ss) |>.1 hb) h3
  · intro h2
    have h3 : (plAll ss).count 10 = 0 := by
      rw [List.count_eq_zero]
      intro hm
      rw [(has_mem 10 (plAll ss)).2 hm] at h2
      cases h2
    omega
mutual
theorem oneV_oneB (b : Bool) : ∀ x : Bk, fitOne 1048576 x → ttOne x ≤ 9000000 → oneV b x = oneB b x
  | .mk k lv i ls ss l, hf, ht => by
    rw [ttOne] at ht
    rw [fitOne] at hf
    have hd : (ckB (ls.headD []) && dsB (ls.headD [])) = dsB (ls.headD []) := by
      cases h : dsB (ls.headD []) with
      | false => rw [Bool.and_false]
      | true =>
        rw [dest_text8 h (by
          cases ls with
          | nil => simp
          | cons s r => exact hf.2.2.2.1 s (List.mem_cons_self ..))]
        rfl
    rw [oneV, oneB, hd, lnC_has (by omega), allV_allB false l 0 hf.2.2.2.2.2 (by omega), allV_allB true l 0 hf.2.2.2.2.2 (by omega)]
theorem allV_allB (b : Bool) : ∀ (l : List Bk) (p : Int), fitAll 1048576 l → ttAll l ≤ 9000000 → allV b p l = allB b p l
  | [], p, _, _ => by rw [allV, allB]
  | x :: r, p, hf, ht => by
    unfold fitAll at hf
    rw [ttAll_cons] at ht
    rw [allV_cons, allB_cons, oneV_oneB b x hf.1 (by omega), allV_allB b r x.kind hf.2 (by omega)]
end

/-- What the program tells. -/
def rgW (l : List Bk) : Bool := allW 16 0 l
theorem rgW_eq (l : List Bk) : rgW l = (allV false 0 l && decide (dN l ≤ 16)) := allW_eq l 16 0
theorem rgW_rgB {l : List Bk} (hf : fitAll 1048576 l) (ht : ttAll l ≤ 9000000) : rgW l = rgB l := by
  rw [rgW_eq, allV_allB false l 0 hf ht]
  unfold rgB
  have h := dN_tt l
  rw [dp_dN (by omega)]
  congr 1
  rw [Bool.eq_iff_iff, decide_eq_true_iff, decide_eq_true_iff]
  omega
theorem rgW_parts {l : List Bk} (h : rgW l = true) : allV false 0 l = true ∧ dN l ≤ 16 ∧ dp l = (dN l : Nat) := by
  rw [rgW_eq, Bool.and_eq_true, decide_eq_true_iff] at h
  exact ⟨h.1, h.2, dp_dN (by omega)⟩
theorem qt_rgW {l : List Bk} (h : rgW l = true) : rgW (qt l) = decide (dp l < 16) := by
  obtain ⟨h1, h2, h3⟩ := rgW_parts h
  have e1 : allV false 0 (qt l) = true := by
    unfold qt
    rw [allV_cons, oneV]
    simp [h1, allV]
  have e2 : dN (qt l) = 1 + dN l := by
    unfold qt
    rw [dN_cons, d1N, if_pos (by rfl), dN]
    omega
  rw [rgW_eq, e1, e2, h3, Bool.true_and, Bool.eq_iff_iff, decide_eq_true_iff, decide_eq_true_iff]
  omega
theorem lst_rgW {l : List Bk} (h : rgW l = true) : rgW (lst l) = decide (dp l + 2 ≤ 16) := by
  obtain ⟨h1, h2, h3⟩ := rgW_parts h
  have e0 : allV true 0 (itm l) = true := by
    unfold itm
    rw [allV_cons, oneV]
    simp [h1, allV]
  have e1 : allV false 0 (lst l) = true := by
    unfold lst
    rw [allV_cons, oneV, e0]
    simp [allV, itm]
  have e2 : dN (lst l) = 2 + dN l := by
    unfold lst itm
    have h0 : dN ([] : List Bk) = 0 := by rw [dN]
    rw [dN_cons, d1N, if_pos (by rfl), dN_cons, d1N, if_pos (by rfl), h0]
    omega
  rw [rgW_eq, e1, e2, h3, Bool.true_and, Bool.eq_iff_iff, decide_eq_true_iff, decide_eq_true_iff]
  omega

end Go.Proofs.YthmgbmgbifbheaaDoor.Bt
