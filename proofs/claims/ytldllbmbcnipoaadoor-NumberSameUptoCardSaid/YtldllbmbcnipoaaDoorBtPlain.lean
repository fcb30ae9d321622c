/-
  BLOCKS IN NORMAL FORM, in plain words: what is put in a quote, in an item; two documents, one behind the other. No program.
-/
import Derived.Test.YtldllbmbcnipoaaDoorPkNI
namespace Go.Proofs.YtldllbmbcnipoaaDoor.Bt
open Go.Proofs.YtldllbmbcnipoaaDoor.Sp (Sp)
open Go.Proofs.YtldllbmbcnipoaaDoor.Bk (Bk)
set_option linter.unusedVariables false

def qt (l : List Bk) : List Bk := [.mk 5 0 [] [] [] l]
def itm (l : List Bk) : List Bk := [.mk 7 0 [] [] [] l]
def lst (l : List Bk) : List Bk := [.mk 6 0 [] [] [] (itm l)]
mutual
theorem dpOne_ge (n : Int) : ∀ x : Bk, n ≤ dpOne n x
  | .mk k lv i ls ss l => by
    rw [dpOne]
    split <;> omega
theorem dpAll_ge (n : Int) : ∀ l : List Bk, n ≤ dpAll n l
  | [] => by rw [dpAll]; omega
  | x :: r => by
    rw [dpAll]
    have h1 := dpOne_ge n x
    have h2 := dpAll_ge (dpOne n x) r
    omega
end
theorem dp_ge (l : List Bk) : 0 ≤ dp l := dpAll_ge 0 l
theorem rg_parts {l : List Bk} (h : rgB l = true) : allB false 0 l = true ∧ dp l ≤ 16 := by
  unfold rgB at h
  rw [Bool.and_eq_true, decide_eq_true_iff] at h
  exact h
theorem qt_all (l : List Bk) : allB false 0 (qt l) = allB false 0 l := by
  unfold qt
  rw [allB_cons, oneB]
  simp [allB]
theorem itm_all (l : List Bk) : allB true 0 (itm l) = allB false 0 l := by
  unfold itm
  rw [allB_cons, oneB]
  simp [allB]
theorem lst_all (l : List Bk) : allB false 0 (lst l) = allB false 0 l := by
  unfold lst
  rw [allB_cons, oneB, itm_all]
  simp [allB, itm]
theorem qt_dp {l : List Bk} (h : dp l ≤ 1000000) : dp (qt l) = dp l + 1 := by
  have h0 := dp_ge l
  show dpAll 0 [.mk 5 0 [] [] [] l] = _
  rw [dpAll_cons]
  have e : boxB (Bk.mk 5 0 [] [] [] l).kind = true := rfl
  rw [if_pos e, dpAll]
  show max 0 (IntKind.i64.wrap (1 + dp l)) = _
  rw [IntKind.wrap_i64]
  omega
theorem itm_dp {l : List Bk} (h : dp l ≤ 1000000) : dp (itm l) = dp l + 1 := by
  have h0 := dp_ge l
  show dpAll 0 [.mk 7 0 [] [] [] l] = _
  rw [dpAll_cons]
  have e : boxB (Bk.mk 7 0 [] [] [] l).kind = true := rfl
  rw [if_pos e, dpAll]
  show max 0 (IntKind.i64.wrap (1 + dp l)) = _
  rw [IntKind.wrap_i64]
  omega
theorem lst_dp {l : List Bk} (h : dp l ≤ 100000) : dp (lst l) = dp l + 2 := by
  have h0 := dp_ge l
  show dpAll 0 [.mk 6 0 [] [] [] (itm l)] = _
  rw [dpAll_cons]
  have e : boxB (Bk.mk 6 0 [] [] [] (itm l)).kind = true := rfl
  rw [if_pos e, dpAll]
  show max 0 (IntKind.i64.wrap (1 + dp (itm l))) = _
  rw [itm_dp (by omega), IntKind.wrap_i64]
  omega
theorem lst_cnt (l : List Bk) : cnt (lst l) = IntKind.i64.wrap (cnt l + 2) := by
  have e1 : cnt (itm l) = IntKind.i64.wrap (1 + cnt l) := by
    show cntAll ((1 : Nat) : Int) [.mk 7 0 [] [] [] l] = _
    rw [cntAll_cons, cntAll]
    rfl
  show cntAll ((1 : Nat) : Int) [.mk 6 0 [] [] [] (itm l)] = _
  rw [cntAll_cons, cntAll]
  show IntKind.i64.wrap (1 + cnt (itm l)) = _
  rw [e1]
  simp only [IntKind.wrap_i64]
  omega
theorem qt_rg {l : List Bk} (h : rgB l = true) : rgB (qt l) = decide (dp l < 16) := by
  obtain ⟨h1, h2⟩ := rg_parts h
  unfold rgB
  rw [qt_all, h1, qt_dp (by omega), Bool.true_and]
  rw [Bool.eq_iff_iff, decide_eq_true_iff, decide_eq_true_iff]
  omega
theorem lst_rg {l : List Bk} (h : rgB l = true) : rgB (lst l) = decide (dp l + 2 ≤ 16) := by
  obtain ⟨h1, h2⟩ := rg_parts h
  unfold rgB
  rw [lst_all, h1, lst_dp (by omega), Bool.true_and]
theorem qt_tt (l : List Bk) : ttAll (qt l) = ttAll l + 1 := by
  unfold qt
  rw [ttAll_cons, ttOne, ttAll]
  simp [lnTot, Sp.totAll]
  omega
theorem lst_tt (l : List Bk) : ttAll (lst l) = ttAll l + 2 := by
  unfold lst itm
  rw [ttAll_cons, ttOne, ttAll_cons, ttOne, ttAll]
  simp [lnTot, Sp.totAll]
  omega
theorem qt_fit {R : Nat} {l : List Bk} (h : fitAll R l) : fitAll R (qt l) := by
  unfold qt
  rw [fitAll, fitOne, fitAll]
  simp [Sp.fitAll, h]
theorem lst_fit {R : Nat} {l : List Bk} (h : fitAll R l) : fitAll R (lst l) := by
  unfold lst itm
  rw [fitAll, fitOne, fitAll, fitAll, fitOne, fitAll]
  simp [Sp.fitAll, h]

/-! Two documents, one behind the other. -/
theorem ttAll_app : ∀ a b : List Bk, ttAll (a ++ b) = ttAll a + ttAll b
  | [], b => by rw [List.nil_append, ttAll]; omega
  | x :: a, b => by rw [List.cons_append, ttAll_cons, ttAll_cons, ttAll_app a b]; omega
theorem fitAll_app {R : Nat} : ∀ {a b : List Bk}, fitAll R a → fitAll R b → fitAll R (a ++ b)
  | [], b, _, h => h
  | x :: a, b, h, h' => by
    unfold fitAll at h
    rw [List.cons_append]
    unfold fitAll
    exact ⟨h.1, fitAll_app h.2 h'⟩
theorem szOne_le (x : Bk) (h : szAll x.kids ≤ ttAll x.kids) : szOne x ≤ ttOne x := by rw [szOne_eq, ttOne_eq]; omega
mutual
theorem sz1_tt : ∀ x : Bk, szOne x ≤ ttOne x
  | .mk k lv i ls ss l => by
    have := sz_tt l
    rw [szOne, ttOne]
    omega
theorem sz_tt : ∀ l : List Bk, szAll l ≤ ttAll l
  | [] => by rw [szAll]; omega
  | x :: r => by
    have h1 := sz1_tt x
    have h2 := sz_tt r
    rw [szAll, ttAll]
    omega
end
/-- Of not too many blocks the machine's number is the number. -/
theorem cntAll_is (m : Nat) : ∀ (l : List Bk) (n : Int), szAll l ≤ m → szAll l ≤ 100000000 → 0 ≤ n → n + ((szAll l : Nat) : Int) ≤ 100000000000 → cntAll n l = n + ((szAll l : Nat) : Int) - (l.length : Int) := by
  induction m using Nat.strongRecOn with
  | ind m ih =>
    intro l
    induction l with
    | nil => intro n _ _ _ _; rw [cntAll, szAll]; simp
    | cons x r ihr =>
      intro n hm hs h0 hn
      rw [szAll_cons, szOne_eq] at hm hs hn
      have hk := szAll_len x.kids
      have ex : cnt x.kids = ((szAll x.kids : Nat) : Int) := by
        have := ih (szAll x.kids) (by omega) x.kids (x.kids.length : Int) (Nat.le_refl _) (by omega) (by omega) (by omega)
        unfold cnt
        rw [this]
        omega
      have hr := szAll_len r
      rw [cntAll_cons, ex, ihr _ (by omega) (by omega) (by rw [IntKind.wrap_i64]; omega) (by rw [IntKind.wrap_i64]; omega), szAll_cons, szOne_eq, IntKind.wrap_i64]
      simp only [List.length_cons]
      omega
theorem cnt_is {l : List Bk} (h : ttAll l ≤ 100000000) : cnt l = ((szAll l : Nat) : Int) := by
  have h1 := sz_tt l
  have h2 := szAll_len l
  unfold cnt
  rw [cntAll_is (szAll l) l _ (Nat.le_refl _) (by omega) (by omega) (by omega)]
  omega
theorem dpAll_app : ∀ (a b : List Bk) (n : Int), dpAll n (a ++ b) = dpAll (dpAll n a) b
  | [], b, n => by rw [List.nil_append, dpAll.eq_1]
  | x :: a, b, n => by rw [List.cons_append, dpAll_cons, dpAll_cons, dpAll_app a b]
theorem dpAll_max : ∀ (l : List Bk) (n m : Int), dpAll (max n m) l = max n (dpAll m l)
  | [], n, m => by rw [dpAll, dpAll]
  | x :: r, n, m => by
    rw [dpAll_cons, dpAll_cons]
    split
    · rw [show max (max n m) (IntKind.i64.wrap (1 + dp x.kids)) = max n (max m (IntKind.i64.wrap (1 + dp x.kids))) by omega, dpAll_max r]
    · rw [show max (max n m) (dp x.kids) = max n (max m (dp x.kids)) by omega, dpAll_max r]
theorem dp_app (a b : List Bk) : dp (a ++ b) = max (dp a) (dp b) := by
  have h0 := dp_ge a
  unfold dp
  rw [dpAll_app]
  have := dpAll_max b (dpAll 0 a) 0
  rw [show max (dpAll 0 a) 0 = dpAll 0 a by have : 0 ≤ dpAll 0 a := h0; omega] at this
  exact this
theorem dp_sz (m : Nat) : ∀ (l : List Bk) (n : Int), szAll l ≤ m → szAll l ≤ 100000000 → dpAll n l ≤ max n ((szAll l : Nat) : Int) := by
  induction m using Nat.strongRecOn with
  | ind m ih =>
    intro l
    induction l with
    | nil => intro n _ _; rw [dpAll]; omega
    | cons x r ihr =>
      intro n hm hs
      rw [szAll_cons, szOne_eq] at hm hs
      have ex : dp x.kids ≤ max 0 ((szAll x.kids : Nat) : Int) := ih (szAll x.kids) (by omega) x.kids 0 (Nat.le_refl _) (by omega)
      have h0 := dp_ge x.kids
      rw [dpAll_cons, szAll_cons, szOne_eq]
      split
      · have := ihr (max n (IntKind.i64.wrap (1 + dp x.kids))) (by omega) (by omega)
        rw [IntKind.wrap_i64] at this ⊢
        omega
      · have := ihr (max n (dp x.kids)) (by omega) (by omega)
        omega
end Go.Proofs.YtldllbmbcnipoaaDoor.Bt
