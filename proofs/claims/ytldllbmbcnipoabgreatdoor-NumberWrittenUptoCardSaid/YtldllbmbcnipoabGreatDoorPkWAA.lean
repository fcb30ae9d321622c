/-
  Several texts in one:
  
  
  
  
  
  
  
  
  
-/
import Derived.Test.YtldllbmbcnipoabGreatDoorPkWX
import Derived.Test.YtldllbmbcnipoabGreatDoorPkWY
import Derived.Test.YtldllbmbcnipoabGreatDoorPkWZ
import Derived.Test.YtldllbmbcnipoabGreatDoorPkWC
import Derived.Test.YtldllbmbcnipoabGreatDoorBtTree
import Derived.Test.YtldllbmbcnipoabGreatDoorPkWG
namespace Go.Proofs.YtldllbmbcnipoabGreatDoor.Wr
open Go.Proofs.YtldllbmbcnipoabGreatDoor.Sp (hs_not Sp wrs wr1 fits txB ttB prB spB edB hsB rtB endB hdB ltB okAll okOne okAll_cons txB_pr fits_rt wrs_gd Wt)
open Go.Proofs.YtldllbmbcnipoabGreatDoor.Bt (oneB allB allB_cons rgB infB tgB labB lineB dN d1N ttAll boxB)
open Go.Proofs.YtldllbmbcnipoabGreatDoor.Bk (Tx Bk Norm adj bad hard tx1 txs ok1 oks dp1 dps PG HG para_ok head_ok trim_fix)
open Go.Proofs.YtldllbmbcnipoabGreatDoor.Kd (E0)
set_option linter.unusedVariables false
theorem gap_eq (b : UInt8) : Ln.gapB b = spB b := by rw [← Kd.gap_ln, Kd.gap_sp]
theorem bad_pr {a b : UInt8} (h : bad a b) : prB a b = true := by
  unfold bad at h
  rw [gap_eq, gap_eq] at h
  unfold prB
  simpa using h
theorem adj_tx : ∀ {s : Tx}, txB s = true → adj s
  | [], _ => trivial
  | [c], _ => trivial
  | a :: b :: r, h => by
    rw [txB_pr, Bool.and_eq_true, Bool.not_eq_true'] at h
    exact ⟨fun hb => absurd (bad_pr hb) (by rw [h.1]; simp), adj_tx h.2⟩
theorem hard_ed {c : UInt8} (h : edB c = false) : hard c := by
  unfold edB at h
  rw [Bool.or_eq_false_iff, decide_eq_false_iff_not] at h
  exact ⟨h.2, by rw [gap_eq]; exact h.1⟩
mutual
theorem tx1_ok (e k : Bool) : ∀ x : Sp, okOne e k x = true → tx1 x
  | .mk q s l, h => by
    have ih := fun e k p h => txs_ok e k p l h
    rw [okOne, Bool.and_eq_true] at h
    have h2 := h.2
    rw [tx1]
    split at h2
    · rw [Bool.and_eq_true] at h2
      have hl : l = [] := List.isEmpty_iff.1 h2.1
      refine ⟨fun _ => adj_tx ?_, by rw [hl, txs]; trivial⟩
      have h3 := h2.2
      unfold ttB at h3
      rw [Bool.and_eq_true] at h3
      exact h3.1
    · rename_i h1
      split at h2
      · rw [Bool.and_eq_true] at h2
        have hl : l = [] := List.isEmpty_iff.1 h2.1
        exact ⟨fun h => absurd h h1, by rw [hl, txs]; trivial⟩
      · split at h2
        · simp only [Bool.and_eq_true] at h2
          exact ⟨fun h => absurd h h1, ih _ _ _ h2.2.2.2⟩
        · split at h2
          · simp only [Bool.and_eq_true] at h2
            exact ⟨fun h => absurd h h1, ih _ _ _ h2.2.2.2⟩
          · cases h2
theorem txs_ok (e k : Bool) (p : Int) : ∀ L : List Sp, okAll e k p L = true → txs L
  | [], _ => by rw [txs]; trivial
  | x :: r, h => by
    rw [okAll_cons, Bool.and_eq_true, Bool.and_eq_true] at h
    rw [txs]
    exact ⟨tx1_ok e k x h.1.1, txs_ok e k x.kind r h.2⟩
end
theorem norm_of {L : List Sp} (h : rtB L = true) : Norm L := by
  have h' := h
  unfold rtB endB at h'
  rw [Bool.and_eq_true, Bool.and_eq_true] at h'
  obtain ⟨ho, he, hl⟩ := h'
  refine ⟨fits_rt h, txs_ok _ _ _ L ho, (wrs_gd false false 0 L ho).1.1.2.2, ?_, ?_⟩
  · rintro k s kids r rfl rfl b hb
    have h1 : hdB (.mk 1 s kids) = true := he
    unfold hdB at h1
    have e : s.headD 0 = b := by rw [List.headD_eq_head?_getD, hb]; rfl
    rw [show (Sp.mk 1 s kids).kind = 1 from rfl, show (Sp.mk 1 s kids).s = s from rfl, e] at h1
    exact hard_ed (by simpa using h1)
  · rintro k s kids r rfl rfl b hb
    rw [List.getLast?_concat] at hl
    have h1 : ltB (.mk 1 s kids) = true := hl
    unfold ltB at h1
    have e : s.getLastD 0 = b := by rw [List.getLastD_eq_getLast?, hb]; rfl
    rw [show (Sp.mk 1 s kids).kind = 1 from rfl, show (Sp.mk 1 s kids).s = s from rfl, e] at h1
    exact hard_ed (by simpa using h1)
theorem info_ok {i : Tx} (h : infB i = true) : Ln.trim i = i ∧ (96 : UInt8) ∉ i := by
  unfold infB at h
  rw [Bool.and_eq_true, Bool.and_eq_true, Bool.not_eq_true'] at h
  obtain ⟨⟨_, ht⟩, h96⟩ := h
  refine ⟨?_, hs_not h96⟩
  unfold tgB at ht
  cases i with
  | nil => rfl
  | cons c t =>
    rw [List.isEmpty_cons, Bool.false_or, Bool.and_eq_true, Bool.not_eq_true', Bool.not_eq_true'] at ht
    refine trim_fix _ (fun b hb => ?_) (fun b hb => ?_)
    · rw [gap_eq]
      rw [List.headD_eq_head?_getD, hb] at ht
      exact ht.1
    · rw [gap_eq]
      rw [List.getLastD_eq_getLast?, hb] at ht
      exact ht.2
mutual
theorem ok1_of (list : Bool) : ∀ x : Bk, oneB list x = true → ok1 E0 list x
  | .mk k lv i ls ss l, h => by
    have ih := fun (b : Bool) (p : Int) (h : allB b p l = true) => oks_of b p l h
    rw [oneB, Bool.and_eq_true, beq_iff_eq] at h
    obtain ⟨hk, h2⟩ := h
    rw [ok1]
    have no : k ≠ 7 → list = false := fun e => by rw [← hk, decide_eq_false e]
    split at h2
    · rename_i e
      simp only [Bool.and_eq_true, beq_iff_eq, List.isEmpty_iff, Bool.not_eq_true'] at h2
      obtain ⟨⟨⟨⟨⟨h3, h4⟩, h5⟩, h6⟩, h7⟩, h8⟩ := h2
      refine Or.inr ⟨no (by omega), Or.inl ⟨e, h3, h4, h5, h6, para_ok E0 (norm_of h8) ?_⟩⟩
      rintro rfl
      cases h7
    split at h2
    · rename_i e
      simp only [Bool.and_eq_true, List.isEmpty_iff, decide_eq_true_iff] at h2
      obtain ⟨⟨⟨⟨⟨⟨h3, h4⟩, h5⟩, h6⟩, h7⟩, h8⟩, _⟩ := h2
      exact Or.inr ⟨no (by omega), Or.inr (Or.inl ⟨e, h3, h4, h5, ⟨h6, h7⟩, head_ok (norm_of h8)⟩)⟩
    split at h2
    · rename_i e
      simp only [Bool.and_eq_true, beq_iff_eq, List.isEmpty_iff] at h2
      obtain ⟨⟨⟨⟨h3, h4⟩, h5⟩, h6⟩, h7⟩ := h2
      exact Or.inr ⟨no (by omega), Or.inr (Or.inr (Or.inl ⟨e, h3, h4, h5, h6, h7⟩))⟩
    split at h2
    · rename_i e
      simp only [Bool.and_eq_true, beq_iff_eq, List.isEmpty_iff] at h2
      obtain ⟨_, ⟨⟨h3, h4⟩, h5⟩, h6⟩ := h2
      obtain ⟨h7, h8⟩ := info_ok h6
      exact Or.inr ⟨no (by omega), Or.inr (Or.inr (Or.inr (Or.inl ⟨e, h3, h4, h5, h7, h8⟩)))⟩
    split at h2
    · rename_i e
      simp only [Bool.and_eq_true, beq_iff_eq, List.isEmpty_iff] at h2
      obtain ⟨⟨⟨⟨h3, h4⟩, h5⟩, h6⟩, h7⟩ := h2
      exact Or.inr ⟨no (by omega), Or.inr (Or.inr (Or.inr (Or.inr (Or.inl ⟨e, h3, h4, h5, h6, ih _ _ h7⟩))))⟩
    split at h2
    · rename_i e
      simp only [Bool.and_eq_true, beq_iff_eq, List.isEmpty_iff] at h2
      obtain ⟨⟨⟨⟨h3, h4⟩, h5⟩, h6⟩, h7⟩ := h2
      exact Or.inl ⟨by rw [← hk, decide_eq_true e], e, h3, h4, h5, h6, ih _ _ h7⟩
    split at h2
    · rename_i e
      simp only [Bool.and_eq_true, beq_iff_eq, List.isEmpty_iff, Bool.not_eq_true'] at h2
      obtain ⟨⟨⟨⟨⟨h3, h4⟩, h5⟩, h6⟩, h7⟩, h8⟩ := h2
      refine Or.inr ⟨no (by omega), Or.inr (Or.inr (Or.inr (Or.inr (Or.inr (Or.inl ⟨e, h3, h4, h5, h6, ?_, ih _ _ h8⟩)))))⟩
      rintro rfl
      cases h7
    split at h2
    · rename_i e
      simp only [Bool.and_eq_true, beq_iff_eq, List.isEmpty_iff, decide_eq_true_iff] at h2
      obtain ⟨⟨⟨⟨⟨h3, h4⟩, h5⟩, h6⟩, h7⟩, h8⟩ := h2
      obtain ⟨d, hd⟩ := List.length_eq_one_iff.1 h7
      subst hd
      refine Or.inr ⟨no (by omega), Or.inr (Or.inr (Or.inr (Or.inr (Or.inr (Or.inr ⟨e, h3, h4, h5, by rw [Kd.lab_eq]; exact h6, d, rfl, by rw [Kd.dest_eq]; exact h8⟩)))))⟩
    · cases h2
theorem oks_of (list : Bool) (p : Int) : ∀ l : List Bk, allB list p l = true → oks E0 list (p == 6) l
  | [], _ => by rw [oks]; trivial
  | .mk k lv i ls ss l :: r, h => by
    rw [allB_cons, Bool.and_eq_true, Bool.and_eq_true] at h
    obtain ⟨⟨h1, h2⟩, h3⟩ := h
    rw [oks]
    refine ⟨ok1_of list _ h1, ?_, oks_of list k r h3⟩
    rintro ⟨hp, hk⟩
    rw [show (Bk.mk k lv i ls ss l).kind = k from rfl, decide_eq_true hk, decide_eq_true (by simpa using hp)] at h2
    cases h2
end
mutual
theorem d1_dp : ∀ x : Bk, dp1 x = d1N x
  | .mk k lv i ls ss l => by
    have ih := d_dp l
    rw [dp1, d1N, ih]
    unfold boxB
    simp only [Bool.or_eq_true, decide_eq_true_iff]
    by_cases h : k = 5 ∨ k = 6 ∨ k = 7
    · rw [if_pos h, if_pos (by rcases h with h | h | h <;> simp [h])]
    · rw [if_neg h, if_neg (by simp only [not_or] at h ⊢; omega)]; omega
theorem d_dp : ∀ l : List Bk, dps l = dN l
  | [] => by rw [dps, dN]
  | x :: r => by rw [dps, dN, d1_dp x, d_dp r]
end
theorem rg_oks {l : List Bk} (h : rgB l = true) (ht : ttAll l ≤ 9000000) : oks E0 false false l ∧ dps l ≤ 16 := by
  have hd := Bt.dN_tt l
  obtain ⟨h1, h2⟩ := Bt.rg_parts h
  refine ⟨oks_of false 0 l h1, ?_⟩
  rw [Bt.dp_dN (by omega)] at h2
  rw [d_dp]
  omega
theorem back {l : List Bk} (h : rgB l = true) (ht : ttAll l ≤ 9000000) : Pa.allE 0 (Bk.wl l) = some l := by
  obtain ⟨h1, h2⟩ := rg_oks h ht
  exact Bk.all_back E0 false l h1 0 _ (by omega) (by omega)
end Go.Proofs.YtldllbmbcnipoabGreatDoor.Wr

namespace Go.Proofs.YtldllbmbcnipoabGreatDoor.Pa
open Go.Proofs.YtldllbmbcnipoabGreatDoor.Bk (Tx Bk fenceL spanK itemL dropBlank listL kindOf closes unquote unitem inner joinLF)
open Go.Proofs.YtldllbmbcnipoabGreatDoor.Kd (E0)
set_option linter.unusedVariables false
end Go.Proofs.YtldllbmbcnipoabGreatDoor.Pa

namespace Go.Proofs.YtldllbmbcnipoabGreatDoor.Pa
open Go.Proofs.YtldllbmbcnipoabGreatDoor.Bk (Tx Bk Env fenceL spanK itemL dropBlank listL items kindOf closes unquote unitem inner define parse joinLF)
open Go.Proofs.YtldllbmbcnipoabGreatDoor.Ln (run mx trim)
open Go.Proofs.YtldllbmbcnipoabGreatDoor.Kd (E0)
set_option linter.unusedVariables false
end Go.Proofs.YtldllbmbcnipoabGreatDoor.Pa

namespace Go.Proofs.YtldllbmbcnipoabGreatDoor.Sp
open Go.Proofs.YtldllbmbcnipoabGreatDoor.Tk (cls at_data len_data)
set_option linter.unusedVariables false
end Go.Proofs.YtldllbmbcnipoabGreatDoor.Sp

namespace Go.Proofs.YtldllbmbcnipoabGreatDoor.Sp
open Go.Proofs.YtldllbmbcnipoabGreatDoor.Tk (S S_of S_list S_size S_toList S_app cls at_data len_data)
open Go.Proofs.YtldllbmbcnipoabGreatDoor.Utf (chk chk_zero_iff zeroB)
set_option linter.unusedVariables false
end Go.Proofs.YtldllbmbcnipoabGreatDoor.Sp

namespace Go.Proofs.YtldllbmbcnipoabGreatDoor.Pa
open Go.Proofs.YtldllbmbcnipoabGreatDoor.Tk (S S_list S_size)
open Go.Proofs.YtldllbmbcnipoabGreatDoor.Sp (Sp)
open Go.Proofs.YtldllbmbcnipoabGreatDoor.Bt (fitAll fitOne fitOne_eq ttAll ttOne ttOne_eq ttAll_cons lnTot)
open Go.Proofs.YtldllbmbcnipoabGreatDoor.Bk (Tx Bk Env fenceL spanK itemL dropBlank listL items kindOf closes unquote unitem inner define parse joinLF)
open Go.Proofs.YtldllbmbcnipoabGreatDoor.Ln (run mx trim)
open Go.Proofs.YtldllbmbcnipoabGreatDoor.Kd (E0)
set_option linter.unusedVariables false
end Go.Proofs.YtldllbmbcnipoabGreatDoor.Pa

namespace Go.Proofs.YtldllbmbcnipoabGreatDoor.Pa
open Go.Proofs.YtldllbmbcnipoabGreatDoor.Tk (S S_list S_size)
open Go.Proofs.YtldllbmbcnipoabGreatDoor.Sp (Sp Wt Wt_app Wt_tail Wt_nil rtB txB edB spB hsB plAll)
open Go.Proofs.YtldllbmbcnipoabGreatDoor.Bt (allB oneB rgB lineB labB infB ckB tgB dp dpAll dpOne boxB allB_cons)
open Go.Proofs.YtldllbmbcnipoabGreatDoor.Bk (Tx Bk Env fenceL spanK itemL dropBlank listL items kindOf closes unquote unitem inner define parse joinLF)
open Go.Proofs.YtldllbmbcnipoabGreatDoor.Ln (run mx trim dl dr gapB)
open Go.Proofs.YtldllbmbcnipoabGreatDoor.Kd (E0)
set_option linter.unusedVariables false
def Lt (s : Tx) : Prop := Wt s ∧ (10 : UInt8) ∉ s
structure Tr1 (s : Tx) : Prop where
  lt : Lt s
  ne : s ≠ []
  hd : ∀ b, s.head? = some b → gapB b = false
  la : ∀ b, s.getLast? = some b → gapB b = false
structure Jn (z : Tx) : Prop where
  wt : Wt z
  tx : txB z = true
  ne : z ≠ []
  hd : ∀ b, z.head? = some b → gapB b = false ∧ b ≠ 10
  la : ∀ b, z.getLast? = some b → gapB b = false ∧ b ≠ 10
end Go.Proofs.YtldllbmbcnipoabGreatDoor.Pa

namespace Go.Proofs.YtldllbmbcnipoabGreatDoor.Pa
open Go.Proofs.YtldllbmbcnipoabGreatDoor.Tk (S S_list S_size)
open Go.Proofs.YtldllbmbcnipoabGreatDoor.Sp (Sp rtB hsB dsB plAll)
open Go.Proofs.YtldllbmbcnipoabGreatDoor.Bt (allB oneB rgB lineB labB infB ckB tgB dp dpAll dpOne boxB allB_cons)
open Go.Proofs.YtldllbmbcnipoabGreatDoor.Bk (Tx Bk Env fenceL spanK itemL dropBlank listL items kindOf closes unquote unitem inner define parse joinLF)
open Go.Proofs.YtldllbmbcnipoabGreatDoor.Ln (run mx trim)
open Go.Proofs.YtldllbmbcnipoabGreatDoor.Kd (E0)
set_option linter.unusedVariables false
end Go.Proofs.YtldllbmbcnipoabGreatDoor.Pa

namespace Go.Proofs.YtldllbmbcnipoabGreatDoor.Pa
open Go.Proofs.YtldllbmbcnipoabGreatDoor.Tk (S S_list S_size)
open Go.Proofs.YtldllbmbcnipoabGreatDoor.Sp (Sp V V_cut Wt)
open Go.Proofs.YtldllbmbcnipoabGreatDoor.Bt (fitAll fitOne fitOne_eq)
open Go.Proofs.YtldllbmbcnipoabGreatDoor.Bk (Tx Bk fenceL spanK items kindOf define parse joinLF)
open Go.Proofs.YtldllbmbcnipoabGreatDoor.Ln (run trim)
open Go.Proofs.YtldllbmbcnipoabGreatDoor.Kd (E0)
open Go.Proofs.YtldllbmbcnipoabGreatDoor.Utf (chk)
set_option linter.unusedVariables false
theorem strip_lt {cur : Tx} (hv : V cur) (h0 : (0 : UInt8) ∉ cur) (h10 : (10 : UInt8) ∉ cur) (h13 : (13 : UInt8) ∉ cur ∨ ∃ c, cur = c ++ [13] ∧ (13 : UInt8) ∉ c) : Lt (Ln.strip cur) := by
  rcases h13 with h | ⟨c, rfl, h⟩
  · rw [Ln.strip_id cur h]
    exact ⟨⟨hv, h0, h⟩, h10⟩
  · rw [Ln.strip_snoc]
    exact ⟨⟨(V_cut (c := 13) (by decide) c.length c [] (Nat.le_refl _) hv).1, fun hm => h0 (List.mem_append_left _ hm), h⟩, fun hm => h10 (List.mem_append_left _ hm)⟩
theorem ls_lt : ∀ (r cur : Tx), V (cur ++ r) → (0 : UInt8) ∉ cur ++ r → (10 : UInt8) ∉ cur → ((13 : UInt8) ∉ cur ∨ ∃ c, cur = c ++ [13] ∧ (13 : UInt8) ∉ c ∧ r.head? = some 10) → ∀ x ∈ (Ln.ls cur r).1, Lt x
  | [], cur, hv, h0, h10, h13, x, hx => by
    have h : (13 : UInt8) ∉ cur := by
      rcases h13 with h | ⟨c, _, _, h⟩
      · exact h
      · cases h
    rw [List.append_nil] at hv h0
    unfold Ln.ls at hx
    split at hx
    · cases hx
    · rw [List.mem_singleton] at hx
      subst hx
      exact ⟨⟨hv, h0, h⟩, h10⟩
  | b :: r, cur, hv, h0, h10, h13, x, hx => by
    by_cases hb : b = 10
    · subst hb
      obtain ⟨v1, v2⟩ := V_cut (c := 10) (by decide) cur.length cur r (Nat.le_refl _) hv
      rw [Ln.ls_lf] at hx
      rcases List.mem_cons.1 hx with rfl | hx
      · exact strip_lt v1 (fun hm => h0 (List.mem_append_left _ hm)) h10 (h13.imp id (fun ⟨c, e, h, _⟩ => ⟨c, e, h⟩))
      · exact ls_lt r [] (by simpa using v2) (fun hm => h0 (List.mem_append_right _ (List.mem_cons_of_mem _ (by simpa using hm)))) (by simp) (Or.inl (by simp)) x hx
    · have h13' : (13 : UInt8) ∉ cur := by
        rcases h13 with h | ⟨c, _, _, h⟩
        · exact h
        · exact absurd (by simpa using h) hb
      by_cases hc : b = 13 ∧ r.head? ≠ some 10
      · obtain ⟨rfl, hc⟩ := hc
        obtain ⟨v1, v2⟩ := V_cut (c := 13) (by decide) cur.length cur r (Nat.le_refl _) hv
        rw [Ln.ls_cr _ _ hc] at hx
        rcases List.mem_cons.1 hx with rfl | hx
        · exact ⟨⟨v1, fun hm => h0 (List.mem_append_left _ hm), h13'⟩, h10⟩
        · exact ls_lt r [] (by simpa using v2) (fun hm => h0 (List.mem_append_right _ (List.mem_cons_of_mem _ (by simpa using hm)))) (by simp) (Or.inl (by simp)) x hx
      · have he : Ln.ls cur (b :: r) = Ln.ls (cur ++ [b]) r := by rw [Ln.ls, if_neg hb, if_neg hc]
        rw [he] at hx
        have happ : cur ++ [b] ++ r = cur ++ b :: r := by rw [List.append_assoc]; rfl
        refine ls_lt r (cur ++ [b]) (by rw [happ]; exact hv) (by rw [happ]; exact h0) (fun hm => ?_) ?_ x hx
        · rcases List.mem_append.1 hm with hm | hm
          · exact h10 hm
          · rw [List.mem_singleton] at hm; exact hb hm.symm
        · by_cases hb13 : b = 13
          · subst hb13
            exact Or.inr ⟨cur, rfl, h13', by
              by_cases h : r.head? = some 10
              · exact h
              · exact absurd ⟨rfl, h⟩ hc⟩
          · exact Or.inl (fun hm => by
              rcases List.mem_append.1 hm with hm | hm
              · exact h13' hm
              · rw [List.mem_singleton] at hm; exact hb13 hm.symm)
end Go.Proofs.YtldllbmbcnipoabGreatDoor.Pa
