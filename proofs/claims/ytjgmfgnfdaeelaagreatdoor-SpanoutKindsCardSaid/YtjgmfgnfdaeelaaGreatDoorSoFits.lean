/-
  SPANS IN NORMAL FORM, in plain words: unlike ones are written unlike; an escaped text is read as itself. No program.
-/
import Derived.Test.YtjgmfgnfdaeelaaGreatDoorPkE
import Derived.Test.YtjgmfgnfdaeelaaGreatDoorPkG
import Derived.Test.YtjgmfgnfdaeelaaGreatDoorPkA
namespace Go.Proofs.YtjgmfgnfdaeelaaGreatDoor.Sp
open Go.Proofs.YtjgmfgnfdaeelaaGreatDoor.Tk (cls)
set_option linter.unusedVariables false

theorem hs_not {c : UInt8} {s : List UInt8} (h : hsB c s = false) : c ∉ s := by
  intro hm
  have : hsB c s = true := List.any_eq_true.2 ⟨c, hm, by simp⟩
  rw [h] at this
  cases this
mutual
theorem fit1_ok (e k : Bool) : ∀ x : Sp, okOne e k x = true → fit1 e k x
  | .mk q s l, h => by
    have ih := fun e k p h => fits_ok e k p l h
    rw [okOne, Bool.and_eq_true] at h
    have h2 := h.2
    rw [fit1]
    split at h2
    · rename_i h1
      rw [Bool.and_eq_true] at h2
      refine Or.inl ⟨h1, List.isEmpty_iff.1 h2.1, ?_⟩
      rintro rfl
      exact absurd h2.2 (by decide)
    · split at h2
      · rename_i h1
        simp only [Bool.and_eq_true, Bool.not_eq_true'] at h2
        refine Or.inr (Or.inl ⟨h1, List.isEmpty_iff.1 h2.1, ?_, hs_not h2.2.2.1⟩)
        rintro rfl
        exact absurd h2.2.1 (by decide)
      · split at h2
        · rename_i h1
          simp only [Bool.and_eq_true, Bool.not_eq_true'] at h2
          refine Or.inr (Or.inr (Or.inl ⟨h1, List.isEmpty_iff.1 h2.1, ?_, h2.2.2.1, ih _ _ _ h2.2.2.2⟩))
          rintro rfl
          exact absurd h2.2.1 (by decide)
        · split at h2
          · rename_i h1
            simp only [Bool.and_eq_true, Bool.not_eq_true'] at h2
            have hd := h2.1
            unfold dsB at hd
            rw [Bool.and_eq_true] at hd
            refine Or.inr (Or.inr (Or.inr ⟨h1, ?_, fun c hc => ?_, ?_, h2.2.2.1, ih _ _ _ h2.2.2.2⟩))
            · rintro rfl
              exact absurd hd.2 (by decide)
            · rw [dcB_eq]; exact List.all_eq_true.1 hd.1 c hc
            · rintro rfl
              exact absurd h2.2.1 (by decide)
          · cases h2
theorem fits_ok (e k : Bool) (p : Int) : ∀ L : List Sp, okAll e k p L = true → fits e k p L
  | [], _ => by rw [fits]; trivial
  | .mk q s l :: r, h => by
    rw [okAll_cons, Bool.and_eq_true, Bool.and_eq_true] at h
    rw [fits]
    refine ⟨fit1_ok e k (.mk q s l) h.1.1, ?_, fits_ok e k q r h.2⟩
    rintro ⟨h1, h2⟩
    have h3 := h.1.2
    rw [show (Sp.mk q s l).kind = q from rfl, decide_eq_true h1, decide_eq_true h2] at h3
    cases h3
end
theorem fits_rt {l : List Sp} (h : rtB l = true) : fits false false 0 l := by
  unfold rtB at h
  rw [Bool.and_eq_true] at h
  exact fits_ok _ _ _ l h.1
theorem read_wrs {l : List Sp} (h : rtB l = true) : (Rdr false false (wrs l)).1 = l := parse_write l (fits_rt h)
theorem wrs_like {a b : List Sp} (ha : rtB a = true) (hb : rtB b = true) : wrs a = wrs b ↔ a = b :=
  ⟨fun h => by rw [← read_wrs ha, h, read_wrs hb], fun h => by rw [h]⟩

theorem esc_one (c : UInt8) (r : List UInt8) : esc (c :: r) = (if marked c = true then [92, c] else [c]) ++ esc r := by
  rw [esc]
  split <;> rfl
theorem esc_both : ∀ a b : List UInt8, esc (a ++ b) = esc a ++ esc b
  | [], b => by simp [esc]
  | c :: a, b => by
    rw [List.cons_append, esc_one, esc_one, esc_both a b, List.append_assoc]
theorem esc_two : ∀ l : List UInt8, (esc l).length ≤ 2 * l.length
  | [] => Nat.le_refl _
  | c :: r => by
    have := esc_two r
    rw [esc_one, List.length_append, List.length_cons]
    split <;> simp <;> omega
theorem Rdr_esc (e l : Bool) : ∀ t : List UInt8, (Rdr e l (esc t)).1 = oneT t
  | [] => rfl
  | c :: r => by
    have ih := Rdr_esc e l r
    rw [esc_one]
    cases h : marked c with
    | true =>
      rw [if_pos rfl]
      show (Rdr e l (92 :: (c :: esc r))).1 = _
      have hs : stp e l 92 (c :: esc r) = .text [c] (esc r) := by
        unfold stp stepOf
        rw [if_neg (by rintro (⟨h, _⟩ | ⟨h, _⟩) <;> exact absurd h (by decide)), if_pos ⟨rfl, by simp [marked_cls c h]⟩]
        rfl
      rw [Rdr_cons, hs]
      show consT [c] (Rdr e l (esc r)).1 = _
      rw [ih, oneT_cons]
    | false =>
      rw [if_neg (by simp)]
      show (Rdr e l (c :: esc r)).1 = _
      obtain ⟨h1, h2, h3, h4, h5⟩ := unmarked c h
      rw [Rdr_cons, stp_plain (by unfold spcB; rw [decide_eq_false h1, decide_eq_false h2, decide_eq_false h3, decide_eq_false h4, decide_eq_false h5]; rfl)]
      show consT [c] (Rdr e l (esc r)).1 = _
      rw [ih, oneT_cons]

end Go.Proofs.YtjgmfgnfdaeelaaGreatDoor.Sp
