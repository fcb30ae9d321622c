/-
  Several texts in one:
  CONTRACTS of utf.Class and of the document's Class; token.sameToken.
  CONTRACT of token.sameToken.
-/
import Derived.Test.YtldllbmbcnipoaaDoorPkNB
import Derived.WalkSpells
import Derived.WalkLawsBesides
namespace Go.Proofs.YtldllbmbcnipoaaDoor.Tk
open Go.RowKit
set_option linter.unusedVariables false

/-- A character's class. -/
def clsI (c : Int) : Int :=
  if c = 10 ∨ c = 13 then 3 else if c = 9 ∨ c = 32 then 2
  else if (33 ≤ c ∧ c ≤ 47) ∨ (58 ≤ c ∧ c ≤ 64) ∨ (91 ≤ c ∧ c ≤ 96) ∨ (123 ≤ c ∧ c ≤ 126) then 4 else 1
theorem clsI3 (c : Int) (h : c = 10 ∨ c = 13) : clsI c = 3 := by unfold clsI; rw [if_pos h]
theorem clsI2 (c : Int) (h : c = 9 ∨ c = 32) : clsI c = 2 := by unfold clsI; rw [if_neg (by omega), if_pos h]
theorem clsI4 (c : Int) (h : (33 ≤ c ∧ c ≤ 47) ∨ (58 ≤ c ∧ c ≤ 64) ∨ (91 ≤ c ∧ c ≤ 96) ∨ (123 ≤ c ∧ c ≤ 126)) : clsI c = 4 := by
  unfold clsI; rw [if_neg (by omega), if_neg (by omega), if_pos h]
theorem clsI1 (c : Int) (h1 : ¬ (c = 10 ∨ c = 13)) (h2 : ¬ (c = 9 ∨ c = 32)) (h : ¬ ((33 ≤ c ∧ c ≤ 47) ∨ (58 ≤ c ∧ c ≤ 64) ∨ (91 ≤ c ∧ c ≤ 96) ∨ (123 ≤ c ∧ c ≤ 126))) : clsI c = 1 := by
  unfold clsI; rw [if_neg h1, if_neg h2, if_neg h]
/-- Where a character lies: one case a way. -/
theorem clsI_cases (c : Int) : (c = 10 ∨ c = 13) ∨ (c = 9 ∨ c = 32) ∨ (33 ≤ c ∧ c ≤ 47) ∨ (58 ≤ c ∧ c ≤ 64) ∨ (91 ≤ c ∧ c ≤ 96) ∨ (123 ≤ c ∧ c ≤ 126) ∨ (c < 9 ∨ (11 ≤ c ∧ c ≤ 12) ∨ (14 ≤ c ∧ c ≤ 31) ∨ (48 ≤ c ∧ c ≤ 57) ∨ (65 ≤ c ∧ c ≤ 90) ∨ (97 ≤ c ∧ c ≤ 122) ∨ 127 ≤ c) := by omega

set_option maxHeartbeats 2000000 in
theorem class_any (c : Int) (w : World) :
    Calls Tryd.prog 68 #[.int .i64 c] w fun e w' => e = .returned (.int .i64 (clsI c)) ∧ w = w' := by
  rcases clsI_cases c with (h | h) | (h | h) | h | h | h | h | (h | h | h | h | h | h | h)
  · subst h; have H := Lib.hid (clsI3 10 (Or.inl rfl))
    go_enter Tryd.func68, Tryd.ntmps68
    go_wp2
    all_goals go_ret
    all_goals exact ⟨ret_int H.out.symm, rfl⟩
  · subst h; have H := Lib.hid (clsI3 13 (Or.inr rfl))
    go_enter Tryd.func68, Tryd.ntmps68
    go_wp2
    all_goals go_ret
    all_goals exact ⟨ret_int H.out.symm, rfl⟩
  · subst h; have H := Lib.hid (clsI2 9 (Or.inl rfl))
    go_enter Tryd.func68, Tryd.ntmps68
    go_wp2
    all_goals go_ret
    all_goals exact ⟨ret_int H.out.symm, rfl⟩
  · subst h; have H := Lib.hid (clsI2 32 (Or.inr rfl))
    go_enter Tryd.func68, Tryd.ntmps68
    go_wp2
    all_goals go_ret
    all_goals exact ⟨ret_int H.out.symm, rfl⟩
  · have H := Lib.hid (clsI4 c (by omega))
    have e10 : (c == 10) = false := beq_eq_false_iff_ne.2 (by omega)
    have e13 : (c == 13) = false := beq_eq_false_iff_ne.2 (by omega)
    have e9 : (c == 9) = false := beq_eq_false_iff_ne.2 (by omega)
    have e32 : (c == 32) = false := beq_eq_false_iff_ne.2 (by omega)
    go_enter Tryd.func68, Tryd.ntmps68
    go_wp2
    all_goals go_ret
    all_goals exact ⟨ret_int H.out.symm, rfl⟩
  · have H := Lib.hid (clsI4 c (by omega))
    have e10 : (c == 10) = false := beq_eq_false_iff_ne.2 (by omega)
    have e13 : (c == 13) = false := beq_eq_false_iff_ne.2 (by omega)
    have e9 : (c == 9) = false := beq_eq_false_iff_ne.2 (by omega)
    have e32 : (c == 32) = false := beq_eq_false_iff_ne.2 (by omega)
    go_enter Tryd.func68, Tryd.ntmps68
    go_wp2
    all_goals go_ret
    all_goals exact ⟨ret_int H.out.symm, rfl⟩
  · have H := Lib.hid (clsI4 c (by omega))
    have e10 : (c == 10) = false := beq_eq_false_iff_ne.2 (by omega)
    have e13 : (c == 13) = false := beq_eq_false_iff_ne.2 (by omega)
    have e9 : (c == 9) = false := beq_eq_false_iff_ne.2 (by omega)
    have e32 : (c == 32) = false := beq_eq_false_iff_ne.2 (by omega)
    go_enter Tryd.func68, Tryd.ntmps68
    go_wp2
    all_goals go_ret
    all_goals exact ⟨ret_int H.out.symm, rfl⟩
  · have H := Lib.hid (clsI4 c (by omega))
    have e10 : (c == 10) = false := beq_eq_false_iff_ne.2 (by omega)
    have e13 : (c == 13) = false := beq_eq_false_iff_ne.2 (by omega)
    have e9 : (c == 9) = false := beq_eq_false_iff_ne.2 (by omega)
    have e32 : (c == 32) = false := beq_eq_false_iff_ne.2 (by omega)
    go_enter Tryd.func68, Tryd.ntmps68
    go_wp2
    all_goals go_ret
    all_goals exact ⟨ret_int H.out.symm, rfl⟩
  · have H := Lib.hid (clsI1 c (by omega) (by omega) (by omega))
    have e10 : (c == 10) = false := beq_eq_false_iff_ne.2 (by omega)
    have e13 : (c == 13) = false := beq_eq_false_iff_ne.2 (by omega)
    have e9 : (c == 9) = false := beq_eq_false_iff_ne.2 (by omega)
    have e32 : (c == 32) = false := beq_eq_false_iff_ne.2 (by omega)
    go_enter Tryd.func68, Tryd.ntmps68
    go_wp2
    all_goals go_ret
    all_goals exact ⟨ret_int H.out.symm, rfl⟩
  · have H := Lib.hid (clsI1 c (by omega) (by omega) (by omega))
    have e10 : (c == 10) = false := beq_eq_false_iff_ne.2 (by omega)
    have e13 : (c == 13) = false := beq_eq_false_iff_ne.2 (by omega)
    have e9 : (c == 9) = false := beq_eq_false_iff_ne.2 (by omega)
    have e32 : (c == 32) = false := beq_eq_false_iff_ne.2 (by omega)
    go_enter Tryd.func68, Tryd.ntmps68
    go_wp2
    all_goals go_ret
    all_goals exact ⟨ret_int H.out.symm, rfl⟩
  · have H := Lib.hid (clsI1 c (by omega) (by omega) (by omega))
    have e10 : (c == 10) = false := beq_eq_false_iff_ne.2 (by omega)
    have e13 : (c == 13) = false := beq_eq_false_iff_ne.2 (by omega)
    have e9 : (c == 9) = false := beq_eq_false_iff_ne.2 (by omega)
    have e32 : (c == 32) = false := beq_eq_false_iff_ne.2 (by omega)
    go_enter Tryd.func68, Tryd.ntmps68
    go_wp2
    all_goals go_ret
    all_goals exact ⟨ret_int H.out.symm, rfl⟩
  · have H := Lib.hid (clsI1 c (by omega) (by omega) (by omega))
    have e10 : (c == 10) = false := beq_eq_false_iff_ne.2 (by omega)
    have e13 : (c == 13) = false := beq_eq_false_iff_ne.2 (by omega)
    have e9 : (c == 9) = false := beq_eq_false_iff_ne.2 (by omega)
    have e32 : (c == 32) = false := beq_eq_false_iff_ne.2 (by omega)
    go_enter Tryd.func68, Tryd.ntmps68
    go_wp2
    all_goals go_ret
    all_goals exact ⟨ret_int H.out.symm, rfl⟩
  · have H := Lib.hid (clsI1 c (by omega) (by omega) (by omega))
    have e10 : (c == 10) = false := beq_eq_false_iff_ne.2 (by omega)
    have e13 : (c == 13) = false := beq_eq_false_iff_ne.2 (by omega)
    have e9 : (c == 9) = false := beq_eq_false_iff_ne.2 (by omega)
    have e32 : (c == 32) = false := beq_eq_false_iff_ne.2 (by omega)
    go_enter Tryd.func68, Tryd.ntmps68
    go_wp2
    all_goals go_ret
    all_goals exact ⟨ret_int H.out.symm, rfl⟩
  · have H := Lib.hid (clsI1 c (by omega) (by omega) (by omega))
    have e10 : (c == 10) = false := beq_eq_false_iff_ne.2 (by omega)
    have e13 : (c == 13) = false := beq_eq_false_iff_ne.2 (by omega)
    have e9 : (c == 9) = false := beq_eq_false_iff_ne.2 (by omega)
    have e32 : (c == 32) = false := beq_eq_false_iff_ne.2 (by omega)
    go_enter Tryd.func68, Tryd.ntmps68
    go_wp2
    all_goals go_ret
    all_goals exact ⟨ret_int H.out.symm, rfl⟩
  · have H := Lib.hid (clsI1 c (by omega) (by omega) (by omega))
    have e10 : (c == 10) = false := beq_eq_false_iff_ne.2 (by omega)
    have e13 : (c == 13) = false := beq_eq_false_iff_ne.2 (by omega)
    have e9 : (c == 9) = false := beq_eq_false_iff_ne.2 (by omega)
    have e32 : (c == 32) = false := beq_eq_false_iff_ne.2 (by omega)
    go_enter Tryd.func68, Tryd.ntmps68
    go_wp2
    all_goals go_ret
    all_goals exact ⟨ret_int H.out.symm, rfl⟩
theorem cls_nat (b : UInt8) : clsI b.toNat = (cls b : Int) := by
  have h : ∀ b : UInt8, clsI b.toNat = (cls b : Int) := by
    intro b
    unfold clsI cls
    have e : ∀ c : UInt8, (b = c ↔ (b.toNat : Int) = c.toNat) := fun c => ⟨fun h => by rw [h], fun h => UInt8.toNat_inj.1 (by omega)⟩
    have l : ∀ c : UInt8, (b ≤ c ↔ (b.toNat : Int) ≤ c.toNat) := fun c => by rw [UInt8.le_iff_toNat_le]; omega
    have g : ∀ c : UInt8, (c ≤ b ↔ (c.toNat : Int) ≤ b.toNat) := fun c => by rw [UInt8.le_iff_toNat_le]; omega
    simp only [e, l, g]
    generalize (b.toNat : Int) = x
    show (if x = 10 ∨ x = 13 then (3 : Int) else if x = 9 ∨ x = 32 then 2 else if (33 ≤ x ∧ x ≤ 47) ∨ (58 ≤ x ∧ x ≤ 64) ∨ (91 ≤ x ∧ x ≤ 96) ∨ (123 ≤ x ∧ x ≤ 126) then 4 else 1) = ((if x = 10 ∨ x = 13 then (3 : Nat) else if x = 9 ∨ x = 32 then 2 else if (33 ≤ x ∧ x ≤ 47) ∨ (58 ≤ x ∧ x ≤ 64) ∨ (91 ≤ x ∧ x ≤ 96) ∨ (123 ≤ x ∧ x ≤ 126) then 4 else 1 : Nat) : Int)
    split
    · rfl
    · split
      · rfl
      · split <;> rfl
  exact h b
theorem class8 (b : UInt8) (w : World) : Calls Tryd.prog 68 #[.int .i64 b.toNat] w fun e w' => e = .returned (.int .i64 (cls b)) ∧ w = w' := by
  have := class_any b.toNat w; rwa [cls_nat] at this
theorem joins_at (a b : UInt8) : joins a b = (((cls a : Int) == 1 || (cls a : Int) == 2) && ((cls b : Int) == (cls a : Int))) := by
  unfold joins
  have h : ∀ x : UInt8, cls x = 1 ∨ cls x = 2 ∨ cls x = 3 ∨ cls x = 4 := by
    intro x
    unfold cls
    split
    · simp
    · split
      · simp
      · split <;> simp
  rcases h a with e | e | e | e <;> rcases h b with f | f | f | f <;> rw [e, f] <;> decide

end Go.Proofs.YtldllbmbcnipoaaDoor.Tk

namespace Go.Proofs.YtldllbmbcnipoaaDoor.Tk
open Go.RowKit
set_option linter.unusedVariables false

theorem st_any (a b : UInt8) (w : World) :
    Calls Tryd.prog 47 #[.int .u8 a.toNat, .int .u8 b.toNat] w fun e w' => e = .returned (.bool (joins a b)) ∧ w = w' := by
  have H := Lib.hid (joins_at a b)
  have ha : a.toNat ≤ 255 := by have := a.toNat_lt; omega
  have hb : b.toNat ≤ 255 := by have := b.toNat_lt; omega
  have C := Lib.hid (class8 a)
  have D := Lib.hid (class8 b)
  generalize hx : (cls a : Int) = x at *
  generalize hy : (cls b : Int) = y at *
  clear hx hy
  cases e1 : (x == 1) with
  | true =>
    rw [e1] at H
    go_enter Tryd.func47, Tryd.ntmps47
    go_wp2_with fail
    refine (C.out _).mono ?_
    rintro e w' ⟨rfl, rfl⟩
    go_wp2_with fail
    refine (D.out _).mono ?_
    rintro e w' ⟨rfl, rfl⟩
    go_wp2_with fail
    go_ret
    exact ⟨by rw [H.out]; simp, rfl⟩
  | false =>
    rw [e1] at H
    cases e2 : (x == 2) with
    | true =>
      rw [e2] at H
      go_enter Tryd.func47, Tryd.ntmps47
      go_wp2_with fail
      refine (C.out _).mono ?_
      rintro e w' ⟨rfl, rfl⟩
      go_wp2_with fail
      refine (D.out _).mono ?_
      rintro e w' ⟨rfl, rfl⟩
      go_wp2_with fail
      go_ret
      exact ⟨by rw [H.out]; simp, rfl⟩
    | false =>
      rw [e2] at H
      go_enter Tryd.func47, Tryd.ntmps47
      go_wp2_with fail
      refine (C.out _).mono ?_
      rintro e w' ⟨rfl, rfl⟩
      go_wp2_with fail
      go_ret
      exact ⟨by rw [H.out]; simp, rfl⟩

end Go.Proofs.YtldllbmbcnipoaaDoor.Tk
