/-
  CONTRACTS of utf.Class, blank, lower, Escapes and of the document's Class, gap.
-/
import Derived.Test.YtlnagfpkhojcmaaUtfNext
namespace Go.Proofs.Ytlnagfpkhojcmaa.Utf
open Go.RowKit
set_option linter.unusedVariables false

/-- A character's class. -/
def cls (c : Int) : Int :=
  if c = 10 ∨ c = 13 then 3 else if c = 9 ∨ c = 32 then 2
  else if (33 ≤ c ∧ c ≤ 47) ∨ (58 ≤ c ∧ c ≤ 64) ∨ (91 ≤ c ∧ c ≤ 96) ∨ (123 ≤ c ∧ c ≤ 126) then 4 else 1
theorem cls3 (c : Int) (h : c = 10 ∨ c = 13) : cls c = 3 := by unfold cls; rw [if_pos h]
theorem cls2 (c : Int) (h : c = 9 ∨ c = 32) : cls c = 2 := by unfold cls; rw [if_neg (by omega), if_pos h]
theorem cls4 (c : Int) (h : (33 ≤ c ∧ c ≤ 47) ∨ (58 ≤ c ∧ c ≤ 64) ∨ (91 ≤ c ∧ c ≤ 96) ∨ (123 ≤ c ∧ c ≤ 126)) : cls c = 4 := by
  unfold cls; rw [if_neg (by omega), if_neg (by omega), if_pos h]
theorem cls1 (c : Int) (h1 : ¬ (c = 10 ∨ c = 13)) (h2 : ¬ (c = 9 ∨ c = 32)) (h : ¬ ((33 ≤ c ∧ c ≤ 47) ∨ (58 ≤ c ∧ c ≤ 64) ∨ (91 ≤ c ∧ c ≤ 96) ∨ (123 ≤ c ∧ c ≤ 126))) : cls c = 1 := by
  unfold cls; rw [if_neg h1, if_neg h2, if_neg h]
/-- Where a character lies: one case a way. -/
theorem cls_cases (c : Int) : (c = 10 ∨ c = 13) ∨ (c = 9 ∨ c = 32) ∨ (33 ≤ c ∧ c ≤ 47) ∨ (58 ≤ c ∧ c ≤ 64) ∨ (91 ≤ c ∧ c ≤ 96) ∨ (123 ≤ c ∧ c ≤ 126) ∨ (c < 9 ∨ (11 ≤ c ∧ c ≤ 12) ∨ (14 ≤ c ∧ c ≤ 31) ∨ (48 ≤ c ∧ c ≤ 57) ∨ (65 ≤ c ∧ c ≤ 90) ∨ (97 ≤ c ∧ c ≤ 122) ∨ 127 ≤ c) := by omega

set_option maxHeartbeats 2000000 in
theorem class_any (c : Int) (w : World) :
    Calls Try.prog 16 #[.int .i64 c] w fun e w' => e = .returned (.int .i64 (cls c)) ∧ w = w' := by
  rcases cls_cases c with (h | h) | (h | h) | h | h | h | h | (h | h | h | h | h | h | h)
  · subst h; have H := Lib.hid (cls3 10 (Or.inl rfl))
    go_enter Try.func16, Try.ntmps16
    go_wp2
    all_goals go_ret
    all_goals exact ⟨ret_int H.out.symm, rfl⟩
  · subst h; have H := Lib.hid (cls3 13 (Or.inr rfl))
    go_enter Try.func16, Try.ntmps16
    go_wp2
    all_goals go_ret
    all_goals exact ⟨ret_int H.out.symm, rfl⟩
  · subst h; have H := Lib.hid (cls2 9 (Or.inl rfl))
    go_enter Try.func16, Try.ntmps16
    go_wp2
    all_goals go_ret
    all_goals exact ⟨ret_int H.out.symm, rfl⟩
  · subst h; have H := Lib.hid (cls2 32 (Or.inr rfl))
    go_enter Try.func16, Try.ntmps16
    go_wp2
    all_goals go_ret
    all_goals exact ⟨ret_int H.out.symm, rfl⟩
  · have H := Lib.hid (cls4 c (by omega))
    have e10 : (c == 10) = false := beq_eq_false_iff_ne.2 (by omega)
    have e13 : (c == 13) = false := beq_eq_false_iff_ne.2 (by omega)
    have e9 : (c == 9) = false := beq_eq_false_iff_ne.2 (by omega)
    have e32 : (c == 32) = false := beq_eq_false_iff_ne.2 (by omega)
    go_enter Try.func16, Try.ntmps16
    go_wp2
    all_goals go_ret
    all_goals exact ⟨ret_int H.out.symm, rfl⟩
  · have H := Lib.hid (cls4 c (by omega))
    have e10 : (c == 10) = false := beq_eq_false_iff_ne.2 (by omega)
    have e13 : (c == 13) = false := beq_eq_false_iff_ne.2 (by omega)
    have e9 : (c == 9) = false := beq_eq_false_iff_ne.2 (by omega)
    have e32 : (c == 32) = false := beq_eq_false_iff_ne.2 (by omega)
    go_enter Try.func16, Try.ntmps16
    go_wp2
    all_goals go_ret
    all_goals exact ⟨ret_int H.out.symm, rfl⟩
  · have H := Lib.hid (cls4 c (by omega))
    have e10 : (c == 10) = false := beq_eq_false_iff_ne.2 (by omega)
    have e13 : (c == 13) = false := beq_eq_false_iff_ne.2 (by omega)
    have e9 : (c == 9) = false := beq_eq_false_iff_ne.2 (by omega)
    have e32 : (c == 32) = false := beq_eq_false_iff_ne.2 (by omega)
    go_enter Try.func16, Try.ntmps16
    go_wp2
    all_goals go_ret
    all_goals exact ⟨ret_int H.out.symm, rfl⟩
  · have H := Lib.hid (cls4 c (by omega))
    have e10 : (c == 10) = false := beq_eq_false_iff_ne.2 (by omega)
    have e13 : (c == 13) = false := beq_eq_false_iff_ne.2 (by omega)
    have e9 : (c == 9) = false := beq_eq_false_iff_ne.2 (by omega)
    have e32 : (c == 32) = false := beq_eq_false_iff_ne.2 (by omega)
    go_enter Try.func16, Try.ntmps16
    go_wp2
    all_goals go_ret
    all_goals exact ⟨ret_int H.out.symm, rfl⟩
  · have H := Lib.hid (cls1 c (by omega) (by omega) (by omega))
    have e10 : (c == 10) = false := beq_eq_false_iff_ne.2 (by omega)
    have e13 : (c == 13) = false := beq_eq_false_iff_ne.2 (by omega)
    have e9 : (c == 9) = false := beq_eq_false_iff_ne.2 (by omega)
    have e32 : (c == 32) = false := beq_eq_false_iff_ne.2 (by omega)
    go_enter Try.func16, Try.ntmps16
    go_wp2
    all_goals go_ret
    all_goals exact ⟨ret_int H.out.symm, rfl⟩
  · have H := Lib.hid (cls1 c (by omega) (by omega) (by omega))
    have e10 : (c == 10) = false := beq_eq_false_iff_ne.2 (by omega)
    have e13 : (c == 13) = false := beq_eq_false_iff_ne.2 (by omega)
    have e9 : (c == 9) = false := beq_eq_false_iff_ne.2 (by omega)
    have e32 : (c == 32) = false := beq_eq_false_iff_ne.2 (by omega)
    go_enter Try.func16, Try.ntmps16
    go_wp2
    all_goals go_ret
    all_goals exact ⟨ret_int H.out.symm, rfl⟩
  · have H := Lib.hid (cls1 c (by omega) (by omega) (by omega))
    have e10 : (c == 10) = false := beq_eq_false_iff_ne.2 (by omega)
    have e13 : (c == 13) = false := beq_eq_false_iff_ne.2 (by omega)
    have e9 : (c == 9) = false := beq_eq_false_iff_ne.2 (by omega)
    have e32 : (c == 32) = false := beq_eq_false_iff_ne.2 (by omega)
    go_enter Try.func16, Try.ntmps16
    go_wp2
    all_goals go_ret
    all_goals exact ⟨ret_int H.out.symm, rfl⟩
  · have H := Lib.hid (cls1 c (by omega) (by omega) (by omega))
    have e10 : (c == 10) = false := beq_eq_false_iff_ne.2 (by omega)
    have e13 : (c == 13) = false := beq_eq_false_iff_ne.2 (by omega)
    have e9 : (c == 9) = false := beq_eq_false_iff_ne.2 (by omega)
    have e32 : (c == 32) = false := beq_eq_false_iff_ne.2 (by omega)
    go_enter Try.func16, Try.ntmps16
    go_wp2
    all_goals go_ret
    all_goals exact ⟨ret_int H.out.symm, rfl⟩
  · have H := Lib.hid (cls1 c (by omega) (by omega) (by omega))
    have e10 : (c == 10) = false := beq_eq_false_iff_ne.2 (by omega)
    have e13 : (c == 13) = false := beq_eq_false_iff_ne.2 (by omega)
    have e9 : (c == 9) = false := beq_eq_false_iff_ne.2 (by omega)
    have e32 : (c == 32) = false := beq_eq_false_iff_ne.2 (by omega)
    go_enter Try.func16, Try.ntmps16
    go_wp2
    all_goals go_ret
    all_goals exact ⟨ret_int H.out.symm, rfl⟩
  · have H := Lib.hid (cls1 c (by omega) (by omega) (by omega))
    have e10 : (c == 10) = false := beq_eq_false_iff_ne.2 (by omega)
    have e13 : (c == 13) = false := beq_eq_false_iff_ne.2 (by omega)
    have e9 : (c == 9) = false := beq_eq_false_iff_ne.2 (by omega)
    have e32 : (c == 32) = false := beq_eq_false_iff_ne.2 (by omega)
    go_enter Try.func16, Try.ntmps16
    go_wp2
    all_goals go_ret
    all_goals exact ⟨ret_int H.out.symm, rfl⟩
  · have H := Lib.hid (cls1 c (by omega) (by omega) (by omega))
    have e10 : (c == 10) = false := beq_eq_false_iff_ne.2 (by omega)
    have e13 : (c == 13) = false := beq_eq_false_iff_ne.2 (by omega)
    have e9 : (c == 9) = false := beq_eq_false_iff_ne.2 (by omega)
    have e32 : (c == 32) = false := beq_eq_false_iff_ne.2 (by omega)
    go_enter Try.func16, Try.ntmps16
    go_wp2
    all_goals go_ret
    all_goals exact ⟨ret_int H.out.symm, rfl⟩
set_option maxHeartbeats 2000000 in
theorem rclass_any (c : Int) (w : World) :
    Calls Try.prog 17 #[.int .i64 c] w fun e w' => e = .returned (.int .i64 (cls c)) ∧ w = w' := by
  rcases cls_cases c with (h | h) | (h | h) | h | h | h | h | (h | h | h | h | h | h | h)
  · subst h; have H := Lib.hid (cls3 10 (Or.inl rfl))
    go_enter Try.func17, Try.ntmps17
    go_wp2
    all_goals go_ret
    all_goals exact ⟨ret_int H.out.symm, rfl⟩
  · subst h; have H := Lib.hid (cls3 13 (Or.inr rfl))
    go_enter Try.func17, Try.ntmps17
    go_wp2
    all_goals go_ret
    all_goals exact ⟨ret_int H.out.symm, rfl⟩
  · subst h; have H := Lib.hid (cls2 9 (Or.inl rfl))
    go_enter Try.func17, Try.ntmps17
    go_wp2
    all_goals go_ret
    all_goals exact ⟨ret_int H.out.symm, rfl⟩
  · subst h; have H := Lib.hid (cls2 32 (Or.inr rfl))
    go_enter Try.func17, Try.ntmps17
    go_wp2
    all_goals go_ret
    all_goals exact ⟨ret_int H.out.symm, rfl⟩
  · have H := Lib.hid (cls4 c (by omega))
    have e10 : (c == 10) = false := beq_eq_false_iff_ne.2 (by omega)
    have e13 : (c == 13) = false := beq_eq_false_iff_ne.2 (by omega)
    have e9 : (c == 9) = false := beq_eq_false_iff_ne.2 (by omega)
    have e32 : (c == 32) = false := beq_eq_false_iff_ne.2 (by omega)
    go_enter Try.func17, Try.ntmps17
    go_wp2
    all_goals go_ret
    all_goals exact ⟨ret_int H.out.symm, rfl⟩
  · have H := Lib.hid (cls4 c (by omega))
    have e10 : (c == 10) = false := beq_eq_false_iff_ne.2 (by omega)
    have e13 : (c == 13) = false := beq_eq_false_iff_ne.2 (by omega)
    have e9 : (c == 9) = false := beq_eq_false_iff_ne.2 (by omega)
    have e32 : (c == 32) = false := beq_eq_false_iff_ne.2 (by omega)
    go_enter Try.func17, Try.ntmps17
    go_wp2
    all_goals go_ret
    all_goals exact ⟨ret_int H.out.symm, rfl⟩
  · have H := Lib.hid (cls4 c (by omega))
    have e10 : (c == 10) = false := beq_eq_false_iff_ne.2 (by omega)
    have e13 : (c == 13) = false := beq_eq_false_iff_ne.2 (by omega)
    have e9 : (c == 9) = false := beq_eq_false_iff_ne.2 (by omega)
    have e32 : (c == 32) = false := beq_eq_false_iff_ne.2 (by omega)
    go_enter Try.func17, Try.ntmps17
    go_wp2
    all_goals go_ret
    all_goals exact ⟨ret_int H.out.symm, rfl⟩
  · have H := Lib.hid (cls4 c (by omega))
    have e10 : (c == 10) = false := beq_eq_false_iff_ne.2 (by omega)
    have e13 : (c == 13) = false := beq_eq_false_iff_ne.2 (by omega)
    have e9 : (c == 9) = false := beq_eq_false_iff_ne.2 (by omega)
    have e32 : (c == 32) = false := beq_eq_false_iff_ne.2 (by omega)
    go_enter Try.func17, Try.ntmps17
    go_wp2
    all_goals go_ret
    all_goals exact ⟨ret_int H.out.symm, rfl⟩
  · have H := Lib.hid (cls1 c (by omega) (by omega) (by omega))
    have e10 : (c == 10) = false := beq_eq_false_iff_ne.2 (by omega)
    have e13 : (c == 13) = false := beq_eq_false_iff_ne.2 (by omega)
    have e9 : (c == 9) = false := beq_eq_false_iff_ne.2 (by omega)
    have e32 : (c == 32) = false := beq_eq_false_iff_ne.2 (by omega)
    go_enter Try.func17, Try.ntmps17
    go_wp2
    all_goals go_ret
    all_goals exact ⟨ret_int H.out.symm, rfl⟩
  · have H := Lib.hid (cls1 c (by omega) (by omega) (by omega))
    have e10 : (c == 10) = false := beq_eq_false_iff_ne.2 (by omega)
    have e13 : (c == 13) = false := beq_eq_false_iff_ne.2 (by omega)
    have e9 : (c == 9) = false := beq_eq_false_iff_ne.2 (by omega)
    have e32 : (c == 32) = false := beq_eq_false_iff_ne.2 (by omega)
    go_enter Try.func17, Try.ntmps17
    go_wp2
    all_goals go_ret
    all_goals exact ⟨ret_int H.out.symm, rfl⟩
  · have H := Lib.hid (cls1 c (by omega) (by omega) (by omega))
    have e10 : (c == 10) = false := beq_eq_false_iff_ne.2 (by omega)
    have e13 : (c == 13) = false := beq_eq_false_iff_ne.2 (by omega)
    have e9 : (c == 9) = false := beq_eq_false_iff_ne.2 (by omega)
    have e32 : (c == 32) = false := beq_eq_false_iff_ne.2 (by omega)
    go_enter Try.func17, Try.ntmps17
    go_wp2
    all_goals go_ret
    all_goals exact ⟨ret_int H.out.symm, rfl⟩
  · have H := Lib.hid (cls1 c (by omega) (by omega) (by omega))
    have e10 : (c == 10) = false := beq_eq_false_iff_ne.2 (by omega)
    have e13 : (c == 13) = false := beq_eq_false_iff_ne.2 (by omega)
    have e9 : (c == 9) = false := beq_eq_false_iff_ne.2 (by omega)
    have e32 : (c == 32) = false := beq_eq_false_iff_ne.2 (by omega)
    go_enter Try.func17, Try.ntmps17
    go_wp2
    all_goals go_ret
    all_goals exact ⟨ret_int H.out.symm, rfl⟩
  · have H := Lib.hid (cls1 c (by omega) (by omega) (by omega))
    have e10 : (c == 10) = false := beq_eq_false_iff_ne.2 (by omega)
    have e13 : (c == 13) = false := beq_eq_false_iff_ne.2 (by omega)
    have e9 : (c == 9) = false := beq_eq_false_iff_ne.2 (by omega)
    have e32 : (c == 32) = false := beq_eq_false_iff_ne.2 (by omega)
    go_enter Try.func17, Try.ntmps17
    go_wp2
    all_goals go_ret
    all_goals exact ⟨ret_int H.out.symm, rfl⟩
  · have H := Lib.hid (cls1 c (by omega) (by omega) (by omega))
    have e10 : (c == 10) = false := beq_eq_false_iff_ne.2 (by omega)
    have e13 : (c == 13) = false := beq_eq_false_iff_ne.2 (by omega)
    have e9 : (c == 9) = false := beq_eq_false_iff_ne.2 (by omega)
    have e32 : (c == 32) = false := beq_eq_false_iff_ne.2 (by omega)
    go_enter Try.func17, Try.ntmps17
    go_wp2
    all_goals go_ret
    all_goals exact ⟨ret_int H.out.symm, rfl⟩
  · have H := Lib.hid (cls1 c (by omega) (by omega) (by omega))
    have e10 : (c == 10) = false := beq_eq_false_iff_ne.2 (by omega)
    have e13 : (c == 13) = false := beq_eq_false_iff_ne.2 (by omega)
    have e9 : (c == 9) = false := beq_eq_false_iff_ne.2 (by omega)
    have e32 : (c == 32) = false := beq_eq_false_iff_ne.2 (by omega)
    go_enter Try.func17, Try.ntmps17
    go_wp2
    all_goals go_ret
    all_goals exact ⟨ret_int H.out.symm, rfl⟩
/-- Is a byte of the class Space or Break? -/
def gapB (b : UInt8) : Bool := b.toNat == 9 || b.toNat == 10 || b.toNat == 13 || b.toNat == 32
/-- A to Z as a to z. -/
def lowB (b : UInt8) : UInt8 := if 65 ≤ b.toNat ∧ b.toNat ≤ 90 then UInt8.ofNat (b.toNat + 32) else b
theorem gap_yes (b : UInt8) (h : gapB b = true) : b.toNat = 9 ∨ b.toNat = 10 ∨ b.toNat = 13 ∨ b.toNat = 32 := by
  unfold gapB at h; simp at h; omega
theorem gap_no (b : UInt8) (h : gapB b = false) : b.toNat ≠ 9 ∧ b.toNat ≠ 10 ∧ b.toNat ≠ 13 ∧ b.toNat ≠ 32 := by
  unfold gapB at h; simp at h; omega
theorem cls_gap (b : UInt8) (h : gapB b = true) : cls b.toNat = 2 ∨ cls b.toNat = 3 := by
  rcases gap_yes b h with e | e | e | e <;> rw [e] <;> decide
theorem cls_nogap (b : UInt8) (h : gapB b = false) : cls b.toNat = 4 ∨ cls b.toNat = 1 := by
  have h1 := gap_no b h
  unfold cls
  rw [if_neg (by omega), if_neg (by omega)]
  split
  · exact Or.inl rfl
  · exact Or.inr rfl
theorem lowB_nat (b : UInt8) : (lowB b).toNat = if 65 ≤ b.toNat ∧ b.toNat ≤ 90 then b.toNat + 32 else b.toNat := by
  unfold lowB
  split
  · rw [UInt8.toNat_ofNat']; omega
  · rfl

set_option maxHeartbeats 400000 in
theorem blank_any (b : UInt8) (w : World) :
    Calls Try.prog 24 #[.int .u8 b.toNat] w fun e w' => e = .returned (.bool (gapB b)) ∧ w = w' := by
  have hb := b.toNat_lt
  cases h : gapB b with
  | true =>
    rcases cls_gap b h with e | e
    all_goals
      have E := Lib.hid e
      clear e h
      go_enter Try.func24, Try.ntmps24
      go_wp2_with fail
      refine (class_any _ _).mono ?_
      rintro e w' ⟨rfl, rfl⟩
      rw [E.out]
      go_wp2_with fail
      go_ret
      exact ⟨rfl, rfl⟩
  | false =>
    rcases cls_nogap b h with e | e
    all_goals
      have E := Lib.hid e
      clear e h
      go_enter Try.func24, Try.ntmps24
      go_wp2_with fail
      refine (class_any _ _).mono ?_
      rintro e w' ⟨rfl, rfl⟩
      rw [E.out]
      go_wp2_with fail
      go_ret
      exact ⟨rfl, rfl⟩

set_option maxHeartbeats 400000 in
theorem escapes_any (b : Int) (h0 : 0 ≤ b) (h1 : b ≤ 255) (w : World) :
    Calls Try.prog 18 #[.int .u8 b] w fun e w' => e = .returned (.bool (cls b == 4)) ∧ w = w' := by
  go_enter Try.func18, Try.ntmps18
  go_wp2_with fail
  refine (class_any _ _).mono ?_
  rintro e w' ⟨rfl, rfl⟩
  go_wp2_with fail
  go_ret
  exact ⟨rfl, rfl⟩

set_option maxHeartbeats 400000 in
theorem lower_any (b : UInt8) (w : World) :
    Calls Try.prog 27 #[.int .i32 b.toNat] w fun e w' => e = .returned (.int .i32 (lowB b).toNat) ∧ w = w' := by
  have hb := b.toNat_lt
  have hl := lowB_nat b
  by_cases h : 65 ≤ b.toNat ∧ b.toNat ≤ 90
  · rw [if_pos h] at hl
    have H := Lib.hid (show (((lowB b).toNat : Nat) : Int) = (b.toNat : Int) - 65 + 97 by rw [hl]; omega)
    clear hl
    obtain ⟨g1, g2⟩ := h
    go_enter Try.func27, Try.ntmps27
    go_wp2
    go_ret
    exact ⟨ret_int H.out.symm, rfl⟩
  · rw [if_neg h] at hl
    have H := Lib.hid (show (((lowB b).toNat : Nat) : Int) = (b.toNat : Int) by rw [hl])
    clear hl
    have h' : b.toNat < 65 ∨ 90 < b.toNat := by omega
    clear h
    rcases h' with g | g
    · go_enter Try.func27, Try.ntmps27
      go_wp2
      go_ret
      exact ⟨ret_int H.out.symm, rfl⟩
    · go_enter Try.func27, Try.ntmps27
      go_wp2
      go_ret
      exact ⟨ret_int H.out.symm, rfl⟩

set_option maxHeartbeats 400000 in
theorem rgap_any (b : UInt8) (w : World) :
    Calls Try.prog 29 #[.int .u8 b.toNat] w fun e w' => e = .returned (.bool (gapB b)) ∧ w = w' := by
  cases h : gapB b with
  | true =>
    have h' : (b.toNat : Int) = 9 ∨ (b.toNat : Int) = 10 ∨ (b.toNat : Int) = 13 ∨ (b.toNat : Int) = 32 := by have := gap_yes b h; omega
    clear h
    rcases h' with e | e | e | e
    all_goals
      rw [e]
      clear e
      go_enter Try.func29, Try.ntmps29
      go_wp2
      go_ret
      exact ⟨rfl, rfl⟩
  | false =>
    have h1 := gap_no b h
    have e9 : ((b.toNat : Int) == 9) = false := beq_eq_false_iff_ne.2 (by omega)
    have e10 : ((b.toNat : Int) == 10) = false := beq_eq_false_iff_ne.2 (by omega)
    have e13 : ((b.toNat : Int) == 13) = false := beq_eq_false_iff_ne.2 (by omega)
    have e32 : ((b.toNat : Int) == 32) = false := beq_eq_false_iff_ne.2 (by omega)
    clear h h1
    go_enter Try.func29, Try.ntmps29
    go_wp2
    go_ret
    exact ⟨rfl, rfl⟩
end Go.Proofs.Ytlnagfpkhojcmaa.Utf
