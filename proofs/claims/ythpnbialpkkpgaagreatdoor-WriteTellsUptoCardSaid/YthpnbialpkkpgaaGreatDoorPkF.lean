import Derived.Test.YthpnbialpkkpgaaGreatDoorPkE
import Derived.Test.YthpnbialpkkpgaaGreatDoorPkB
import Derived.Deep.RegionLaw
import Derived.Maps.AppendAt
import Derived.Test.YthpnbialpkkpgaaGreatDoorPkY
import Derived.Lib.Walk
import Derived.WalkSpells
import Derived.WalkLawsBesides
namespace Go.Proofs.YthpnbialpkkpgaaGreatDoor.Sp
open Go.RowKit
open Go.Proofs.YthpnbialpkkpgaaGreatDoor.Tk (S S_of S_list S_size S_toList S_app ret_int)
open Go.Proofs.YthpnbialpkkpgaaGreatDoor.Cm (calls_at)
set_option linter.unusedVariables false
end Go.Proofs.YthpnbialpkkpgaaGreatDoor.Sp
namespace Go.Proofs.YthpnbialpkkpgaaGreatDoor.Cm
open Go.RowKit
set_option linter.unusedVariables false
end Go.Proofs.YthpnbialpkkpgaaGreatDoor.Cm
namespace Go.Proofs.YthpnbialpkkpgaaGreatDoor.Sp
open Go.RowKit
open Go.Proofs.YthpnbialpkkpgaaGreatDoor.Tk (S S_of S_list S_size S_toList S_app ret_int)
open Go.Proofs.YthpnbialpkkpgaaGreatDoor.Cm (calls_at Keep own_keep cell_at alloc_new alloc_at lt_of_at)
set_option linter.unusedVariables false
end Go.Proofs.YthpnbialpkkpgaaGreatDoor.Sp
namespace Go.Proofs.YthpnbialpkkpgaaGreatDoor.Sp
open Go.RowKit
open Go.Proofs.YthpnbialpkkpgaaGreatDoor.Tk (S S_of S_list S_size S_toList S_app ret_int)
open Go.Proofs.YthpnbialpkkpgaaGreatDoor.Cm (calls_at Keep own_keep cell_at alloc_new alloc_at lt_of_at own_obj)
set_option linter.unusedVariables false
end Go.Proofs.YthpnbialpkkpgaaGreatDoor.Sp
namespace Go.Proofs.YthpnbialpkkpgaaGreatDoor.Sp
open Go.RowKit
open Go.Proofs.YthpnbialpkkpgaaGreatDoor.Tk (S S_of S_list S_size S_toList S_app ret_int)
open Go.Proofs.YthpnbialpkkpgaaGreatDoor.Cm (calls_at Keep cell_at alloc_new alloc_at lt_of_at set_at)
set_option linter.unusedVariables false
end Go.Proofs.YthpnbialpkkpgaaGreatDoor.Sp
namespace Go.Proofs.YthpnbialpkkpgaaGreatDoor.Tk
open Go.RowKit
set_option linter.unusedVariables false
def clsI (c : Int) : Int :=
  if c = 10 ∨ c = 13 then 3 else if c = 9 ∨ c = 32 then 2
  else if (33 ≤ c ∧ c ≤ 47) ∨ (58 ≤ c ∧ c ≤ 64) ∨ (91 ≤ c ∧ c ≤ 96) ∨ (123 ≤ c ∧ c ≤ 126) then 4 else 1
theorem clsI3 (c : Int) (h : c = 10 ∨ c = 13) : clsI c = 3 := by unfold clsI; rw [if_pos h]
theorem clsI2 (c : Int) (h : c = 9 ∨ c = 32) : clsI c = 2 := by unfold clsI; rw [if_neg (by omega), if_pos h]
theorem clsI4 (c : Int) (h : (33 ≤ c ∧ c ≤ 47) ∨ (58 ≤ c ∧ c ≤ 64) ∨ (91 ≤ c ∧ c ≤ 96) ∨ (123 ≤ c ∧ c ≤ 126)) : clsI c = 4 := by
  unfold clsI; rw [if_neg (by omega), if_neg (by omega), if_pos h]
theorem clsI1 (c : Int) (h1 : ¬ (c = 10 ∨ c = 13)) (h2 : ¬ (c = 9 ∨ c = 32)) (h : ¬ ((33 ≤ c ∧ c ≤ 47) ∨ (58 ≤ c ∧ c ≤ 64) ∨ (91 ≤ c ∧ c ≤ 96) ∨ (123 ≤ c ∧ c ≤ 126))) : clsI c = 1 := by
  unfold clsI; rw [if_neg h1, if_neg h2, if_neg h]
theorem clsI_cases (c : Int) : (c = 10 ∨ c = 13) ∨ (c = 9 ∨ c = 32) ∨ (33 ≤ c ∧ c ≤ 47) ∨ (58 ≤ c ∧ c ≤ 64) ∨ (91 ≤ c ∧ c ≤ 96) ∨ (123 ≤ c ∧ c ≤ 126) ∨ (c < 9 ∨ (11 ≤ c ∧ c ≤ 12) ∨ (14 ≤ c ∧ c ≤ 31) ∨ (48 ≤ c ∧ c ≤ 57) ∨ (65 ≤ c ∧ c ≤ 90) ∨ (97 ≤ c ∧ c ≤ 122) ∨ 127 ≤ c) := by omega
set_option maxHeartbeats 2000000 in
theorem class_any (c : Int) (w : World) :
    Calls Tryz.prog 197 #[.int .i64 c] w fun e w' => e = .returned (.int .i64 (clsI c)) ∧ w = w' := by
  rcases clsI_cases c with (h | h) | (h | h) | h | h | h | h | (h | h | h | h | h | h | h)
  · subst h; have H := Lib.hid (clsI3 10 (Or.inl rfl))
    go_enter Tryz.func197, Tryz.ntmps197
    go_wp2
    all_goals go_ret
    all_goals exact ⟨ret_int H.out.symm, rfl⟩
  · subst h; have H := Lib.hid (clsI3 13 (Or.inr rfl))
    go_enter Tryz.func197, Tryz.ntmps197
    go_wp2
    all_goals go_ret
    all_goals exact ⟨ret_int H.out.symm, rfl⟩
  · subst h; have H := Lib.hid (clsI2 9 (Or.inl rfl))
    go_enter Tryz.func197, Tryz.ntmps197
    go_wp2
    all_goals go_ret
    all_goals exact ⟨ret_int H.out.symm, rfl⟩
  · subst h; have H := Lib.hid (clsI2 32 (Or.inr rfl))
    go_enter Tryz.func197, Tryz.ntmps197
    go_wp2
    all_goals go_ret
    all_goals exact ⟨ret_int H.out.symm, rfl⟩
  · have H := Lib.hid (clsI4 c (by omega))
    have e10 : (c == 10) = false := beq_eq_false_iff_ne.2 (by omega)
    have e13 : (c == 13) = false := beq_eq_false_iff_ne.2 (by omega)
    have e9 : (c == 9) = false := beq_eq_false_iff_ne.2 (by omega)
    have e32 : (c == 32) = false := beq_eq_false_iff_ne.2 (by omega)
    go_enter Tryz.func197, Tryz.ntmps197
    go_wp2
    all_goals go_ret
    all_goals exact ⟨ret_int H.out.symm, rfl⟩
  · have H := Lib.hid (clsI4 c (by omega))
    have e10 : (c == 10) = false := beq_eq_false_iff_ne.2 (by omega)
    have e13 : (c == 13) = false := beq_eq_false_iff_ne.2 (by omega)
    have e9 : (c == 9) = false := beq_eq_false_iff_ne.2 (by omega)
    have e32 : (c == 32) = false := beq_eq_false_iff_ne.2 (by omega)
    go_enter Tryz.func197, Tryz.ntmps197
    go_wp2
    all_goals go_ret
    all_goals exact ⟨ret_int H.out.symm, rfl⟩
  · have H := Lib.hid (clsI4 c (by omega))
    have e10 : (c == 10) = false := beq_eq_false_iff_ne.2 (by omega)
    have e13 : (c == 13) = false := beq_eq_false_iff_ne.2 (by omega)
    have e9 : (c == 9) = false := beq_eq_false_iff_ne.2 (by omega)
    have e32 : (c == 32) = false := beq_eq_false_iff_ne.2 (by omega)
    go_enter Tryz.func197, Tryz.ntmps197
    go_wp2
    all_goals go_ret
    all_goals exact ⟨ret_int H.out.symm, rfl⟩
  · have H := Lib.hid (clsI4 c (by omega))
    have e10 : (c == 10) = false := beq_eq_false_iff_ne.2 (by omega)
    have e13 : (c == 13) = false := beq_eq_false_iff_ne.2 (by omega)
    have e9 : (c == 9) = false := beq_eq_false_iff_ne.2 (by omega)
    have e32 : (c == 32) = false := beq_eq_false_iff_ne.2 (by omega)
    go_enter Tryz.func197, Tryz.ntmps197
    go_wp2
    all_goals go_ret
    all_goals exact ⟨ret_int H.out.symm, rfl⟩
  · have H := Lib.hid (clsI1 c (by omega) (by omega) (by omega))
    have e10 : (c == 10) = false := beq_eq_false_iff_ne.2 (by omega)
    have e13 : (c == 13) = false := beq_eq_false_iff_ne.2 (by omega)
    have e9 : (c == 9) = false := beq_eq_false_iff_ne.2 (by omega)
    have e32 : (c == 32) = false := beq_eq_false_iff_ne.2 (by omega)
    go_enter Tryz.func197, Tryz.ntmps197
    go_wp2
    all_goals go_ret
    all_goals exact ⟨ret_int H.out.symm, rfl⟩
  · have H := Lib.hid (clsI1 c (by omega) (by omega) (by omega))
    have e10 : (c == 10) = false := beq_eq_false_iff_ne.2 (by omega)
    have e13 : (c == 13) = false := beq_eq_false_iff_ne.2 (by omega)
    have e9 : (c == 9) = false := beq_eq_false_iff_ne.2 (by omega)
    have e32 : (c == 32) = false := beq_eq_false_iff_ne.2 (by omega)
    go_enter Tryz.func197, Tryz.ntmps197
    go_wp2
    all_goals go_ret
    all_goals exact ⟨ret_int H.out.symm, rfl⟩
  · have H := Lib.hid (clsI1 c (by omega) (by omega) (by omega))
    have e10 : (c == 10) = false := beq_eq_false_iff_ne.2 (by omega)
    have e13 : (c == 13) = false := beq_eq_false_iff_ne.2 (by omega)
    have e9 : (c == 9) = false := beq_eq_false_iff_ne.2 (by omega)
    have e32 : (c == 32) = false := beq_eq_false_iff_ne.2 (by omega)
    go_enter Tryz.func197, Tryz.ntmps197
    go_wp2
    all_goals go_ret
    all_goals exact ⟨ret_int H.out.symm, rfl⟩
  · have H := Lib.hid (clsI1 c (by omega) (by omega) (by omega))
    have e10 : (c == 10) = false := beq_eq_false_iff_ne.2 (by omega)
    have e13 : (c == 13) = false := beq_eq_false_iff_ne.2 (by omega)
    have e9 : (c == 9) = false := beq_eq_false_iff_ne.2 (by omega)
    have e32 : (c == 32) = false := beq_eq_false_iff_ne.2 (by omega)
    go_enter Tryz.func197, Tryz.ntmps197
    go_wp2
    all_goals go_ret
    all_goals exact ⟨ret_int H.out.symm, rfl⟩
  · have H := Lib.hid (clsI1 c (by omega) (by omega) (by omega))
    have e10 : (c == 10) = false := beq_eq_false_iff_ne.2 (by omega)
    have e13 : (c == 13) = false := beq_eq_false_iff_ne.2 (by omega)
    have e9 : (c == 9) = false := beq_eq_false_iff_ne.2 (by omega)
    have e32 : (c == 32) = false := beq_eq_false_iff_ne.2 (by omega)
    go_enter Tryz.func197, Tryz.ntmps197
    go_wp2
    all_goals go_ret
    all_goals exact ⟨ret_int H.out.symm, rfl⟩
  · have H := Lib.hid (clsI1 c (by omega) (by omega) (by omega))
    have e10 : (c == 10) = false := beq_eq_false_iff_ne.2 (by omega)
    have e13 : (c == 13) = false := beq_eq_false_iff_ne.2 (by omega)
    have e9 : (c == 9) = false := beq_eq_false_iff_ne.2 (by omega)
    have e32 : (c == 32) = false := beq_eq_false_iff_ne.2 (by omega)
    go_enter Tryz.func197, Tryz.ntmps197
    go_wp2
    all_goals go_ret
    all_goals exact ⟨ret_int H.out.symm, rfl⟩
  · have H := Lib.hid (clsI1 c (by omega) (by omega) (by omega))
    have e10 : (c == 10) = false := beq_eq_false_iff_ne.2 (by omega)
    have e13 : (c == 13) = false := beq_eq_false_iff_ne.2 (by omega)
    have e9 : (c == 9) = false := beq_eq_false_iff_ne.2 (by omega)
    have e32 : (c == 32) = false := beq_eq_false_iff_ne.2 (by omega)
    go_enter Tryz.func197, Tryz.ntmps197
    go_wp2
    all_goals go_ret
    all_goals exact ⟨ret_int H.out.symm, rfl⟩
end Go.Proofs.YthpnbialpkkpgaaGreatDoor.Tk
