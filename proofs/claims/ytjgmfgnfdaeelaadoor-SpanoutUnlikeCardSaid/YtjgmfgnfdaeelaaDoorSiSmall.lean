/-
  CONTRACTS of the program's small functions (spanin): Ticks, inner, tailLength; of strings.HasPrefix and HasSuffix at one byte.
-/
import Derived.Test.YtjgmfgnfdaeelaaDoorSiCode
import Derived.Test.YtjgmfgnfdaeelaaDoorShelf
namespace Go.Proofs.YtjgmfgnfdaeelaaDoor.Sp
open Go.RowKit
open Go.Proofs.YtjgmfgnfdaeelaaDoor.Tk (S S_of S_list S_size S_toList S_app ret_int eq8 ne8 at_data len_data drop_all)
set_option linter.unusedVariables false

theorem ticks_yes {b : UInt8} {r : List UInt8} (h : b = 96) : ticks (b :: r) = ticks r + 1 := if_pos h
theorem ticks_no {b : UInt8} {r : List UInt8} (h : ¬ b = 96) : ticks (b :: r) = 0 := if_neg h
theorem lrun_any (s : ByteArray) (hs : s.size ≤ 9223372036854775806) (w : World) :
    Calls Tryd.prog 23 #[.string s, .int .u8 96] w fun e w' => e = .returned (.int .i64 (ticks s.data.toList)) ∧ w = w' := by
  have H0 := Lib.hid (show ticks s.data.toList = 0 + ticks (s.data.toList.drop 0) by simp)
  go_enter Tryd.func23, Tryd.ntmps23
  go_wp2_with fail
  go_loop [8] (fun i => ∃ k : Nat, k ≤ s.size ∧ i = .int .i64 k ∧ ticks s.data.toList = k + ticks (s.data.toList.drop k)) (fun i => s.size - (intOf i).toNat)
  case atStart => exact ⟨0, Nat.zero_le _, rfl, H0.out⟩
  case round =>
    clear H0
    obtain ⟨k, hk, rfl, hr⟩ := hrel
    by_cases hlt : k < s.size
    · rw [at_data s k hlt] at hr
      by_cases hc : s[k] = 96
      · rw [ticks_yes hc] at hr
        have e1 : ((s[k].toNat : Int) == 96) = true := eq8 (b := 96) hc
        have Hr := Lib.hid hr
        clear hr hc
        go_wp2_with fail
        go_round
        case rel => exact ⟨k + 1, by omega, by go_num, by rw [Hr.out]; omega⟩
        case measure => simp [intOf]; omega
      · rw [ticks_no hc] at hr
        have e1 : ((s[k].toNat : Int) == 96) = false := ne8 (b := 96) hc
        have Hr := Lib.hid hr
        clear hr hc
        go_wp2_with fail
        go_ret
        exact ⟨ret_int (by rw [Hr.out]; omega), rfl⟩
    · rw [drop_all s k hlt] at hr
      have Hr := Lib.hid (show ticks s.data.toList = s.size by rw [hr]; show k + 0 = _; omega)
      clear hr
      go_wp2_with fail
      go_ret
      exact ⟨ret_int (by rw [Hr.out]), rfl⟩

theorem slice_fromS (x : ByteArray) (m : Nat) (h1 : m ≤ x.size) (hx : x.size ≤ 140737488355328) (w : World) :
    (Instr.slice 9 (.string x) (some (.int .i64 (m : Int))) none none).run Tryd.prog w = .ok (.string (x.extract m x.size)) w := by
  have h4 : (m : Int) ≤ (x.size : Int) := by omega
  have h5 : 0 ≤ (m : Int) := by omega
  go_simp
theorem ext_from (s : ByteArray) (k : Nat) : (s.extract k s.size).data.toList = s.data.toList.drop k := by
  rw [ext_list]
  exact List.take_of_length_le (by rw [List.length_drop, len_data]; exact Nat.le_refl _)
/-! One byte at an end. -/
def oneS (c : UInt8) : ByteArray := ⟨#[c]⟩
theorem one_list (c : UInt8) : (oneS c).toList = [c] := by rw [Lib.toList_data]; rfl
theorem beq_one (s : ByteArray) (c : UInt8) : (s.toList == (oneS c).toList) = decide (s.data.toList = [c]) := by
  rw [one_list, Lib.toList_data, Bool.eq_iff_iff, beq_iff_eq, decide_eq_true_iff]
theorem prefix0_any (s : ByteArray) (c : UInt8) (hs : s.size ≤ 140737488355328) (w : World) :
    Calls Tryd.prog 67 #[.string s, .string (oneS c)] w fun e w' => e = .returned (.bool (decide (s.data.toList.head? = some c))) ∧ w = w' := by
  have hz : (oneS c).size = 1 := rfl
  by_cases h1 : 1 ≤ s.size
  · have e1 := beq_one (s.extract 0 1) c
    have e2 : decide ((s.extract 0 1).data.toList = [c]) = decide (s.data.toList.head? = some c) := by
      have := at_data s 0 h1
      rw [List.drop_zero] at this
      rw [ext_list, List.drop_zero, this]
      simp
    rw [e2] at e1
    generalize decide (s.data.toList.head? = some c) = B at *
    have g1 : (1 : Int) ≤ (s.size : Int) := by omega
    generalize oneS c = p at *
    go_enter Tryd.func67, Tryd.ntmps67
    go_wp2_with fail
    go_ret
    exact ⟨by first | rfl | rw [e1], rfl⟩
  · have HR : Hid (decide (s.data.toList.head? = some c) = false) := Lib.hid (by
      have := drop_all s 0 (by omega)
      rw [List.drop_zero] at this
      rw [this]; rfl)
    rw [HR.out]
    have g1 : ¬ (1 : Int) ≤ (s.size : Int) := by omega
    generalize oneS c = p at *
    go_enter Tryd.func67, Tryd.ntmps67
    go_wp2_with fail
    go_ret
    exact ⟨rfl, rfl⟩
theorem prefix_any (s : ByteArray) (c : UInt8) (hs : s.size ≤ 140737488355328) (w : World) :
    Calls Tryd.prog 51 #[.string s, .string (oneS c)] w fun e w' => e = .returned (.bool (decide (s.data.toList.head? = some c))) ∧ w = w' := by
  have H := Lib.hid (prefix0_any s c hs w)
  generalize decide (s.data.toList.head? = some c) = B at *
  generalize oneS c = p at *
  go_enter Tryd.func51, Tryd.ntmps51
  go_wp2_with fail
  refine H.out.mono ?_
  rintro e w' ⟨rfl, rfl⟩
  go_wp2_with fail
  go_ret
  exact ⟨rfl, rfl⟩
theorem suffix0_any (s : ByteArray) (c : UInt8) (hs : s.size ≤ 140737488355328) (w : World) :
    Calls Tryd.prog 69 #[.string s, .string (oneS c)] w fun e w' => e = .returned (.bool (decide (s.data.toList.getLast? = some c))) ∧ w = w' := by
  have hz : (oneS c).size = 1 := rfl
  by_cases h1 : 1 ≤ s.size
  · have e1 := beq_one (s.extract (s.size - 1) s.size) c
    have e2 : decide ((s.extract (s.size - 1) s.size).data.toList = [c]) = decide (s.data.toList.getLast? = some c) := by
      rw [last_data s (by omega), ext_from, at_data s (s.size - 1) (by omega), drop_all s (s.size - 1 + 1) (by omega)]
      simp
    rw [e2] at e1
    generalize decide (s.data.toList.getLast? = some c) = B at *
    have g1 : (1 : Int) ≤ (s.size : Int) := by omega
    have g2 : (s.size : Int) - 1 = ((s.size - 1 : Nat) : Int) := by omega
    have hsl := fun w => slice_fromS s (s.size - 1) (by omega) hs w
    rw [← g2] at hsl
    generalize oneS c = p at *
    go_enter Tryd.func69, Tryd.ntmps69
    go_wp2_with fail
    go_ret
    exact ⟨by first | rfl | rw [e1], rfl⟩
  · have HR : Hid (decide (s.data.toList.getLast? = some c) = false) := Lib.hid (by
      have := drop_all s 0 (by omega)
      rw [List.drop_zero] at this
      rw [this]; rfl)
    rw [HR.out]
    have g1 : ¬ (1 : Int) ≤ (s.size : Int) := by omega
    generalize oneS c = p at *
    go_enter Tryd.func69, Tryd.ntmps69
    go_wp2_with fail
    go_ret
    exact ⟨rfl, rfl⟩
theorem suffix_any (s : ByteArray) (c : UInt8) (hs : s.size ≤ 140737488355328) (w : World) :
    Calls Tryd.prog 54 #[.string s, .string (oneS c)] w fun e w' => e = .returned (.bool (decide (s.data.toList.getLast? = some c))) ∧ w = w' := by
  have H := Lib.hid (suffix0_any s c hs w)
  generalize decide (s.data.toList.getLast? = some c) = B at *
  generalize oneS c = p at *
  go_enter Tryd.func54, Tryd.ntmps54
  go_wp2_with fail
  refine H.out.mono ?_
  rintro e w' ⟨rfl, rfl⟩
  go_wp2_with fail
  go_ret
  exact ⟨rfl, rfl⟩
end Go.Proofs.YtjgmfgnfdaeelaaDoor.Sp
