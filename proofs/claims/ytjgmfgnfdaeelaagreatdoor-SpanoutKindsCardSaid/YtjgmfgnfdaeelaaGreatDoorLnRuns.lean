/-
  CONTRACTS of lines.Run, lines.Longest, lines.Trim, lines.Blank and of the document's Run, Longest, gap, Trim (emendationref02).
-/
import Derived.Test.YtjgmfgnfdaeelaaGreatDoorLnPlain
import Derived.Test.YtjgmfgnfdaeelaaGreatDoorShelf
import Derived.Shelf.Strings.SlTrimAscii
import Derived.WalkKit
import Derived.Laws.IdiomStrings
import Derived.Deep.QuietTactic
import Derived.Lib.MinMax
namespace Go.Proofs.YtjgmfgnfdaeelaaGreatDoor.Ln
open Go.RowKit
set_option linter.unusedVariables false

theorem ret_int {x y : Int} (h : x = y) : Ending.returned (.int .i64 x) = Ending.returned (.int .i64 y) := by rw [h]
theorem eq8 {a b : UInt8} (h : a = b) : ((a.toNat : Int) == (b.toNat : Int)) = true := by simp [h]
theorem ne8 {a b : UInt8} (h : a ≠ b) : ((a.toNat : Int) == (b.toNat : Int)) = false := by
  rw [beq_eq_false_iff_ne]
  intro e
  exact h (UInt8.toNat_inj.1 (by omega))
theorem len_data (s : ByteArray) : s.data.toList.length = s.size := by simp
theorem at_data (s : ByteArray) (k : Nat) (h : k < s.size) : s.data.toList.drop k = s[k] :: s.data.toList.drop (k + 1) := by
  rw [drop_cons _ k (by simpa using h)]; rfl
theorem drop_all (s : ByteArray) (k : Nat) (h : ¬ k < s.size) : s.data.toList.drop k = [] := List.drop_eq_nil_of_le (by simp; omega)

theorem run_any (s : ByteArray) (hs : s.size ≤ 9223372036854775806) (c : UInt8) (w : World) :
    Calls Tryz.prog 34 #[.string s, .int .u8 c.toNat] w fun e w' => e = .returned (.int .i64 (run c s.data.toList)) ∧ w = w' := by
  have H0 := Lib.hid (show run c s.data.toList = 0 + run c (s.data.toList.drop 0) by simp)
  go_enter Tryz.func34, Tryz.ntmps34
  go_wp2_with fail
  go_loop [8] (fun i => ∃ k : Nat, k ≤ s.size ∧ i = .int .i64 k ∧ run c s.data.toList = k + run c (s.data.toList.drop k)) (fun i => s.size - (intOf i).toNat)
  case atStart => exact ⟨0, Nat.zero_le _, rfl, H0.out⟩
  case round =>
    clear H0
    obtain ⟨k, hk, rfl, hr⟩ := hrel
    by_cases hlt : k < s.size
    · rw [at_data s k hlt] at hr
      by_cases hc : s[k] = c
      · rw [run_yes hc] at hr
        have e1 := eq8 hc
        have Hr := Lib.hid hr
        clear hr hc
        go_wp2_with fail
        go_round
        case rel => exact ⟨k + 1, by omega, by go_num, by rw [Hr.out]; omega⟩
        case measure => simp [intOf]; omega
      · rw [run_no hc] at hr
        have e1 := ne8 hc
        have Hr := Lib.hid hr
        clear hr hc
        go_wp2_with fail
        go_ret
        exact ⟨ret_int (by rw [Hr.out]; omega), rfl⟩
    · rw [drop_all s k hlt] at hr
      have Hr := Lib.hid (show run c s.data.toList = s.size by rw [hr]; show k + 0 = _; omega)
      clear hr
      go_wp2_with fail
      go_ret
      exact ⟨ret_int (by rw [Hr.out]), rfl⟩

theorem longest_any (s : ByteArray) (hs : s.size ≤ 9223372036854775806) (c : UInt8) (w : World) :
    Calls Tryz.prog 64 #[.string s, .int .u8 c.toNat] w fun e w' => e = .returned (.int .i64 (mx c s.data.toList)) ∧ w = w' := by
  have H0 := Lib.hid (show mx c s.data.toList = lg c 0 0 (s.data.toList.drop 0) by rw [List.drop_zero, lg_mx])
  go_enter Tryz.func64, Tryz.ntmps64
  go_wp2_with fail
  go_loop [5, 6, 10] (fun m n i => ∃ k a b : Nat, k ≤ s.size ∧ a ≤ k ∧ b ≤ k ∧ i = .int .i64 k ∧ m = .int .i64 a ∧ n = .int .i64 b ∧ mx c s.data.toList = lg c a b (s.data.toList.drop k)) (fun _ _ i => s.size - (intOf i).toNat)
  case atStart => exact ⟨0, 0, 0, Nat.zero_le _, Nat.le_refl _, Nat.le_refl _, rfl, rfl, rfl, H0.out⟩
  case round =>
    clear H0
    obtain ⟨k, a, b, hk, ha, hb, rfl, rfl, rfl, hr⟩ := hrel
    by_cases hlt : k < s.size
    · rw [at_data s k hlt] at hr
      by_cases hc : s[k] = c
      · rw [lg_yes hc] at hr
        have e1 := eq8 hc
        have Hr := Lib.hid hr
        clear hr hc
        go_wp2_with fail
        go_round
        case rel => exact ⟨k + 1, max a (b + 1), b + 1, by omega, by omega, by omega, by go_num, by go_num, by go_num, Hr.out⟩
        case measure => simp [intOf]; omega
      · rw [lg_no hc] at hr
        have e1 := ne8 hc
        have Hr := Lib.hid hr
        clear hr hc
        go_wp2_with fail
        go_round
        case rel => exact ⟨k + 1, a, 0, by omega, by omega, by omega, by go_num, rfl, rfl, Hr.out⟩
        case measure => simp [intOf]; omega
    · rw [drop_all s k hlt] at hr
      have Hr := Lib.hid (show mx c s.data.toList = a by rw [hr]; rfl)
      clear hr
      go_wp2_with fail
      go_ret
      exact ⟨ret_int (by rw [Hr.out]), rfl⟩

end Go.Proofs.YtjgmfgnfdaeelaaGreatDoor.Ln
