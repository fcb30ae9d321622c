/-
  CONTRACTS of the document's Ticks, strip (emendationref08).
-/
import Derived.Test.YtjgmfgnfdaeelaaDoorSpDest
namespace Go.Proofs.YtjgmfgnfdaeelaaDoor.Sp
open Go.RowKit
open Go.Proofs.YtjgmfgnfdaeelaaDoor.Tk (S S_of S_list S_size S_toList S_app ret_int eq8 ne8 at_data len_data)
open Go.Proofs.YtjgmfgnfdaeelaaDoor.Cm (calls_at)
set_option linter.unusedVariables false

/-- Backticks side by side at a place. -/
def ticksAt (l : List UInt8) (at' : Int) : Nat := if at' < 0 then 0 else ticks (l.drop at'.toNat)
theorem ticks_at (s : ByteArray) (k : Nat) (h : k < s.size) : ticks (s.data.toList.drop k) = if s[k] = 96 then ticks (s.data.toList.drop (k + 1)) + 1 else 0 := by
  rw [at_data s k h, ticks]
theorem rticks_any (s : ByteArray) (at' : Int) (hs : s.size ≤ 140737488355328) (ha : at' ≤ 9223372036854775807) (w : World) :
    Calls Tryd.prog 35 #[.string s, .int .i64 at'] w fun e w' => e = .returned (.int .i64 (ticksAt s.data.toList at' : Nat)) ∧ w = w' := by
  by_cases h0 : at' < 0
  · have HR : Hid (ticksAt s.data.toList at' = 0) := Lib.hid (by unfold ticksAt; rw [if_pos h0])
    have g0 : ¬ 0 ≤ at' := by omega
    rw [HR.out]
    clear h0 HR
    go_enter Tryd.func35, Tryd.ntmps35
    go_wp2_with fail
    go_loop [5] (fun i => i = .int .i64 0) (fun i => 0)
    case atStart => rfl
    case round =>
      subst hrel
      go_wp2_with fail
      go_ret
      exact ⟨rfl, rfl⟩
  · obtain ⟨k, rfl⟩ : ∃ k : Nat, at' = (k : Int) := ⟨at'.toNat, by omega⟩
    have H0 : Hid (ticksAt s.data.toList (k : Int) = 0 + ticks (s.data.toList.drop (k + 0))) := Lib.hid (by unfold ticksAt; rw [if_neg h0]; simp)
    obtain ⟨X, hX⟩ : ∃ X, ticksAt s.data.toList (k : Int) = X := ⟨_, rfl⟩
    rw [hX] at H0
    rw [hX]
    clear hX h0
    go_enter Tryd.func35, Tryd.ntmps35
    go_wp2_with fail
    go_loop [5] (fun i => ∃ n : Nat, i = .int .i64 n ∧ (n = 0 ∨ k + n ≤ s.size) ∧ Hid (X = n + ticks (s.data.toList.drop (k + n)))) (fun i => s.size - (intOf i).toNat)
    case atStart => exact ⟨0, rfl, Or.inl rfl, H0⟩
    case round =>
      clear H0
      obtain ⟨n, rfl, hn, HN⟩ := hrel
      by_cases hlt : k + n < s.size
      · have hnx := HN.out
        rw [ticks_at s (k + n) hlt] at hnx
        have hi1 : (k : Int) + (n : Int) < (s.size : Int) := by omega
        have hi0 : 0 ≤ (k : Int) + (n : Int) := by omega
        by_cases hc : s[k + n] = 96
        · have e1 : ((s[k + n].toNat : Int) == 96) = true := eq8 (b := 96) hc
          have HR : Hid (X = (n + 1) + ticks (s.data.toList.drop (k + (n + 1)))) := Lib.hid (by rw [hnx, if_pos hc, show k + (n + 1) = k + n + 1 from rfl]; omega)
          clear hnx HN hc
          go_wp2_with fail
          go_round
          case rel => exact ⟨n + 1, by go_num, Or.inr (by omega), HR⟩
          case measure => simp [intOf]; omega
        · have e1 : ((s[k + n].toNat : Int) == 96) = false := ne8 (b := 96) hc
          have HR : Hid (X = n) := Lib.hid (by rw [hnx, if_neg hc]; omega)
          clear hnx HN hc
          go_wp2_with fail
          go_ret
          exact ⟨ret_int (by rw [HR.out]), rfl⟩
      · have hi1 : ¬ (k : Int) + (n : Int) < (s.size : Int) := by omega
        have HR : Hid (X = n) := Lib.hid (by rw [HN.out, drop_all s _ hlt]; rfl)
        clear HN
        go_wp2_with fail
        go_ret
        exact ⟨ret_int (by rw [HR.out]), rfl⟩

/-! Of a code, without a space at each end. -/
theorem only_at (s : ByteArray) (k : Nat) (h : k < s.size) : onlySp (s.data.toList.drop k) = ((s[k] == 32) && onlySp (s.data.toList.drop (k + 1))) := by
  rw [at_data s k h]; rfl
theorem head_data (s : ByteArray) (h : 0 < s.size) : s.data.toList.head? = some s[0] := by
  have := at_data s 0 h
  rw [List.drop_zero] at this
  rw [this]; rfl
theorem last_data (s : ByteArray) (h : s.size - 1 < s.size) : s.data.toList.getLast? = some s[s.size - 1] := by
  have h1 := at_data s (s.size - 1) h
  have hl := len_data s
  rw [List.getLast?_eq_getElem?, ← List.head?_drop, hl, h1]
  rfl
theorem cut_data (s : ByteArray) (h : 2 ≤ s.size) : s.extract 1 (s.size - 1) = S s.data.toList.tail.dropLast := by
  rw [← S_of (s.extract 1 (s.size - 1))]
  congr 1
  rw [ByteArray.data_extract, Array.toList_extract, List.extract_eq_take_drop, List.dropLast_eq_take, List.length_tail, len_data, List.drop_one]
theorem only_two {s : ByteArray} (h : onlySp s.data.toList = false) (h0 : 0 < s.size) (h32 : s[0] = 32) : 2 ≤ s.size := by
  rcases Nat.lt_or_ge s.size 2 with h1 | h1
  · exfalso
    have := only_at s 0 h0
    rw [List.drop_zero, drop_all s (0 + 1) (by omega), h32] at this
    rw [this] at h
    simp [onlySp] at h
  · exact h1
end Go.Proofs.YtjgmfgnfdaeelaaDoor.Sp
