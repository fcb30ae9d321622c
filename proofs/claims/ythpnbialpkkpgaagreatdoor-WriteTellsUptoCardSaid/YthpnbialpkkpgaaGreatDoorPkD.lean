import Derived.Test.YthpnbialpkkpgaaGreatDoorPkB
import Derived.Test.YthpnbialpkkpgaaGreatDoorPkY
namespace Go.Proofs.YthpnbialpkkpgaaGreatDoor.Sp
open Go.RowKit
open Go.Proofs.YthpnbialpkkpgaaGreatDoor.Tk (S S_of S_list S_size S_toList S_app ret_int eq8 ne8 at_data len_data)
open Go.Proofs.YthpnbialpkkpgaaGreatDoor.Cm (calls_at)
set_option linter.unusedVariables false
def ticksAt (l : List UInt8) (at' : Int) : Nat := if at' < 0 then 0 else ticks (l.drop at'.toNat)
theorem ticks_at (s : ByteArray) (k : Nat) (h : k < s.size) : ticks (s.data.toList.drop k) = if s[k] = 96 then ticks (s.data.toList.drop (k + 1)) + 1 else 0 := by
  rw [at_data s k h, ticks]
theorem rticks_any (s : ByteArray) (at' : Int) (hs : s.size ≤ 140737488355328) (ha : at' ≤ 9223372036854775807) (w : World) :
    Calls Tryz.prog 162 #[.string s, .int .i64 at'] w fun e w' => e = .returned (.int .i64 (ticksAt s.data.toList at' : Nat)) ∧ w = w' := by
  by_cases h0 : at' < 0
  · have HR : Hid (ticksAt s.data.toList at' = 0) := Lib.hid (by unfold ticksAt; rw [if_pos h0])
    have g0 : ¬ 0 ≤ at' := by omega
    rw [HR.out]
    clear h0 HR
    go_enter Tryz.func162, Tryz.ntmps162
    go_wp2_with fail
    go_loop [5] (fun i => i = .int .i64 0) (fun i => 0)
    case atStart => rfl
    case round =>
      subst hrel
      go_wp2_with fail
      go_ret
      exact ⟨rfl, rfl⟩
  · obtain ⟨k, rfl⟩ : ∃ k : Nat, at' = (k : Int) := ⟨at'.toNat, by omega⟩
    have H0 : Hid (ticksAt s.data.toList (k : Int) = 0 + ticks (s.data.toList.drop (k + 0))) := Lib.hid (by unfold ticksAt; rw [if_neg h0]; simp)
    obtain ⟨X, hX⟩ : ∃ X, ticksAt s.data.toList (k : Int) = X := ⟨_, rfl⟩
    rw [hX] at H0
    rw [hX]
    clear hX h0
    go_enter Tryz.func162, Tryz.ntmps162
    go_wp2_with fail
    go_loop [5] (fun i => ∃ n : Nat, i = .int .i64 n ∧ (n = 0 ∨ k + n ≤ s.size) ∧ Hid (X = n + ticks (s.data.toList.drop (k + n)))) (fun i => s.size - (intOf i).toNat)
    case atStart => exact ⟨0, rfl, Or.inl rfl, H0⟩
    case round =>
      clear H0
      obtain ⟨n, rfl, hn, HN⟩ := hrel
      by_cases hlt : k + n < s.size
      · have hnx := HN.out
        rw [ticks_at s (k + n) hlt] at hnx
        have hi1 : (k : Int) + (n : Int) < (s.size : Int) := by omega
        have hi0 : 0 ≤ (k : Int) + (n : Int) := by omega
        by_cases hc : s[k + n] = 96
        · have e1 : ((s[k + n].toNat : Int) == 96) = true := eq8 (b := 96) hc
          have HR : Hid (X = (n + 1) + ticks (s.data.toList.drop (k + (n + 1)))) := Lib.hid (by rw [hnx, if_pos hc, show k + (n + 1) = k + n + 1 from rfl]; omega)
          clear hnx HN hc
          go_wp2_with fail
          go_round
          case rel => exact ⟨n + 1, by go_num, Or.inr (by omega), HR⟩
          case measure => simp [intOf]; omega
        · have e1 : ((s[k + n].toNat : Int) == 96) = false := ne8 (b := 96) hc
          have HR : Hid (X = n) := Lib.hid (by rw [hnx, if_neg hc]; omega)
          clear hnx HN hc
          go_wp2_with fail
          go_ret
          exact ⟨ret_int (by rw [HR.out]), rfl⟩
      · have hi1 : ¬ (k : Int) + (n : Int) < (s.size : Int) := by omega
        have HR : Hid (X = n) := Lib.hid (by rw [HN.out, drop_all s _ hlt]; rfl)
        clear HN
        go_wp2_with fail
        go_ret
        exact ⟨ret_int (by rw [HR.out]), rfl⟩
theorem only_at (s : ByteArray) (k : Nat) (h : k < s.size) : onlySp (s.data.toList.drop k) = ((s[k] == 32) && onlySp (s.data.toList.drop (k + 1))) := by
  rw [at_data s k h]; rfl
theorem head_data (s : ByteArray) (h : 0 < s.size) : s.data.toList.head? = some s[0] := by
  have := at_data s 0 h
  rw [List.drop_zero] at this
  rw [this]; rfl
theorem last_data (s : ByteArray) (h : s.size - 1 < s.size) : s.data.toList.getLast? = some s[s.size - 1] := by
  have h1 := at_data s (s.size - 1) h
  have hl := len_data s
  rw [List.getLast?_eq_getElem?, ← List.head?_drop, hl, h1]
  rfl
end Go.Proofs.YthpnbialpkkpgaaGreatDoor.Sp
namespace Go.Proofs.YthpnbialpkkpgaaGreatDoor.Sp
open Go.RowKit
open Go.Proofs.YthpnbialpkkpgaaGreatDoor.Tk (S S_of S_list S_size S_toList S_app ret_int eq8 ne8 at_data len_data)
open Go.Proofs.YthpnbialpkkpgaaGreatDoor.Cm (calls_at)
set_option linter.unusedVariables false
theorem ext_list (s : ByteArray) (a b : Nat) : (s.extract a b).data.toList = (s.data.toList.drop a).take (b - a) := by
  rw [ByteArray.data_extract, Array.toList_extract, List.extract_eq_take_drop]
theorem sliceS (x : ByteArray) (m k : Nat) (h1 : m ≤ k) (h2 : k ≤ x.size) (w : World) :
    (Instr.slice 9 (.string x) (some (.int .i64 (m : Int))) (some (.int .i64 (k : Int))) none).run Tryz.prog w = .ok (.string (x.extract m k)) w := by
  have h3 : (m : Int) ≤ (k : Int) := by omega
  have h4 : (k : Int) ≤ (x.size : Int) := by omega
  have h5 : 0 ≤ (m : Int) := by omega
  go_simp
theorem dcB_eq (c : UInt8) : destB c = dcB c := by
  unfold destB dcB alB
  have h : ∀ n : Nat, n < 256 → (decide (UInt8.ofNat n ≤ c) = decide ((n : Int) ≤ (c.toNat : Int))) ∧ (decide (c ≤ UInt8.ofNat n) = decide ((c.toNat : Int) ≤ (n : Int))) := fun n hn => by
    have e : (UInt8.ofNat n).toNat = n := by rw [UInt8.toNat_ofNat']; omega
    constructor
    · apply decide_eq_decide.2
      rw [UInt8.le_iff_toNat_le, e]
      omega
    · apply decide_eq_decide.2
      rw [UInt8.le_iff_toNat_le, e]
      omega
  have m : [46, 47, 95, 45, 35, 63, 38, 58, 37].contains c = marksL.any (fun b => decide (c = b)) := by
    rw [Bool.eq_iff_iff, List.contains_iff_mem, List.any_eq_true]
    constructor
    · intro hm; exact ⟨c, hm, by simp⟩
    · rintro ⟨x, hx, he⟩
      have e : c = x := by simpa using he
      rw [e]; exact hx
  rw [m]
  have a1 := (h 97 (by omega)).1
  have a2 := (h 122 (by omega)).2
  have a3 := (h 65 (by omega)).1
  have a4 := (h 90 (by omega)).2
  have a5 := (h 48 (by omega)).1
  have a6 := (h 57 (by omega)).2
  have o97 : (UInt8.ofNat 97) = 97 := rfl
  have o122 : (UInt8.ofNat 122) = 122 := rfl
  have o65 : (UInt8.ofNat 65) = 65 := rfl
  have o90 : (UInt8.ofNat 90) = 90 := rfl
  have o48 : (UInt8.ofNat 48) = 48 := rfl
  have o57 : (UInt8.ofNat 57) = 57 := rfl
  rw [o97] at a1
  rw [o122] at a2
  rw [o65] at a3
  rw [o90] at a4
  rw [o48] at a5
  rw [o57] at a6
  rw [a1, a2, a3, a4, a5, a6]
  rfl
theorem ext_one' (x : ByteArray) (k : Nat) (h : k < x.size) : (x.extract k (k + 1)).data.toList = [x[k]] := by
  rw [ext_list, at_data x k h, show k + 1 - k = 1 by omega]
  rfl
end Go.Proofs.YthpnbialpkkpgaaGreatDoor.Sp
namespace Go.Proofs.YthpnbialpkkpgaaGreatDoor.Sp
open Go.Proofs.YthpnbialpkkpgaaGreatDoor.Tk (cls at_data len_data)
set_option linter.unusedVariables false
variable {e l : Bool} {L : List Sp}
end Go.Proofs.YthpnbialpkkpgaaGreatDoor.Sp
namespace Go.Proofs.YthpnbialpkkpgaaGreatDoor.Sp
open Go.RowKit
open Go.Proofs.YthpnbialpkkpgaaGreatDoor.Tk (S S_of S_list S_size S_toList S_app ret_int eq8 ne8 at_data len_data)
open Go.Proofs.YthpnbialpkkpgaaGreatDoor.Cm (calls_at)
set_option linter.unusedVariables false
def txB : List UInt8 → Bool
  | [] => true
  | [_] => true
  | a :: b :: r => !((decide (a = 10) && (spB b || decide (b = 10))) || (decide (b = 10) && spB a)) && txB (b :: r)
def ttB (s : List UInt8) : Bool := txB s && (!s.isEmpty && !hsB 13 s)
theorem txB_two (a b : UInt8) (r : List UInt8) : txB (a :: b :: r) = (!((decide (a = 10) && (spB b || decide (b = 10))) || (decide (b = 10) && spB a)) && txB (b :: r)) := by rw [txB]
set_option maxHeartbeats 1600000 in
theorem text_any (s : ByteArray) (hs : s.size ≤ 140737488355328) (w : World) :
    Calls Tryz.prog 184 #[.string s] w fun e w' => e = .returned (.bool (ttB s.data.toList)) ∧ w = w' := by
  have H0 : Hid (ttB s.data.toList = (txB (s.data.toList.drop 0) && (!s.data.toList.isEmpty && !hsB 13 s.data.toList))) := Lib.hid (by rw [List.drop_zero]; rfl)
  have HEm : Hid ((!s.toList.isEmpty) = !s.data.toList.isEmpty) := Lib.hid (by rw [Lib.toList_data])
  have HH := Lib.hid (has_any s 13 hs w)
  have HS := Lib.hid (fun c => space_any c w)
  obtain ⟨X, hX⟩ : ∃ X, ttB s.data.toList = X := ⟨_, rfl⟩
  obtain ⟨ne, hne⟩ : ∃ ne, (!s.data.toList.isEmpty) = ne := ⟨_, rfl⟩
  obtain ⟨h13, hh13⟩ : ∃ y, hsB 13 s.data.toList = y := ⟨_, rfl⟩
  rw [hX, hne, hh13] at H0
  rw [hne] at HEm
  rw [hh13] at HH
  rw [hX]
  clear hX hne hh13
  go_enter Tryz.func184, Tryz.ntmps184
  go_wp2_with fail
  go_loop [3] (fun i => ∃ k : Nat, k ≤ s.size ∧ i = .int .i64 k ∧ Hid (X = (txB (s.data.toList.drop k) && (ne && !h13)))) (fun i => s.size - (intOf i).toNat)
  case atStart => exact ⟨0, Nat.zero_le _, rfl, H0⟩
  case round =>
    clear H0
    obtain ⟨k, hk, rfl, HN⟩ := hrel
    by_cases hlt : k + 1 < s.size
    · have hk0 : k < s.size := by omega
      have hnx := HN.out
      rw [at_data s k hk0, at_data s (k + 1) hlt, txB_two, ← at_data s (k + 1) hlt] at hnx
      have d0 : decide ((k : Int) + 1 < (s.size : Int)) = true := decide_eq_true (by omega)
      have HQ := Lib.hid hnx
      have HSa := Lib.hid (HS.out s[k])
      have HSb := Lib.hid (HS.out s[k + 1])
      clear hnx HN
      by_cases a10 : s[k] = 10
      · have e1 : ((s[k].toNat : Int) == 10) = true := eq8 (b := 10) a10
        cases hsb : spB s[k + 1] with
        | true =>
          rw [hsb] at HSb
          have HR : Hid (X = false) := Lib.hid (by rw [HQ.out, hsb, decide_eq_true a10]; simp)
          clear HQ a10 hsb HSa
          go_wp2_with fail
          refine HSb.out.mono ?_
          rintro e w1 ⟨rfl, rfl⟩
          clear HSb
          go_wp2_with fail
          go_ret
          exact ⟨ret_bool HR.out.symm, rfl⟩
        | false =>
          rw [hsb] at HSb
          by_cases b10 : s[k + 1] = 10
          · have e2 : ((s[k + 1].toNat : Int) == 10) = true := eq8 (b := 10) b10
            have HR : Hid (X = false) := Lib.hid (by rw [HQ.out, decide_eq_true a10, decide_eq_true b10]; simp)
            clear HQ a10 b10 hsb HSa
            go_wp2_with fail
            refine HSb.out.mono ?_
            rintro e w1 ⟨rfl, rfl⟩
            clear HSb
            go_wp2_with fail
            go_ret
            exact ⟨ret_bool HR.out.symm, rfl⟩
          · have e2 : ((s[k + 1].toNat : Int) == 10) = false := ne8 (b := 10) b10
            have HR : Hid (X = (txB (s.data.toList.drop (k + 1)) && (ne && !h13))) := Lib.hid (by rw [HQ.out, hsb, decide_eq_false b10]; simp)
            clear HQ a10 b10 hsb HSa
            go_wp2_with fail
            refine HSb.out.mono ?_
            rintro e w1 ⟨rfl, rfl⟩
            clear HSb
            go_wp2_with fail
            go_round
            case rel => exact ⟨k + 1, by omega, by go_num, HR⟩
            case measure => simp [intOf]; omega
      · have e1 : ((s[k].toNat : Int) == 10) = false := ne8 (b := 10) a10
        by_cases b10 : s[k + 1] = 10
        · have e2 : ((s[k + 1].toNat : Int) == 10) = true := eq8 (b := 10) b10
          cases hsa : spB s[k] with
          | true =>
            rw [hsa] at HSa
            have HR : Hid (X = false) := Lib.hid (by rw [HQ.out, hsa, decide_eq_true b10]; simp)
            clear HQ a10 b10 hsa HSb
            go_wp2_with fail
            refine HSa.out.mono ?_
            rintro e w1 ⟨rfl, rfl⟩
            clear HSa
            go_wp2_with fail
            go_ret
            exact ⟨ret_bool HR.out.symm, rfl⟩
          | false =>
            rw [hsa] at HSa
            have HR : Hid (X = (txB (s.data.toList.drop (k + 1)) && (ne && !h13))) := Lib.hid (by rw [HQ.out, hsa, decide_eq_false a10]; simp)
            clear HQ a10 b10 hsa HSb
            go_wp2_with fail
            refine HSa.out.mono ?_
            rintro e w1 ⟨rfl, rfl⟩
            clear HSa
            go_wp2_with fail
            go_round
            case rel => exact ⟨k + 1, by omega, by go_num, HR⟩
            case measure => simp [intOf]; omega
        · have e2 : ((s[k + 1].toNat : Int) == 10) = false := ne8 (b := 10) b10
          have HR : Hid (X = (txB (s.data.toList.drop (k + 1)) && (ne && !h13))) := Lib.hid (by rw [HQ.out, decide_eq_false a10, decide_eq_false b10]; simp)
          clear HQ a10 b10 HSa HSb
          go_wp2_with fail
          go_round
          case rel => exact ⟨k + 1, by omega, by go_num, HR⟩
          case measure => simp [intOf]; omega
    · have d0 : decide ((k : Int) + 1 < (s.size : Int)) = false := decide_eq_false (by omega)
      have hone : txB (s.data.toList.drop k) = true := by
        by_cases hk0 : k < s.size
        · rw [at_data s k hk0, drop_all s (k + 1) hlt]; rfl
        · rw [drop_all s k hk0]; rfl
      have HQ : Hid (X = (ne && !h13)) := Lib.hid (by rw [HN.out, hone]; rfl)
      clear HN hone
      cases hne2 : (!s.toList.isEmpty) with
      | true =>
        have HR : Hid (X = !h13) := Lib.hid (by rw [HQ.out, ← HEm.out, hne2]; rfl)
        clear HQ HEm
        go_wp2_with fail
        refine HH.out.mono ?_
        rintro e w1 ⟨rfl, rfl⟩
        clear HH
        go_wp2_with fail
        go_ret
        exact ⟨ret_bool HR.out.symm, rfl⟩
      | false =>
        have HR : Hid (X = false) := Lib.hid (by rw [HQ.out, ← HEm.out, hne2]; rfl)
        clear HQ HEm
        go_wp2_with fail
        go_ret
        exact ⟨ret_bool HR.out.symm, rfl⟩
end Go.Proofs.YthpnbialpkkpgaaGreatDoor.Sp
