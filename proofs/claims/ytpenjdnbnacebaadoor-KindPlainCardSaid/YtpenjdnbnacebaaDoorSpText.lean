/-
  CONTRACT of the document's text (emendationref07).
-/
import Derived.Test.YtpenjdnbnacebaaDoorPkB
namespace Go.Proofs.YtpenjdnbnacebaaDoor.Sp
open Go.RowKit
open Go.Proofs.YtpenjdnbnacebaaDoor.Tk (S S_of S_list S_size S_toList S_app ret_int eq8 ne8 at_data len_data)
open Go.Proofs.YtpenjdnbnacebaaDoor.Cm (calls_at)
set_option linter.unusedVariables false

def txB : List UInt8 → Bool
  | [] => true
  | [_] => true
  | a :: b :: r => !((decide (a = 10) && (spB b || decide (b = 10))) || (decide (b = 10) && spB a)) && txB (b :: r)
def ttB (s : List UInt8) : Bool := txB s && (!s.isEmpty && !hsB 13 s)
theorem txB_two (a b : UInt8) (r : List UInt8) : txB (a :: b :: r) = (!((decide (a = 10) && (spB b || decide (b = 10))) || (decide (b = 10) && spB a)) && txB (b :: r)) := by rw [txB]

set_option maxHeartbeats 1600000 in
theorem text_any (s : ByteArray) (hs : s.size ≤ 140737488355328) (w : World) :
    Calls Tryd.prog 113 #[.string s] w fun e w' => e = .returned (.bool (ttB s.data.toList)) ∧ w = w' := by
  have H0 : Hid (ttB s.data.toList = (txB (s.data.toList.drop 0) && (!s.data.toList.isEmpty && !hsB 13 s.data.toList))) := Lib.hid (by rw [List.drop_zero]; rfl)
  have HEm : Hid ((!s.toList.isEmpty) = !s.data.toList.isEmpty) := Lib.hid (by rw [Lib.toList_data])
  have HH := Lib.hid (has_any s 13 hs w)
  have HS := Lib.hid (fun c => space_any c w)
  obtain ⟨X, hX⟩ : ∃ X, ttB s.data.toList = X := ⟨_, rfl⟩
  obtain ⟨ne, hne⟩ : ∃ ne, (!s.data.toList.isEmpty) = ne := ⟨_, rfl⟩
  obtain ⟨h13, hh13⟩ : ∃ y, hsB 13 s.data.toList = y := ⟨_, rfl⟩
  rw [hX, hne, hh13] at H0
  rw [hne] at HEm
  rw [hh13] at HH
  rw [hX]
  clear hX hne hh13
  go_enter Tryd.func113, Tryd.ntmps113
  go_wp2_with fail
  go_loop [3] (fun i => ∃ k : Nat, k ≤ s.size ∧ i = .int .i64 k ∧ Hid (X = (txB (s.data.toList.drop k) && (ne && !h13)))) (fun i => s.size - (intOf i).toNat)
  case atStart => exact ⟨0, Nat.zero_le _, rfl, H0⟩
  case round =>
    clear H0
    obtain ⟨k, hk, rfl, HN⟩ := hrel
    by_cases hlt : k + 1 < s.size
    · have hk0 : k < s.size := by omega
      have hnx := HN.out
      rw [at_data s k hk0, at_data s (k + 1) hlt, txB_two, ← at_data s (k + 1) hlt] at hnx
      have d0 : decide ((k : Int) + 1 < (s.size : Int)) = true := decide_eq_true (by omega)
      have HQ := Lib.hid hnx
      have HSa := Lib.hid (HS.out s[k])
      have HSb := Lib.hid (HS.out s[k + 1])
      clear hnx HN
      by_cases a10 : s[k] = 10
      · have e1 : ((s[k].toNat : Int) == 10) = true := eq8 (b := 10) a10
        cases hsb : spB s[k + 1] with
        | true =>
          rw [hsb] at HSb
          have HR : Hid (X = false) := Lib.hid (by rw [HQ.out, hsb, decide_eq_true a10]; simp)
          clear HQ a10 hsb HSa
          go_wp2_with fail
          refine HSb.out.mono ?_
          rintro e w1 ⟨rfl, rfl⟩
          clear HSb
          go_wp2_with fail
          go_ret
          exact ⟨ret_bool HR.out.symm, rfl⟩
        | false =>
          rw [hsb] at HSb
          by_cases b10 : s[k + 1] = 10
          · have e2 : ((s[k + 1].toNat : Int) == 10) = true := eq8 (b := 10) b10
            have HR : Hid (X = false) := Lib.hid (by rw [HQ.out, decide_eq_true a10, decide_eq_true b10]; simp)
            clear HQ a10 b10 hsb HSa
            go_wp2_with fail
            refine HSb.out.mono ?_
            rintro e w1 ⟨rfl, rfl⟩
            clear HSb
            go_wp2_with fail
            go_ret
            exact ⟨ret_bool HR.out.symm, rfl⟩
          · have e2 : ((s[k + 1].toNat : Int) == 10) = false := ne8 (b := 10) b10
            have HR : Hid (X = (txB (s.data.toList.drop (k + 1)) && (ne && !h13))) := Lib.hid (by rw [HQ.out, hsb, decide_eq_false b10]; simp)
            clear HQ a10 b10 hsb HSa
            go_wp2_with fail
            refine HSb.out.mono ?_
            rintro e w1 ⟨rfl, rfl⟩
            clear HSb
            go_wp2_with fail
            go_round
            case rel => exact ⟨k + 1, by omega, by go_num, HR⟩
            case measure => simp [intOf]; omega
      · have e1 : ((s[k].toNat : Int) == 10) = false := ne8 (b := 10) a10
        by_cases b10 : s[k + 1] = 10
        · have e2 : ((s[k + 1].toNat : Int) == 10) = true := eq8 (b := 10) b10
          cases hsa : spB s[k] with
          | true =>
            rw [hsa] at HSa
            have HR : Hid (X = false) := Lib.hid (by rw [HQ.out, hsa, decide_eq_true b10]; simp)
            clear HQ a10 b10 hsa HSb
            go_wp2_with fail
            refine HSa.out.mono ?_
            rintro e w1 ⟨rfl, rfl⟩
            clear HSa
            go_wp2_with fail
            go_ret
            exact ⟨ret_bool HR.out.symm, rfl⟩
          | false =>
            rw [hsa] at HSa
            have HR : Hid (X = (txB (s.data.toList.drop (k + 1)) && (ne && !h13))) := Lib.hid (by rw [HQ.out, hsa, decide_eq_false a10]; simp)
            clear HQ a10 b10 hsa HSb
            go_wp2_with fail
            refine HSa.out.mono ?_
            rintro e w1 ⟨rfl, rfl⟩
            clear HSa
            go_wp2_with fail
            go_round
            case rel => exact ⟨k + 1, by omega, by go_num, HR⟩
            case measure => simp [intOf]; omega
        · have e2 : ((s[k + 1].toNat : Int) == 10) = false := ne8 (b := 10) b10
          have HR : Hid (X = (txB (s.data.toList.drop (k + 1)) && (ne && !h13))) := Lib.hid (by rw [HQ.out, decide_eq_false a10, decide_eq_false b10]; simp)
          clear HQ a10 b10 HSa HSb
          go_wp2_with fail
          go_round
          case rel => exact ⟨k + 1, by omega, by go_num, HR⟩
          case measure => simp [intOf]; omega
    · have d0 : decide ((k : Int) + 1 < (s.size : Int)) = false := decide_eq_false (by omega)
      have hone : txB (s.data.toList.drop k) = true := by
        by_cases hk0 : k < s.size
        · rw [at_data s k hk0, drop_all s (k + 1) hlt]; rfl
        · rw [drop_all s k hk0]; rfl
      have HQ : Hid (X = (ne && !h13)) := Lib.hid (by rw [HN.out, hone]; rfl)
      clear HN hone
      cases hne2 : (!s.toList.isEmpty) with
      | true =>
        have HR : Hid (X = !h13) := Lib.hid (by rw [HQ.out, ← HEm.out, hne2]; rfl)
        clear HQ HEm
        go_wp2_with fail
        refine HH.out.mono ?_
        rintro e w1 ⟨rfl, rfl⟩
        clear HH
        go_wp2_with fail
        go_ret
        exact ⟨ret_bool HR.out.symm, rfl⟩
      | false =>
        have HR : Hid (X = false) := Lib.hid (by rw [HQ.out, ← HEm.out, hne2]; rfl)
        clear HQ HEm
        go_wp2_with fail
        go_ret
        exact ⟨ret_bool HR.out.symm, rfl⟩

end Go.Proofs.YtpenjdnbnacebaaDoor.Sp
