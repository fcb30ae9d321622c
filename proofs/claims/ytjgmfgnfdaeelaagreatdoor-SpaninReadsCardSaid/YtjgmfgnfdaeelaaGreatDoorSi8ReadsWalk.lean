/-
  THE WALK of the statement SpaninReads.
-/
import Derived.Test.YtjgmfgnfdaeelaaGreatDoorSi8Told
namespace Go.Proofs.YtjgmfgnfdaeelaaGreatDoor.Sp
open Go.RowKit
open Go.Proofs.YtjgmfgnfdaeelaaGreatDoor.Tk (S S_of S_list S_size S_toList S_app ret_int eq8 ne8 at_data len_data)
open Go.Proofs.YtjgmfgnfdaeelaaGreatDoor.Cm (calls_at)
set_option linter.unusedVariables false

theorem smAll_self (L : List Sp) : smAll L L = true := (smAll_iff L L).2 rfl
set_option maxHeartbeats 1600000 in
theorem spaninReads_walk (K : Told8) (w : World) (s : ByteArray) (hs : s.size ≤ maxLen) (hr : s.size ≤ reachBytes) (at' : Int) (ha : (Lit.int .i64 at').wf = true) :
    Calls Tryz.prog 3 #[.string s, .int .i64 at'] w (OkAns w true) := by
  have HA := Lib.hid (awake8_any K)
  have hat : -9223372036854775808 ≤ at' ∧ at' ≤ 9223372036854775807 := by simpa [Lit.wf, IntKind.min, IntKind.max, IntKind.signed, IntKind.bits] using ha
  have hrb : reachBytes ≤ 140737488355328 := by decide
  clear hs ha
  by_cases hl : s.size ≤ 300
  · have g0 : ¬ 300 < (s.size : Int) := by omega
    have HP := Lib.hid (fun w => K.parse s w (by omega))
    have HQ := Lib.hid (fun w => rparse_tr s (by omega) w)
    have HC := Lib.hid (fun w => K.clean s w (by omega))
    have HD := Lib.hid (fun w => rclean_any s (by omega) w)
    have HT := Lib.hid (fun w => K.ticks s at' w (by omega) hat.1 hat.2)
    have HU := Lib.hid (fun w => rticks_any s at' (by omega) hat.2 w)
    have HSm := Lib.hid (fun (v1 v2 : Value) (w' : World) (h1 : Tr w' v1 (parseB s)) (h2 : Tr w' v2 (parseB s)) => rsame_any (totAll (parseB s)) (parseB s) (parseB s) v1 v2 w' (Nat.le_refl _) h1 h2)
    rw [smAll_self] at HSm
    clear hat hrb hr
    generalize parseB s = L at *
    generalize clnB s = cb at *
    generalize ticksAt s.data.toList at' = tk at *
    go_enter Tryz.func3, Tryz.ntmps3
    go_wp2_with fail
    refine (HA.out _).mono ?_
    rintro e w2 ⟨rfl, b2⟩
    have H2 := Lib.hid b2
    clear b2
    go_wp2_with fail
    refine (HP.out _).mono ?_
    rintro e w3 ⟨v3, rfl, b3, t3⟩
    have H3 := Lib.hid (H2.out.trans (b3.mono H2.out.size))
    have T3 := Lib.hid t3
    clear b3 t3 HP
    go_wp2_with fail
    refine (HQ.out _).mono ?_
    rintro e w4 ⟨v4, rfl, b4, t4⟩
    have H4 := Lib.hid (H3.out.trans (b4.mono H3.out.size))
    have HS5 := Lib.hid (HSm.out v3 v4 w4 (T3.out.below b4) t4)
    clear b4 t4 HQ T3 HSm
    go_wp2_with fail
    refine HS5.out.mono ?_
    rintro e w5 ⟨rfl, n5, rfl⟩
    have H5 := Lib.hid (below_drewN H4.out n5)
    clear HS5
    generalize w4.drewN n5 = w5 at *
    go_wp2_with fail
    refine (HC.out _).mono ?_
    rintro e w6 ⟨rfl, b6⟩
    have H6 := Lib.hid (H5.out.trans (b6.mono H5.out.size))
    clear b6 HC
    go_wp2_with fail
    refine (HD.out _).mono ?_
    rintro e w7 ⟨rfl, rfl⟩
    clear HD
    have ecb : (cb == cb) = true := by simp
    go_wp2_with fail
    refine (HT.out _).mono ?_
    rintro e w8 ⟨rfl, b8⟩
    have H8 := Lib.hid (H6.out.trans (b8.mono H6.out.size))
    clear b8 HT
    go_wp2_with fail
    refine (HU.out _).mono ?_
    rintro e w9 ⟨rfl, rfl⟩
    clear HU
    have etk : ((tk : Int) == (tk : Int)) = true := by simp
    go_wp2_with fail
    go_ret
    exact ⟨rfl, H8.out⟩
  · have g0 : 300 < (s.size : Int) := by omega
    go_enter Tryz.func3, Tryz.ntmps3
    go_wp2_with fail
    refine (HA.out _).mono ?_
    rintro e w2 ⟨rfl, b2⟩
    have H2 := Lib.hid b2
    clear b2
    go_wp2_with fail
    refine (HA.out _).mono ?_
    rintro e w3 ⟨rfl, b3⟩
    have H3 := Lib.hid (H2.out.trans (b3.mono H2.out.size))
    clear b3
    go_wp2_with fail
    go_ret
    exact ⟨rfl, H3.out⟩

end Go.Proofs.YtjgmfgnfdaeelaaGreatDoor.Sp
