/-
  THE WALK of the statement SpanoutAgain.
-/
import Derived.Test.YtjgmfgnfdaeelaaGreatDoorSo9Told
import Derived.Test.YtjgmfgnfdaeelaaGreatDoorSoNormal
import Derived.Test.YtjgmfgnfdaeelaaGreatDoorSoFits
namespace Go.Proofs.YtjgmfgnfdaeelaaGreatDoor.Sp
open Go.RowKit
open Go.Proofs.YtjgmfgnfdaeelaaGreatDoor.Tk (S S_of S_list S_size S_toList S_app ret_int eq8 ne8 at_data len_data)
open Go.Proofs.YtjgmfgnfdaeelaaGreatDoor.Cm (calls_at)
set_option linter.unusedVariables false

set_option maxHeartbeats 3200000 in
set_option maxRecDepth 100000 in
theorem spanoutAgain_walk (K : Told9) (w : World) (s : ByteArray) (hs : s.size ≤ maxLen) (hr : s.size ≤ reachBytes) :
    Calls Tryz.prog 10 #[.string s] w (OkAns w true) := by
  have HA := Lib.hid (awake9_any K.toTold9w)
  clear hs
  by_cases hl : s.size ≤ 200
  · have g0 : ¬ 200 < (s.size : Int) := by omega
    have HC := Lib.hid (fun w' => K.clean s w' (by omega))
    have HP := Lib.hid (fun w' => K.parse s w' (by omega))
    obtain ⟨hT, hF⟩ := parse_fit s (by omega)
    have HN := Lib.hid (fun h => parse_normal (s := s) (by omega) h)
    have hrd : rdB s = psB s := rfl
    rw [hrd] at HP
    have wl := wrs_le (psB s)
    have HW := Lib.hid (fun v w' (h : Tr w' v (psB s)) => K.write v (psB s) w' h (by omega) hF)
    have HP2 := Lib.hid (fun w' => K.parse (S (wrs (psB s))) w' (by rw [S_size]; omega))
    have HS := Lib.hid (fun va vb w' (ha : Tr w' va (psB s)) (hb : Tr w' vb (psB s)) => rsame_any (totAll (psB s)) (psB s) (psB s) va vb w' (Nat.le_refl _) ha hb)
    rw [show smAll (psB s) (psB s) = true from (smAll_iff _ _).2 rfl] at HS
    clear hr
    go_enter Tryz.func10, Tryz.ntmps10
    go_wp2_with fail
    refine (HA.out _).mono ?_
    rintro e w2 ⟨rfl, b2⟩
    have H2 := Lib.hid b2
    clear b2
    go_wp2_with fail
    refine (HC.out _).mono ?_
    rintro e w3 ⟨rfl, b3⟩
    have H3 := Lib.hid (H2.out.trans (b3.mono H2.out.size))
    clear b3 HC
    cases hc : clnB s with
    | false =>
      clear HN HP HW HP2 HS
      go_wp2_with fail
      refine (HA.out _).mono ?_
      rintro e w4 ⟨rfl, b4⟩
      have H4 := Lib.hid (H3.out.trans (b4.mono H3.out.size))
      clear b4
      go_wp2_with fail
      go_ret
      exact ⟨rfl, H4.out⟩
    | true =>
      have hn := HN.out hc
      unfold wrB erB at HW
      rw [hn, if_pos rfl, if_pos rfl] at HW
      rw [show rdB (S (wrs (psB s))) = psB s by unfold rdB; rw [S_list]; exact read_wrs hn] at HP2
      clear HN hc hn K HA hT hF wl hrd
      generalize S (wrs (psB s)) = x at *
      generalize psB s = l at *
      have q : (x.toList == x.toList) = true := by simp
      go_wp2_with fail
      refine (HP.out _).mono ?_
      rintro e w4 ⟨v4, rfl, b4, t4⟩
      have H4 := Lib.hid (H3.out.trans (b4.mono H3.out.size))
      have T4 := Lib.hid t4
      clear b4 t4 HP
      go_wp2_with fail
      refine (HW.out _ _ T4.out).mono ?_
      rintro e w5 ⟨rfl, b5⟩
      have H5 := Lib.hid (H4.out.trans (b5.mono H4.out.size))
      have T5 := Lib.hid (T4.out.below b5)
      clear b5 T4
      go_wp2_with fail
      refine (HP2.out _).mono ?_
      rintro e w6 ⟨v6, rfl, b6, t6⟩
      have H6 := Lib.hid (H5.out.trans (b6.mono H5.out.size))
      have T6 := Lib.hid (T5.out.below b6)
      have U6 := Lib.hid t6
      clear b6 t6 HP2 T5
      go_wp2_with fail
      refine (HW.out _ _ U6.out).mono ?_
      rintro e w7 ⟨rfl, b7⟩
      have H7 := Lib.hid (H6.out.trans (b7.mono H6.out.size))
      have T7 := Lib.hid (T6.out.below b7)
      have U7 := Lib.hid (U6.out.below b7)
      clear b7 HW T6 U6
      go_wp2_with fail
      refine (HS.out _ _ _ U7.out T7.out).mono ?_
      rintro e w8 ⟨rfl, n, rfl⟩
      have H8 := Lib.hid (below_drewN H7.out n)
      clear HS
      go_wp2_with fail
      go_ret
      exact ⟨rfl, H8.out⟩
  · have g0 : 200 < (s.size : Int) := by omega
    go_enter Tryz.func10, Tryz.ntmps10
    go_wp2_with fail
    refine (HA.out _).mono ?_
    rintro e w2 ⟨rfl, b2⟩
    have H2 := Lib.hid b2
    clear b2
    go_wp2_with fail
    refine (HA.out _).mono ?_
    rintro e w3 ⟨rfl, b3⟩
    have H3 := Lib.hid (H2.out.trans (b3.mono H2.out.size))
    clear b3
    go_wp2_with fail
    go_ret
    exact ⟨rfl, H3.out⟩

end Go.Proofs.YtjgmfgnfdaeelaaGreatDoor.Sp
