/-
  THE WALK of LcsTells, on what is asked of the program's Length, Pairs, Dice.
-/
import Derived.Test.YtgmonfeookljmaaLcTold
namespace Go.Proofs.Ytgmonfeookljmaa.Lc
open Go.RowKit Go.Proofs.Ytgmonfeookljmaa.Cm
set_option linter.unusedVariables false

set_option maxHeartbeats 6400000 in
set_option maxRecDepth 100000 in
theorem lcsTells_walk (K : Told) (w : World) (a0 : Value) (x0 : List Int) (w0 : Rz w a0 x0) (n0 : x0.length ≤ 9223372036854775807) (a1 : Value) (x1 : List Int) (w1 : Rz w a1 x1) (n1 : x1.length ≤ 9223372036854775807)  :
    Calls Try.prog 3 #[a0, a1] w fun e w' => e = .returned (.bool true) ∧ Below w.heap.size w w' := by
  have W0 := Lib.hid w0
  have W1 := Lib.hid w1
  clear w0 w1
  obtain ⟨ao0, c0, rfl⟩ := W0.out.len
  obtain ⟨ao1, c1, rfl⟩ := W1.out.len
  by_cases l0 : x0.length ≤ 60
  case neg =>
    have g0 : 60 < x0.length := by omega
    go_enter Try.func3, Try.ntmps3
    go_wp2_with fail
    refine (awake_any K.toToldL _).mono ?_
    rintro e w1 ⟨rfl, hb⟩
    go_wp2_with fail
    refine (awake_any K.toToldL _).mono ?_
    rintro e w2 ⟨rfl, hb2⟩
    go_wp2_with fail
    go_ret
    exact ⟨rfl, hb.trans (hb2.mono hb.size)⟩
  by_cases l1 : x1.length ≤ 60
  case neg =>
    have g1 : 60 < x1.length := by omega
    go_enter Try.func3, Try.ntmps3
    go_wp2_with fail
    refine (awake_any K.toToldL _).mono ?_
    rintro e w1 ⟨rfl, hb⟩
    go_wp2_with fail
    refine (awake_any K.toToldL _).mono ?_
    rintro e w2 ⟨rfl, hb2⟩
    go_wp2_with fail
    go_ret
    exact ⟨rfl, hb.trans (hb2.mono hb.size)⟩
  go_enter Try.func3, Try.ntmps3
  go_wp2_with fail
  refine (awake_any K.toToldL _).mono ?_
  rintro e w1 ⟨rfl, hb⟩
  have B1 := Lib.hid hb
  clear hb
  have e1 : ∀ n : Nat, ((n : Int) == (n : Int)) = true := fun n => by simp
  have hpl : (pairs x0 x1).length ≤ 60 := by rw [pairs_len]; exact Nat.le_trans (lcs_le_left _ _) l0
  have E1 := e1 (lcs x0 x1)
  have E2 := e1 (dice x0 x1)
  have HL := Lib.hid (fun w' h => K.length _ _ x0 x1 w' (W0.out.below h) (W1.out.below h) (by omega) (by omega))
  have HR := Lib.hid (fun w' h => rlength_any _ _ x0 x1 w' (W0.out.below h) (W1.out.below h) (by omega) (by omega))
  have HP := Lib.hid (fun w' h => K.pairs _ _ x0 x1 w' (W0.out.below h) (W1.out.below h) (by omega) (by omega))
  have HQ := Lib.hid (fun w' h => rpairs_any _ _ x0 x1 w' (W0.out.below h) (W1.out.below h) (by omega) (by omega))
  have HD := Lib.hid (fun w' h => K.dice _ _ x0 x1 w' (W0.out.below h) (W1.out.below h) (by omega) (by omega))
  have HE := Lib.hid (fun w' h => rdice_any _ _ x0 x1 w' (W0.out.below h) (W1.out.below h) (by omega) (by omega))
  clear e1
  generalize lcs x0 x1 = lc at *
  generalize dice x0 x1 = di at *
  generalize pairs x0 x1 = ps at *
  go_wp2_with fail
  refine (HL.out _ B1.out).mono ?_
  rintro e w2 ⟨rfl, hb⟩
  have B2 := Lib.hid (B1.out.trans (hb.mono B1.out.size))
  clear hb
  go_wp2_with fail
  refine (HR.out _ B2.out).mono ?_
  rintro e w3 ⟨rfl, hb⟩
  have B3 := Lib.hid (B2.out.trans (hb.mono B2.out.size))
  clear hb
  go_wp2_with fail
  refine (HP.out _ B3.out).mono ?_
  rintro e w4 ⟨v4, rfl, r4, hb⟩
  have B4 := Lib.hid (B3.out.trans (hb.mono B3.out.size))
  have HM := Lib.hid (list_any v4 ps w4 r4 (by omega))
  clear hb r4
  go_wp2_with fail
  refine HM.out.mono ?_
  rintro e w5 ⟨v5, rfl, r5, hb⟩
  have B5 := Lib.hid (B4.out.trans (hb.mono B4.out.size))
  have R5 := Lib.hid r5
  clear hb r5
  go_wp2_with fail
  refine (HQ.out _ B5.out).mono ?_
  rintro e w6 ⟨v6, rfl, o6, hb⟩
  have B6 := Lib.hid (B5.out.trans (hb.mono B5.out.size))
  have HS := rsameP_any v5 v6 ps ps w6 (R5.out.below hb) (Rk.of_own encP_len o6) (by omega) (by omega)
  rw [decide_eq_true rfl] at HS
  have HS2 := Lib.hid HS
  clear hb o6 HS
  go_wp2_with fail
  refine HS2.out.mono ?_
  rintro e w7 ⟨rfl, n7, rfl⟩
  go_wp2_with fail
  refine (HD.out _ (below_drewN B6.out _)).mono ?_
  rintro e w8 ⟨rfl, hb⟩
  have B8 := Lib.hid (B6.out.trans ((of_drewN hb).mono B6.out.size))
  clear hb
  go_wp2_with fail
  refine (HE.out _ B8.out).mono ?_
  rintro e w9 ⟨rfl, hb⟩
  have B9 := Lib.hid (B8.out.trans (hb.mono B8.out.size))
  clear hb
  go_wp2_with fail
  go_ret
  exact ⟨rfl, B9.out⟩

end Go.Proofs.Ytgmonfeookljmaa.Lc
