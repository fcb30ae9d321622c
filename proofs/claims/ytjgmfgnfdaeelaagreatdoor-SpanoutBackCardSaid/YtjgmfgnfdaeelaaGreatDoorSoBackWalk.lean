/-
  THE WALK of the statement SpanoutBack.
-/
import Derived.Test.YtjgmfgnfdaeelaaGreatDoorSo9Told
import Derived.Test.YtjgmfgnfdaeelaaGreatDoorSoCleanW
namespace Go.Proofs.YtjgmfgnfdaeelaaGreatDoor.Sp
open Go.RowKit
open Go.Proofs.YtjgmfgnfdaeelaaGreatDoor.Tk (S S_of S_list S_size S_toList S_app ret_int eq8 ne8 at_data len_data)
open Go.Proofs.YtjgmfgnfdaeelaaGreatDoor.Cm (calls_at)
set_option linter.unusedVariables false

theorem fit_wide4 {l : List Sp} (h : fitAll reachBytes l) : fitAll 140737488355328 l := fitAll_wide (by decide) l h

set_option maxHeartbeats 3200000 in
set_option maxRecDepth 100000 in
theorem spanoutBack_walk (K : Told9) (w : World) (vl : Value) (l : List Sp) (rl : Tr w vl l) (fl : fitAll reachBytes l) :
    Calls Tryz.prog 9 #[vl] w (OkAns w true) := by
  obtain ⟨al, cl, rfl⟩ := rl.len
  have HA := Lib.hid (awake9_any K.toTold9w)
  have RL := Lib.hid rl
  have FL := Lib.hid (fun w' (h : Below w.heap.size w w') => few9_any l _ w' (RL.out.below h) fl)
  clear rl
  go_enter Tryz.func9, Tryz.ntmps9
  go_wp2_with fail
  refine (HA.out _).mono ?_
  rintro e w2 ⟨rfl, b2⟩
  have H2 := Lib.hid b2
  clear b2
  go_wp2_with fail
  refine (FL.out _ H2.out).mono ?_
  rintro e w3 ⟨rfl, rfl⟩
  clear FL
  cases hf : fewB9 l with
  | false =>
    go_wp2_with fail
    refine (HA.out _).mono ?_
    rintro e w4 ⟨rfl, b4⟩
    have H4 := Lib.hid (H2.out.trans (b4.mono H2.out.size))
    clear b4
    go_wp2_with fail
    go_ret
    exact ⟨rfl, H4.out⟩
  | true =>
    have tl := (few9_of hf).1
    have wl := Nat.le_trans (wrs_le l) (Nat.mul_le_mul_left 6 (Nat.le_of_lt tl))
    have S1 := Lib.hid (fun w' (h : Below w.heap.size w w') => K.write _ l w' (RL.out.below h) (by omega) (fit_wide4 fl))
    have S2 := Lib.hid (fun w' (h : Below w.heap.size w w') => rright_any l _ w' (fit_wide4 fl) (RL.out.below h))
    have S3 := Lib.hid (fun w' => K.parse (S (wrs l)) w' (by rw [S_size]; omega))
    have S4 := Lib.hid (fun w' => K.clean (S (wrs l)) w' (by rw [S_size]; omega))
    have S5 := Lib.hid (fun v w' (ht : Tr w' v l) (h : Below w.heap.size w w') => rsame_any (totAll l) l l v _ w' (Nat.le_refl _) ht (RL.out.below h))
    rw [show smAll l l = true from (smAll_iff l l).2 rfl] at S5
    unfold erB wrB at S1
    cases hr : rtB l with
    | false =>
      rw [hr, if_neg (by simp), if_neg (by simp)] at S1
      rw [hr] at S2
      clear S3 S4 S5 hr hf tl wl HA K fl RL
      go_wp2_with fail
      refine (S1.out _ H2.out).mono ?_
      rintro e w4 ⟨rfl, b4⟩
      have H4 := Lib.hid (H2.out.trans (b4.mono H2.out.size))
      have e0 : ((S ([] : List UInt8)).toList == ([] : List UInt8)) = true := by rw [S_toList]; rfl
      clear b4 S1
      go_wp2_with fail
      refine (S2.out _ H4.out).mono ?_
      rintro e w5 ⟨rfl, b5⟩
      have H5 := Lib.hid (H4.out.trans (b5.mono H4.out.size))
      clear b5 S2
      go_wp2_with fail
      go_ret
      exact ⟨rfl, H5.out⟩
    | true =>
      rw [hr, if_pos rfl, if_pos rfl] at S1
      rw [show rdB (S (wrs l)) = l by unfold rdB; rw [S_list]; exact read_wrs hr] at S3
      rw [written_clean hr (by omega)] at S4
      clear S2 hr hf tl wl HA K fl RL
      generalize S (wrs l) = x at *
      go_wp2_with fail
      refine (S1.out _ H2.out).mono ?_
      rintro e w4 ⟨rfl, b4⟩
      have H4 := Lib.hid (H2.out.trans (b4.mono H2.out.size))
      clear b4 S1
      go_wp2_with fail
      refine (S3.out _).mono ?_
      rintro e w5 ⟨v5, rfl, b5, t5⟩
      have H5 := Lib.hid (H4.out.trans (b5.mono H4.out.size))
      have HS := Lib.hid (S5.out v5 w5 t5 H5.out)
      clear b5 t5 S3 S5
      go_wp2_with fail
      refine HS.out.mono ?_
      rintro e w6 ⟨rfl, n, rfl⟩
      have H6 := Lib.hid (below_drewN H5.out n)
      clear HS
      go_wp2_with fail
      refine (S4.out _).mono ?_
      rintro e w7 ⟨rfl, b7⟩
      have H7 := Lib.hid (H6.out.trans (b7.mono H6.out.size))
      clear b7 S4
      go_wp2_with fail
      go_ret
      exact ⟨rfl, H7.out⟩

end Go.Proofs.YtjgmfgnfdaeelaaGreatDoor.Sp
