import Derived.Test.YthpnbialpkkpgaaGreatDoorSoPackP
import Derived.Test.YthpnbialpkkpgaaGreatDoorPkR
import Derived.Test.YthpnbialpkkpgaaGreatDoorPkAR
namespace Go.Proofs.YthpnbialpkkpgaaGreatDoor.Sp
open Go.RowKit
open Go.Proofs.YthpnbialpkkpgaaGreatDoor.Tk (S S_of S_list S_size S_toList S_app ret_int eq8 ne8 at_data len_data)
set_option linter.unusedVariables false
set_option maxHeartbeats 1600000 in
theorem writeP_any (v : Value) (l : List Sp) (w : World) (ht : Tr w v l) (hn : totAll l ≤ 20000) (hf : fitAll 140737488355328 l) :
    Calls Tryz.prog 153 #[v] w (TwoAns w (wrB l) (erB l)) := by
  have HR := Lib.hid (rightP_any l v w ht hf)
  have hwl := wrs_le l
  unfold wrB erB
  cases hr : rtB l with
  | false =>
    rw [hr] at HR
    rw [if_neg (by simp), if_neg (by simp)]
    have hS : S [] = ⟨#[]⟩ := rfl
    rw [hS]
    clear hr hS ht hf hwl
    go_enter Tryz.func153, Tryz.ntmps153
    go_wp2_with fail
    refine HR.out.mono ?_
    rintro e w1 ⟨rfl, b1⟩
    have B1 := Lib.hid b1
    clear b1 HR
    go_wp2_with fail
    go_ret2
    exact ⟨rfl, B1.out⟩
  | true =>
    rw [hr] at HR
    rw [if_pos rfl, if_pos rfl]
    have HW := Lib.hid (fun (w1 : World) (hb : Below w.heap.size w w1) => writeAllP_any w1 w1.heap.size (totAll l) l v [] (w1.alloc (.cells #[.pointer none, .slice none 0 0] 100)) (Nat.le_refl _) (by omega) (ht.below hb) ((Below.refl _ _).alloc (Nat.le_refl _) _) (Bd.begin w1) (by simp; omega))
    simp only [List.nil_append] at HW
    clear hr ht hf hwl
    generalize wrs l = y at *
    go_enter Tryz.func153, Tryz.ntmps153
    go_wp2_with fail
    refine HR.out.mono ?_
    rintro e w1 ⟨rfl, b1⟩
    have HW1 := Lib.hid (HW.out w1 b1)
    have B1 := Lib.hid b1
    clear b1 HR HW
    go_wp2_with fail
    refine HW1.out.mono ?_
    rintro e w2 ⟨rfl, b2⟩
    have hb2 : Below w1.heap.size w1 w2 := ((Below.refl w1.heap.size w1).alloc (Nat.le_refl _) _).trans b2.bel
    have HS := Lib.hid (stringW_any _ _ _ w2 b2.bd hb2.size)
    have B2 := Lib.hid hb2
    clear b2 hb2 HW1
    go_wp2_with fail
    refine HS.out.mono ?_
    rintro e w3 ⟨rfl, b3⟩
    have B3 := Lib.hid (B1.out.trans ((B2.out.trans b3).mono B1.out.size))
    clear b3 HS
    go_wp2_with fail
    go_ret2
    exact ⟨rfl, B3.out⟩
end Go.Proofs.YthpnbialpkkpgaaGreatDoor.Sp
