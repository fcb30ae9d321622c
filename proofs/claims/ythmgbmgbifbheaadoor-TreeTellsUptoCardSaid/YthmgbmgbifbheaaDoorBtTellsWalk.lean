/-
  THE WALK of the statement TreeTells (of what is not too much for a machine).
-/
import Derived.Test.YthmgbmgbifbheaaDoorBt10Told
namespace Go.Proofs.YthmgbmgbifbheaaDoor.Bt
open Go.RowKit
open Go.Proofs.YthmgbmgbifbheaaDoor.Tk (S S_of S_list S_size S_toList ret_int Rd)
open Go.Proofs.YthmgbmgbifbheaaDoor.Cm (calls_at)
open Go.Proofs.YthmgbmgbifbheaaDoor.Sp (Sp Tr ret_bool OkAns)
open Go.Proofs.YthmgbmgbifbheaaDoor.Bk (Bk)
set_option linter.unusedVariables false

set_option maxHeartbeats 3200000 in
set_option maxRecDepth 100000 in
theorem treeTells_walk (K : Told10) (w : World) (va : Value) (a : List Bk) (ra : TrB w va a) (fa : fitAll reachBytes a) (ta' : ttAll a ≤ 1048576) (s : ByteArray) (hs : s.size ≤ maxLen) (hr : s.size ≤ reachBytes) :
    Calls Tryd.prog 3 #[va, .string s] w (OkAns w true) := by
  obtain ⟨aa, ca, rfl⟩ := ra.len
  have hr' : s.size ≤ 140737488355328 := Nat.le_trans hr (by decide)
  have ta : ttAll a ≤ 9000000 := by omega
  have fs := fitAll_tt a fa ta'
  have HA := Lib.hid (awake10_any K)
  have FA := Lib.hid (fun w' (h : Below w.heap.size w w') => few10_any a _ w' (ra.below h) fa)
  have S1 := Lib.hid (fun w' (h : Below w.heap.size w w') => K.right _ a w' (ra.below h) fs ta)
  have S2 := Lib.hid (fun w' (h : Below w.heap.size w w') => rrightB_any a _ w' (fit47 fa) ta (ra.below h))
  have S3 := Lib.hid (fun w' (h : Below w.heap.size w w') => K.deep _ a w' (ra.below h) (fit47 fa) ta)
  have S4 := Lib.hid (fun w' (h : Below w.heap.size w w') => rdeep_any (szAll a) a _ w' (Nat.le_refl _) (ra.below h))
  have S5 := Lib.hid (fun w' (h : Below w.heap.size w w') => K.count _ a w' (ra.below h) (fit47 fa) ta)
  have S6 := Lib.hid (fun w' (h : Below w.heap.size w w') => rcount_any (szAll a) a _ w' (Nat.le_refl _) (ra.below h))
  have S7 := Lib.hid (fun w' => K.label s w' hr')
  have S8 := Lib.hid (fun w' => label_any s hr' w')
  clear ra fa ta ta' fs K hs hr
  generalize rgB a = r1 at *
  generalize dp a = d1 at *
  generalize cnt a = c1 at *
  generalize labB s.data.toList = l1 at *
  go_enter Tryd.func3, Tryd.ntmps3
  go_wp2_with fail
  refine (HA.out _).mono ?_
  rintro e w2 ⟨rfl, b2⟩
  have H2 := Lib.hid b2
  clear b2
  go_wp2_with fail
  refine (FA.out _ H2.out).mono ?_
  rintro e w3 ⟨rfl, n3, rfl⟩
  have H3 := Lib.hid (below_drewN H2.out n3)
  clear FA
  cases hf : fewB a with
  | false =>
    go_wp2_with fail
    refine (HA.out _).mono ?_
    rintro e w4 ⟨rfl, b4⟩
    have H4 := Lib.hid (H3.out.trans (b4.mono H3.out.size))
    clear b4
    go_wp2_with fail
    go_ret
    exact ⟨rfl, H4.out⟩
  | true =>
    by_cases hz : (s.size : Int) > 2000
    · have e1 : decide (2000 < (s.size : Int)) = true := decide_eq_true (by omega)
      have e2 : decide ((s.size : Int) > 2000) = true := decide_eq_true (by omega)
      go_wp2_with fail
      refine (HA.out _).mono ?_
      rintro e w4 ⟨rfl, b4⟩
      have H4 := Lib.hid (H3.out.trans (b4.mono H3.out.size))
      clear b4
      go_wp2_with fail
      go_ret
      exact ⟨rfl, H4.out⟩
    · have e1 : decide (2000 < (s.size : Int)) = false := decide_eq_false (by omega)
      have e2 : decide ((s.size : Int) > 2000) = false := decide_eq_false (by omega)
      go_wp2_with fail
      refine (S1.out _ H3.out).mono ?_
      rintro e w4 ⟨rfl, b4⟩
      have H4 := Lib.hid (H3.out.trans (b4.mono H3.out.size))
      clear b4 S1
      go_wp2_with fail
      refine (S2.out _ H4.out).mono ?_
      rintro e w5 ⟨rfl, b5⟩
      have H5 := Lib.hid (H4.out.trans (b5.mono H4.out.size))
      clear b5 S2
      go_wp2_with fail
      refine (S3.out _ H5.out).mono ?_
      rintro e w6 ⟨rfl, b6⟩
      have H6 := Lib.hid (H5.out.trans (b6.mono H5.out.size))
      clear b6 S3
      go_wp2_with fail
      refine (S4.out _ H6.out).mono ?_
      rintro e w7 ⟨rfl, rfl⟩
      clear S4
      go_wp2_with fail
      refine (S5.out _ H6.out).mono ?_
      rintro e w7 ⟨rfl, b7⟩
      have H7 := Lib.hid (H6.out.trans (b7.mono H6.out.size))
      clear b7 S5
      go_wp2_with fail
      refine (S6.out _ H7.out).mono ?_
      rintro e w8 ⟨rfl, rfl⟩
      clear S6
      go_wp2_with fail
      refine (S7.out _).mono ?_
      rintro e w8 ⟨rfl, b8⟩
      have H8 := Lib.hid (H7.out.trans (b8.mono H7.out.size))
      clear b8 S7
      go_wp2_with fail
      refine (S8.out _).mono ?_
      rintro e w9 ⟨rfl, rfl⟩
      clear S8
      go_wp2_with fail
      go_ret
      exact ⟨by simp, H8.out⟩

end Go.Proofs.YthmgbmgbifbheaaDoor.Bt
