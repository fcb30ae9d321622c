/-
  THE WALK of the statement TreeSame.
-/
import Derived.Test.YthmgbmgbifbheaaDoorBt10Told
namespace Go.Proofs.YthmgbmgbifbheaaDoor.Bt
open Go.RowKit
open Go.Proofs.YthmgbmgbifbheaaDoor.Tk (S S_of S_list S_size S_toList ret_int Rd)
open Go.Proofs.YthmgbmgbifbheaaDoor.Cm (calls_at)
open Go.Proofs.YthmgbmgbifbheaaDoor.Sp (Sp Tr ret_bool OkAns)
open Go.Proofs.YthmgbmgbifbheaaDoor.Bk (Bk)
set_option linter.unusedVariables false

theorem smB_self (a : List Bk) : smB a a = true := (smB_iff a a).2 rfl
theorem smB_turn (a b : List Bk) : smB b a = smB a b := by
  rw [Bool.eq_iff_iff, smB_iff, smB_iff]
  exact ⟨fun h => h.symm, fun h => h.symm⟩

set_option maxHeartbeats 3200000 in
set_option maxRecDepth 100000 in
theorem treeSame_walk (K : Told10) (w : World) (va : Value) (a : List Bk) (ra : TrB w va a) (fa : fitAll reachBytes a) (vb : Value) (b : List Bk) (rb : TrB w vb b) (fb : fitAll reachBytes b) :
    Calls Tryd.prog 4 #[va, vb] w (OkAns w true) := by
  obtain ⟨aa, ca, rfl⟩ := ra.len
  obtain ⟨ab, cb, rfl⟩ := rb.len
  have HA := Lib.hid (awake10_any K)
  have FA := Lib.hid (fun w' (h : Below w.heap.size w w') => few10_any a _ w' (ra.below h) fa)
  have FB := Lib.hid (fun w' (h : Below w.heap.size w w') => few10_any b _ w' (rb.below h) fb)
  have S1 := Lib.hid (fun w' (h : Below w.heap.size w w') => K.same _ _ a b w' (ra.below h) (rb.below h) (fit47 fa) (fit47 fb))
  have S2 := Lib.hid (fun w' (h : Below w.heap.size w w') => rsameB_any (szAll a) a b _ _ w' (Nat.le_refl _) (ra.below h) (rb.below h))
  have S3 := Lib.hid (fun w' (h : Below w.heap.size w w') => K.same _ _ b a w' (rb.below h) (ra.below h) (fit47 fb) (fit47 fa))
  have S4 := Lib.hid (fun w' (h : Below w.heap.size w w') => K.same _ _ a a w' (ra.below h) (ra.below h) (fit47 fa) (fit47 fa))
  rw [smB_turn a b] at S3
  rw [smB_self] at S4
  clear ra rb fa fb K
  generalize smB a b = sm at *
  go_enter Tryd.func4, Tryd.ntmps4
  go_wp2_with fail
  refine (HA.out _).mono ?_
  rintro e w2 ⟨rfl, b2⟩
  have H2 := Lib.hid b2
  clear b2
  go_wp2_with fail
  refine (FA.out _ H2.out).mono ?_
  rintro e w3 ⟨rfl, n3, rfl⟩
  have H3 := Lib.hid (below_drewN H2.out n3)
  clear FA
  generalize w2.drewN n3 = w3 at *
  cases hf : fewB a with
  | false =>
    go_wp2_with fail
    refine (HA.out _).mono ?_
    rintro e w4 ⟨rfl, b4⟩
    have H4 := Lib.hid (H3.out.trans (b4.mono H3.out.size))
    clear b4
    go_wp2_with fail
    go_ret
    exact ⟨rfl, H4.out⟩
  | true =>
    go_wp2_with fail
    refine (FB.out _ H3.out).mono ?_
    rintro e w4 ⟨rfl, n4, rfl⟩
    have H4 := Lib.hid (below_drewN H3.out n4)
    clear FB
    generalize w3.drewN n4 = w4 at *
    cases hg : fewB b with
    | false =>
      go_wp2_with fail
      refine (HA.out _).mono ?_
      rintro e w5 ⟨rfl, b5⟩
      have H5 := Lib.hid (H4.out.trans (b5.mono H4.out.size))
      clear b5
      go_wp2_with fail
      go_ret
      exact ⟨rfl, H5.out⟩
    | true =>
      go_wp2_with fail
      refine (S1.out _ H4.out).mono ?_
      rintro e w5 ⟨rfl, b5⟩
      have H5 := Lib.hid (H4.out.trans (b5.mono H4.out.size))
      clear b5
      go_wp2_with fail
      refine (S2.out _ H5.out).mono ?_
      rintro e w6 ⟨rfl, b6⟩
      have H6 := Lib.hid (H5.out.trans (b6.mono H5.out.size))
      clear b6 S2
      go_wp2_with fail
      refine (S3.out _ H6.out).mono ?_
      rintro e w7 ⟨rfl, b7⟩
      have H7 := Lib.hid (H6.out.trans (b7.mono H6.out.size))
      clear b7 S3
      go_wp2_with fail
      refine (S1.out _ H7.out).mono ?_
      rintro e w8 ⟨rfl, b8⟩
      have H8 := Lib.hid (H7.out.trans (b8.mono H7.out.size))
      clear b8 S1
      go_wp2_with fail
      refine (S4.out _ H8.out).mono ?_
      rintro e w9 ⟨rfl, b9⟩
      have H9 := Lib.hid (H8.out.trans (b9.mono H8.out.size))
      clear b9 S4
      go_wp2_with fail
      go_ret
      exact ⟨rfl, H9.out⟩

end Go.Proofs.YthmgbmgbifbheaaDoor.Bt
