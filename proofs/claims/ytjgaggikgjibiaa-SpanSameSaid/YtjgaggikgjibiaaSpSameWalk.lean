/-
  THE WALK of the statement SpanSame.
-/
import Derived.Test.YtjgaggikgjibiaaSpTold
namespace Go.Proofs.Ytjgaggikgjibiaa.Sp
open Go.RowKit
open Go.Proofs.Ytjgaggikgjibiaa.Tk (S S_of S_list S_size S_toList S_app ret_int)
open Go.Proofs.Ytjgaggikgjibiaa.Cm (calls_at)
set_option linter.unusedVariables false

theorem smAll_comm (a b : List Sp) : smAll b a = smAll a b := by
  rw [Bool.eq_iff_iff, smAll_iff, smAll_iff]
  exact eq_comm
theorem smAll_self (a : List Sp) : smAll a a = true := (smAll_iff a a).2 rfl

set_option maxHeartbeats 3200000 in
set_option maxRecDepth 100000 in
theorem spanSame_walk (K : Told) (w : World) (va : Value) (a : List Sp) (ra : Tr w va a) (fa : fitAll reachBytes a) (vb : Value) (b : List Sp) (rb : Tr w vb b) (fb : fitAll reachBytes b) :
    Calls Try.prog 4 #[va, vb] w (OkAns w true) := by
  obtain ⟨aa, ca, rfl⟩ := ra.len
  obtain ⟨ab, cb, rfl⟩ := rb.len
  have HA := Lib.hid (awake7_any K)
  have RA := Lib.hid ra
  have RB := Lib.hid rb
  have FA := Lib.hid (fun w' (h : Below w.heap.size w w') => few7_any a _ w' (RA.out.below h) fa)
  have FB := Lib.hid (fun w' (h : Below w.heap.size w w') => few7_any b _ w' (RB.out.below h) fb)
  clear ra rb
  go_enter Try.func4, Try.ntmps4
  go_wp2_with fail
  refine (HA.out _).mono ?_
  rintro e w2 ⟨rfl, b2⟩
  have H2 := Lib.hid b2
  clear b2
  go_wp2_with fail
  refine (FA.out _ H2.out).mono ?_
  rintro e w3 ⟨rfl, rfl⟩
  clear FA
  cases ha : fewB a with
  | false =>
    go_wp2_with fail
    refine (HA.out _).mono ?_
    rintro e w4 ⟨rfl, b4⟩
    have H4 := Lib.hid (H2.out.trans (b4.mono H2.out.size))
    clear b4
    go_wp2_with fail
    go_ret
    exact ⟨rfl, H4.out⟩
  | true =>
    go_wp2_with fail
    refine (FB.out _ H2.out).mono ?_
    rintro e w3 ⟨rfl, rfl⟩
    clear FB
    cases hb : fewB b with
    | false =>
      go_wp2_with fail
      refine (HA.out _).mono ?_
      rintro e w4 ⟨rfl, b4⟩
      have H4 := Lib.hid (H2.out.trans (b4.mono H2.out.size))
      clear b4
      go_wp2_with fail
      go_ret
      exact ⟨rfl, H4.out⟩
    | true =>
      have ta := (few_of ha).1
      have tb := (few_of hb).1
      have S1 := Lib.hid (fun w' (h : Below w.heap.size w w') => K.same _ _ a b w' (RA.out.below h) (RB.out.below h) (by omega) (by omega))
      have S2 := Lib.hid (fun w' (h : Below w.heap.size w w') => K.same _ _ b a w' (RB.out.below h) (RA.out.below h) (by omega) (by omega))
      have S3 := Lib.hid (fun w' (h : Below w.heap.size w w') => K.same _ _ a a w' (RA.out.below h) (RA.out.below h) (by omega) (by omega))
      have SR := Lib.hid (fun w' (h : Below w.heap.size w w') => rsame_any (totAll a) a b _ _ w' (Nat.le_refl _) (RA.out.below h) (RB.out.below h))
      rw [smAll_comm] at S2
      rw [smAll_self] at S3
      clear ta tb ha hb HA RA RB
      generalize smAll a b = y at *
      have ey : (y == y) = true := by simp
      go_wp2_with fail
      refine (S1.out _ H2.out).mono ?_
      rintro e w3 ⟨rfl, b3⟩
      have H3 := Lib.hid (H2.out.trans (b3.mono H2.out.size))
      clear b3
      go_wp2_with fail
      refine (SR.out _ H3.out).mono ?_
      rintro e w4 ⟨rfl, n4, rfl⟩
      have H4 := Lib.hid (below_drewN H3.out n4)
      clear SR
      go_wp2_with fail
      refine (S2.out _ H4.out).mono ?_
      rintro e w5 ⟨rfl, b5⟩
      have H5 := Lib.hid (H4.out.trans (b5.mono H4.out.size))
      clear b5 S2
      go_wp2_with fail
      refine (S1.out _ H5.out).mono ?_
      rintro e w6 ⟨rfl, b6⟩
      have H6 := Lib.hid (H5.out.trans (b6.mono H5.out.size))
      clear b6 S1
      go_wp2_with fail
      refine (S3.out _ H6.out).mono ?_
      rintro e w7 ⟨rfl, b7⟩
      have H7 := Lib.hid (H6.out.trans (b7.mono H6.out.size))
      clear b7 S3
      go_wp2_with fail
      go_ret
      exact ⟨rfl, H7.out⟩

end Go.Proofs.Ytjgaggikgjibiaa.Sp
