/-
  THE WALK of WeaveOne, on what is asked of the program's Chunks, Clean, Merge.
-/
import Derived.Test.YtbfclmhcoelplaaWvAwake
import Derived.Test.YtbfclmhcoelplaaWvMerge
import Derived.Test.YtbfclmhcoelplaaWvFar
import Derived.Test.YtbfclmhcoelplaaWvEnds
namespace Go.Proofs.Ytbfclmhcoelplaa.Wv
open Go.RowKit Go.Proofs.Ytbfclmhcoelplaa.Cm Go.Proofs.Ytbfclmhcoelplaa.Lc
set_option linter.unusedVariables false

set_option maxHeartbeats 6400000 in
set_option maxRecDepth 100000 in
theorem weaveOne_walk (K : Told) (w : World) (a0 : Value) (x0 : List Int) (w0 : Rz w a0 x0) (n0 : x0.length ≤ 9223372036854775807) (a1 : Value) (x1 : List Int) (w1 : Rz w a1 x1) (n1 : x1.length ≤ 9223372036854775807)  :
    Calls Try.prog 5 #[a0, a1] w fun e w' => e = .returned (.bool true) ∧ Below w.heap.size w w' := by
  have W0 := Lib.hid w0
  have W1 := Lib.hid w1
  clear w0 w1
  obtain ⟨ao0, c0, rfl⟩ := W0.out.len
  obtain ⟨ao1, c1, rfl⟩ := W1.out.len
  have HF := Lib.hid (fun w' (h : Below w.heap.size w w') => few5_any (.slice ao0 x0.length c0) (.slice ao1 x1.length c1) (.slice none 0 0) x0 x1 [] w' (W0.out.below h) (W1.out.below h) (rz_nil w'))
  cases hf : (decide ((x0 : List Int).length ≤ 40) && decide ((x1 : List Int).length ≤ 40) && decide (([] : List Int).length ≤ 40)) with
  | false =>
    rw [hf] at HF
    clear hf
    go_enter Try.func5, Try.ntmps5
    go_wp2_with fail
    refine (awake5_any K _).mono ?_
    rintro e w1 ⟨rfl, hb⟩
    have B1 := Lib.hid hb
    clear hb
    go_wp2_with fail
    refine (HF.out _ B1.out).mono ?_
    rintro e w2 ⟨rfl, rfl⟩
    go_wp2_with fail
    refine (awake5_any K _).mono ?_
    rintro e w2 ⟨rfl, hb2⟩
    have B2 := Lib.hid (B1.out.trans (hb2.mono B1.out.size))
    clear hb2
    go_wp2_with fail
    go_ret
    exact ⟨rfl, B2.out⟩
  | true =>
    rw [hf] at HF
    simp only [Bool.and_eq_true, decide_eq_true_eq] at hf
    obtain ⟨⟨l0, l1⟩, l2⟩ := hf
    go_enter Try.func5, Try.ntmps5
    go_wp2_with fail
    refine (awake5_any K _).mono ?_
    rintro e w1 ⟨rfl, hb⟩
    have B1 := Lib.hid hb
    clear hb
    go_wp2_with fail
    refine (HF.out _ B1.out).mono ?_
    rintro e w2 ⟨rfl, rfl⟩
    clear HF
    have H1 := Lib.hid (fun w' h => K.merge _ _ _ x0 x1 x0 w' (W0.out.below h) (W1.out.below h) (W0.out.below h) (by omega) (by omega) (by omega))
    have H2 := Lib.hid (fun w' h => K.merge _ _ _ x0 x0 x1 w' (W0.out.below h) (W0.out.below h) (W1.out.below h) (by omega) (by omega) (by omega))
    have H3 := Lib.hid (fun w' h => K.merge _ _ _ x0 x1 x1 w' (W0.out.below h) (W1.out.below h) (W1.out.below h) (by omega) (by omega) (by omega))
    unfold MergeOk at H1 H2 H3
    rw [merge_base] at H1
    rw [merge_base2] at H2
    rw [merge_alike] at H3
    have hs : decide (x1 = x1) = true := decide_eq_true rfl
    have HS := Lib.hid (fun v w' h1 h2 => rsame3_any v (.slice ao1 x1.length c1) x1 x1 w' h1 (W1.out.below h2) (by omega) (by omega))
    rw [hs] at HS
    clear hs
    go_wp2_with fail
    refine (H1.out _ B1.out).mono ?_
    rintro e w2 ⟨v2, rfl, r2, hb⟩
    have B2 := Lib.hid (B1.out.trans (hb.mono B1.out.size))
    have R2 := Lib.hid r2
    clear hb r2
    go_wp2_with fail
    refine (H2.out _ B2.out).mono ?_
    rintro e w3 ⟨v3, rfl, r3, hb⟩
    have B3 := Lib.hid (B2.out.trans (hb.mono B2.out.size))
    have R2 := Lib.hid (R2.out.below hb)
    have R3 := Lib.hid r3
    clear hb r3
    go_wp2_with fail
    refine (H3.out _ B3.out).mono ?_
    rintro e w4 ⟨v4, rfl, r4, hb⟩
    have B4 := Lib.hid (B3.out.trans (hb.mono B3.out.size))
    have R2 := Lib.hid (R2.out.below hb)
    have R3 := Lib.hid (R3.out.below hb)
    have R4 := Lib.hid r4
    clear hb r4
    go_wp2_with fail
    refine (HS.out v2 w4 R2.out B4.out).mono ?_
    rintro e w5 ⟨rfl, n5, hw5⟩
    have B5 : Hid (Below w.heap.size w w5) := Lib.hid (by rw [hw5]; exact below_drewN B4.out n5)
    have R3 : Hid (Rz w5 v3 x1) := Lib.hid (by rw [hw5]; exact R3.out.below (below_drewN (Below.refl _ _) _))
    have R4 : Hid (Rz w5 v4 x1) := Lib.hid (by rw [hw5]; exact R4.out.below (below_drewN (Below.refl _ _) _))
    clear hw5
    go_wp2_with fail
    refine (HS.out v3 w5 R3.out B5.out).mono ?_
    rintro e w6 ⟨rfl, n6, hw6⟩
    have B6 : Hid (Below w.heap.size w w6) := Lib.hid (by rw [hw6]; exact below_drewN B5.out n6)
    have R4 : Hid (Rz w6 v4 x1) := Lib.hid (by rw [hw6]; exact R4.out.below (below_drewN (Below.refl _ _) _))
    clear hw6
    go_wp2_with fail
    refine (HS.out v4 w6 R4.out B6.out).mono ?_
    rintro e w7 ⟨rfl, n7, hw7⟩
    have B7 : Hid (Below w.heap.size w w7) := Lib.hid (by rw [hw7]; exact below_drewN B6.out n7)
    clear hw7
    go_wp2_with fail
    go_ret
    exact ⟨rfl, B7.out⟩

end Go.Proofs.Ytbfclmhcoelplaa.Wv
