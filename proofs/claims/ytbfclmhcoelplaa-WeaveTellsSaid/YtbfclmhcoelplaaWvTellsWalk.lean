/-
  THE WALK of WeaveTells, on what is asked of the program's Chunks, Clean, Merge.
-/
import Derived.Test.YtbfclmhcoelplaaWvAwake
import Derived.Test.YtbfclmhcoelplaaWvMerge
import Derived.Test.YtbfclmhcoelplaaWvFar
import Derived.Test.YtbfclmhcoelplaaWvEnds
namespace Go.Proofs.Ytbfclmhcoelplaa.Wv
open Go.RowKit Go.Proofs.Ytbfclmhcoelplaa.Cm Go.Proofs.Ytbfclmhcoelplaa.Lc
set_option linter.unusedVariables false

set_option maxHeartbeats 6400000 in
set_option maxRecDepth 100000 in
theorem weaveTells_walk (K : Told) (w : World) (a0 : Value) (x0 : List Int) (w0 : Rz w a0 x0) (n0 : x0.length ≤ 9223372036854775807) (a1 : Value) (x1 : List Int) (w1 : Rz w a1 x1) (n1 : x1.length ≤ 9223372036854775807) (a2 : Value) (x2 : List Int) (w2 : Rz w a2 x2) (n2 : x2.length ≤ 9223372036854775807)  :
    Calls Try.prog 3 #[a0, a1, a2] w fun e w' => e = .returned (.bool true) ∧ Below w.heap.size w w' := by
  have W0 := Lib.hid w0
  have W1 := Lib.hid w1
  have W2 := Lib.hid w2
  clear w0 w1 w2
  obtain ⟨ao0, c0, rfl⟩ := W0.out.len
  obtain ⟨ao1, c1, rfl⟩ := W1.out.len
  obtain ⟨ao2, c2, rfl⟩ := W2.out.len
  have HF := Lib.hid (fun w' (h : Below w.heap.size w w') => few5_any (.slice ao0 x0.length c0) (.slice ao1 x1.length c1) (.slice ao2 x2.length c2) x0 x1 x2 w' (W0.out.below h) (W1.out.below h) (W2.out.below h))
  cases hf : (decide ((x0 : List Int).length ≤ 40) && decide ((x1 : List Int).length ≤ 40) && decide ((x2 : List Int).length ≤ 40)) with
  | false =>
    rw [hf] at HF
    clear hf
    go_enter Try.func3, Try.ntmps3
    go_wp2_with fail
    refine (awake5_any K _).mono ?_
    rintro e w1 ⟨rfl, hb⟩
    have B1 := Lib.hid hb
    clear hb
    go_wp2_with fail
    refine (HF.out _ B1.out).mono ?_
    rintro e w2 ⟨rfl, rfl⟩
    go_wp2_with fail
    refine (awake5_any K _).mono ?_
    rintro e w2 ⟨rfl, hb2⟩
    have B2 := Lib.hid (B1.out.trans (hb2.mono B1.out.size))
    clear hb2
    go_wp2_with fail
    go_ret
    exact ⟨rfl, B2.out⟩
  | true =>
    rw [hf] at HF
    simp only [Bool.and_eq_true, decide_eq_true_eq] at hf
    obtain ⟨⟨l0, l1⟩, l2⟩ := hf
    go_enter Try.func3, Try.ntmps3
    go_wp2_with fail
    refine (awake5_any K _).mono ?_
    rintro e w1 ⟨rfl, hb⟩
    have B1 := Lib.hid hb
    clear hb
    go_wp2_with fail
    refine (HF.out _ B1.out).mono ?_
    rintro e w2 ⟨rfl, rfl⟩
    clear HF
    have hcl := chunks_len x0 x1 x2
    have hml := merge_len x0 x1 x2
    have HC := Lib.hid (fun w' h => K.chunks _ _ _ x0 x1 x2 w' (W0.out.below h) (W1.out.below h) (W2.out.below h) (by omega) (by omega) (by omega))
    have HR := Lib.hid (fun w' h => rchunks_any _ _ _ x0 x1 x2 w' (W0.out.below h) (W1.out.below h) (W2.out.below h) (by omega) (by omega) (by omega))
    have HM := Lib.hid (fun w' h => K.merge _ _ _ x0 x1 x2 w' (W0.out.below h) (W1.out.below h) (W2.out.below h) (by omega) (by omega) (by omega))
    have HQ := Lib.hid (fun w' h => rmerge_any _ _ _ x0 x1 x2 w' (W0.out.below h) (W1.out.below h) (W2.out.below h) (by omega) (by omega) (by omega))
    unfold MergeOk at HM HQ
    generalize chunks x0 x1 x2 = cs at *
    generalize (merge x0 x1 x2).1 = ms at *
    generalize (merge x0 x1 x2).2 = ok at *
    go_wp2_with fail
    refine (HC.out _ B1.out).mono ?_
    rintro e w2 ⟨v2, rfl, r2, hb⟩
    have B2 := Lib.hid (B1.out.trans (hb.mono B1.out.size))
    have R2 := Lib.hid r2
    clear hb r2
    go_wp2_with fail
    refine (HR.out _ B2.out).mono ?_
    rintro e w3 ⟨v3, rfl, r3, hb⟩
    have B3 := Lib.hid (B2.out.trans (hb.mono B2.out.size))
    have R2 := Lib.hid (R2.out.below hb)
    have R3 := Lib.hid r3
    clear hb r3
    go_wp2_with fail
    refine (HM.out _ B3.out).mono ?_
    rintro e w4 ⟨v4, rfl, r4, hb⟩
    have B4 := Lib.hid (B3.out.trans (hb.mono B3.out.size))
    have R2 := Lib.hid (R2.out.below hb)
    have R3 := Lib.hid (R3.out.below hb)
    have R4 := Lib.hid r4
    clear hb r4
    go_wp2_with fail
    refine (HQ.out _ B4.out).mono ?_
    rintro e w5 ⟨v5, rfl, r5, hb⟩
    have B5 := Lib.hid (B4.out.trans (hb.mono B4.out.size))
    have R2 := Lib.hid (R2.out.below hb)
    have R3 := Lib.hid (R3.out.below hb)
    have R4 := Lib.hid (R4.out.below hb)
    have R5 := Lib.hid r5
    clear hb r5
    have HL := Lib.hid (list5_any v2 cs w5 R2.out (by omega))
    go_wp2_with fail
    refine HL.out.mono ?_
    rintro e w6 ⟨v6, rfl, r6, hb⟩
    have B6 := Lib.hid (B5.out.trans (hb.mono B5.out.size))
    have R2 := Lib.hid (R2.out.below hb)
    have R3 := Lib.hid (R3.out.below hb)
    have R4 := Lib.hid (R4.out.below hb)
    have R5 := Lib.hid (R5.out.below hb)
    have hs := rsameC_any v6 v3 cs cs w6 r6 R3.out (by omega) (by omega)
    rw [decide_eq_true rfl] at hs
    have HS := Lib.hid hs
    clear hb r6 hs
    go_wp2_with fail
    refine HS.out.mono ?_
    rintro e w7 ⟨rfl, n7, rfl⟩
    have B7 := Lib.hid (below_drewN B6.out n7)
    have D7 : Below w6.heap.size w6 (w6.drewN n7) := below_drewN (Below.refl _ _) _
    have HCl := Lib.hid (K.clean v2 cs (w6.drewN n7) (R2.out.below D7) (by omega))
    have R3 := Lib.hid (R3.out.below D7)
    have R4 := Lib.hid (R4.out.below D7)
    have R5 := Lib.hid (R5.out.below D7)
    clear D7 HS
    generalize w6.drewN n7 = w7 at *
    go_wp2_with fail
    refine HCl.out.mono ?_
    rintro e w8 ⟨rfl, hb⟩
    have B8 := Lib.hid (B7.out.trans (hb.mono B7.out.size))
    have HRC := Lib.hid (rclean_any v3 cs w8 (R3.out.below hb) (by omega))
    have hs := rsame3_any v4 v5 ms ms w8 (R4.out.below hb) (R5.out.below hb) (by omega) (by omega)
    rw [decide_eq_true rfl] at hs
    have HS := Lib.hid hs
    clear hb hs
    go_wp2_with fail
    refine HRC.out.mono ?_
    rintro e w9 ⟨rfl, rfl⟩
    have ee : (cleanB cs == cleanB cs) = true := by simp
    have ek : (ok == ok) = true := by simp
    generalize cleanB cs = cb at *
    go_wp2_with fail
    refine HS.out.mono ?_
    rintro e w9 ⟨rfl, n9, rfl⟩
    have B9 := Lib.hid (below_drewN B8.out n9)
    go_wp2_with fail
    go_ret
    exact ⟨rfl, B9.out⟩

end Go.Proofs.Ytbfclmhcoelplaa.Wv
