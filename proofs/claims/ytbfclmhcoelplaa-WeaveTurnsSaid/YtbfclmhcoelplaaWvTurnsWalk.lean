/-
  THE WALK of WeaveTurns, on what is asked of the program's Chunks, Clean, Merge.
-/
import Derived.Test.YtbfclmhcoelplaaWvAwake
import Derived.Test.YtbfclmhcoelplaaWvMerge
import Derived.Test.YtbfclmhcoelplaaWvFar
import Derived.Test.YtbfclmhcoelplaaWvEnds
namespace Go.Proofs.Ytbfclmhcoelplaa.Wv
open Go.RowKit Go.Proofs.Ytbfclmhcoelplaa.Cm Go.Proofs.Ytbfclmhcoelplaa.Lc
set_option linter.unusedVariables false

set_option maxHeartbeats 6400000 in
set_option maxRecDepth 100000 in
theorem weaveTurns_walk (K : Told) (w : World) (a0 : Value) (x0 : List Int) (w0 : Rz w a0 x0) (n0 : x0.length ≤ 9223372036854775807) (a1 : Value) (x1 : List Int) (w1 : Rz w a1 x1) (n1 : x1.length ≤ 9223372036854775807) (a2 : Value) (x2 : List Int) (w2 : Rz w a2 x2) (n2 : x2.length ≤ 9223372036854775807)  :
    Calls Try.prog 6 #[a0, a1, a2] w fun e w' => e = .returned (.bool true) ∧ Below w.heap.size w w' := by
  have W0 := Lib.hid w0
  have W1 := Lib.hid w1
  have W2 := Lib.hid w2
  clear w0 w1 w2
  obtain ⟨ao0, c0, rfl⟩ := W0.out.len
  obtain ⟨ao1, c1, rfl⟩ := W1.out.len
  obtain ⟨ao2, c2, rfl⟩ := W2.out.len
  have HF := Lib.hid (fun w' (h : Below w.heap.size w w') => few5_any (.slice ao0 x0.length c0) (.slice ao1 x1.length c1) (.slice ao2 x2.length c2) x0 x1 x2 w' (W0.out.below h) (W1.out.below h) (W2.out.below h))
  cases hf : (decide ((x0 : List Int).length ≤ 40) && decide ((x1 : List Int).length ≤ 40) && decide ((x2 : List Int).length ≤ 40)) with
  | false =>
    rw [hf] at HF
    clear hf
    go_enter Try.func6, Try.ntmps6
    go_wp2_with fail
    refine (awake5_any K _).mono ?_
    rintro e w1 ⟨rfl, hb⟩
    have B1 := Lib.hid hb
    clear hb
    go_wp2_with fail
    refine (HF.out _ B1.out).mono ?_
    rintro e w2 ⟨rfl, rfl⟩
    go_wp2_with fail
    refine (awake5_any K _).mono ?_
    rintro e w2 ⟨rfl, hb2⟩
    have B2 := Lib.hid (B1.out.trans (hb2.mono B1.out.size))
    clear hb2
    go_wp2_with fail
    go_ret
    exact ⟨rfl, B2.out⟩
  | true =>
    rw [hf] at HF
    simp only [Bool.and_eq_true, decide_eq_true_eq] at hf
    obtain ⟨⟨l0, l1⟩, l2⟩ := hf
    go_enter Try.func6, Try.ntmps6
    go_wp2_with fail
    refine (awake5_any K _).mono ?_
    rintro e w1 ⟨rfl, hb⟩
    have B1 := Lib.hid hb
    clear hb
    go_wp2_with fail
    refine (HF.out _ B1.out).mono ?_
    rintro e w2 ⟨rfl, rfl⟩
    clear HF
    have hcl := chunks_len x0 x1 x2
    have hml := merge_len x0 x1 x2
    have HLS := Lib.hid (fun i hi => chunks_lies x0 x1 x2 _ (List.getElem_mem (n := i) hi))
    have HC := Lib.hid (fun w' h => K.chunks _ _ _ x0 x1 x2 w' (W0.out.below h) (W1.out.below h) (W2.out.below h) (by omega) (by omega) (by omega))
    have HR := Lib.hid (fun w' h => K.chunks _ _ _ x0 x2 x1 w' (W0.out.below h) (W2.out.below h) (W1.out.below h) (by omega) (by omega) (by omega))
    rw [chunks_swap] at HR
    have HM := Lib.hid (fun w' h => K.merge _ _ _ x0 x1 x2 w' (W0.out.below h) (W1.out.below h) (W2.out.below h) (by omega) (by omega) (by omega))
    have HQ := Lib.hid (fun w' h => K.merge _ _ _ x0 x2 x1 w' (W0.out.below h) (W2.out.below h) (W1.out.below h) (by omega) (by omega) (by omega))
    unfold MergeOk at HM HQ
    rw [merge_swap] at HQ
    generalize chunks x0 x1 x2 = cs at *
    generalize (merge x0 x1 x2).1 = ms at *
    generalize (merge x0 x1 x2).2 = ok at *
    go_wp2_with fail
    refine (HC.out _ B1.out).mono ?_
    rintro e w2 ⟨v2, rfl, r2, hb⟩
    have B2 := Lib.hid (B1.out.trans (hb.mono B1.out.size))
    have R2 := Lib.hid r2
    clear hb r2
    go_wp2_with fail
    refine (HR.out _ B2.out).mono ?_
    rintro e w3 ⟨v3, rfl, r3, hb⟩
    have B3 := Lib.hid (B2.out.trans (hb.mono B2.out.size))
    have R2 := Lib.hid (R2.out.below hb)
    have R3 := Lib.hid r3
    clear hb r3 HC HR
    have hlm : (cs.map swap).length = cs.length := List.length_map ..
    obtain ⟨aoL, cL, rfl⟩ := R2.out.len
    obtain ⟨aoM, cM, hv3⟩ := R3.out.len
    rw [hlm] at hv3
    subst hv3
    have FL := Lib.hid (Rk.seven R2.out)
    have FM : Hid (∀ i (hi : i < cs.length), ∃ b o, aoM = some ⟨b, o, none⟩ ∧ b < w3.heap.size ∧ Seven w3 b (o + i * 7) (swap cs[i])) := Lib.hid (fun i hi => by
      have h := Rk.seven R3.out i (by rw [hlm]; exact hi)
      simpa using h)
    clear R2 R3 hlm
    go_wp2_with fail
    go_loopw [40] (fun s wr => ∃ i : Nat, i ≤ cs.length ∧ s = .int .i64 i ∧ Hid (Below w3.heap.size w3 wr)) (fun s _ => cs.length - (intOf s).toNat)
    case atStart => exact ⟨0, Nat.zero_le _, rfl, Lib.hid (Below.refl _ _)⟩
    case round =>
      obtain ⟨i, hil, rfl, Hb⟩ := hrel
      by_cases hlt : i < cs.length
      · obtain ⟨bl, ol, rfl, hbl, k0, k1, k2, k3, k4, k5, k6⟩ := FL.out i hlt
        obtain ⟨bm, om, rfl, hbm, m0, m1, m2, m3, m4, m5, m6⟩ := FM.out i hlt
        have lo := (HLS.out i hlt).lo
        have hi := (HLS.out i hlt).hi
        generalize cs[i] = c at *
        obtain ⟨y0, y1, y2, y3, y4, y5, oc⟩ := c
        simp only [swap] at k0 k1 k2 k3 k4 k5 k6 m0 m1 m2 m3 m4 m5 m6 lo hi
        have p0 := (Hb.out.cell (by exact hbm)).trans m0
        have p1 := (Hb.out.cell (by exact hbm)).trans m1
        have p2 := (Hb.out.cell (by exact hbm)).trans m2
        have p3 := (Hb.out.cell (by exact hbm)).trans m3
        have p4 := (Hb.out.cell (by exact hbm)).trans m4
        have p5 := (Hb.out.cell (by exact hbm)).trans m5
        have p6 := (Hb.out.cell (by exact hbm)).trans m6
        have lM : bm < wr.heap.size := Nat.lt_of_lt_of_le hbm Hb.out.size
        have HL7 : Hid (∀ w', Below w3.heap.size w3 w' → Seven w' bl (ol + i * 7) ⟨y0, y1, y2, y3, y4, y5, oc⟩) := Lib.hid (fun w' h => Seven.below ⟨k0, k1, k2, k3, k4, k5, k6⟩ h hbl)
        clear k0 k1 k2 k3 k4 k5 k6 m0 m1 m2 m3 m4 m5 m6
        have hoc : oc = 1 ∨ oc = 2 ∨ oc = 3 ∨ oc = 4 ∨ oc = 5 := by omega
        rcases hoc with rfl | rfl | rfl | rfl | rfl
        · replace p6 : wr.cell? ⟨bm, om + i * 7 + 6, none⟩ = some (.int .i64 1) := p6
          go_upto_region 16 with fail
          have HA5 := alloc_new wr (.cells #[.int .i64 (y0 : Int), .int .i64 (y1 : Int), .int .i64 (y2 : Int), .int .i64 (y3 : Int), .int .i64 (y4 : Int), .int .i64 (y5 : Int), .int .i64 1] 39)
          have HB5 := Lib.hid (Hb.out.alloc Hb.out.size (.cells #[.int .i64 (y0 : Int), .int .i64 (y1 : Int), .int .i64 (y2 : Int), .int .i64 (y3 : Int), .int .i64 (y4 : Int), .int .i64 (y5 : Int), .int .i64 1] 39))
          have hlC := lt_of_at HA5
          have d0 : (wr.alloc (.cells #[.int .i64 (y0 : Int), .int .i64 (y1 : Int), .int .i64 (y2 : Int), .int .i64 (y3 : Int), .int .i64 (y4 : Int), .int .i64 (y5 : Int), .int .i64 1] 39)).cell? ⟨wr.heap.size, 0, none⟩ = some (.int .i64 (y0 : Int)) := cell_at HA5 0
          have d1 : (wr.alloc (.cells #[.int .i64 (y0 : Int), .int .i64 (y1 : Int), .int .i64 (y2 : Int), .int .i64 (y3 : Int), .int .i64 (y4 : Int), .int .i64 (y5 : Int), .int .i64 1] 39)).cell? ⟨wr.heap.size, 1, none⟩ = some (.int .i64 (y1 : Int)) := cell_at HA5 1
          have d2 : (wr.alloc (.cells #[.int .i64 (y0 : Int), .int .i64 (y1 : Int), .int .i64 (y2 : Int), .int .i64 (y3 : Int), .int .i64 (y4 : Int), .int .i64 (y5 : Int), .int .i64 1] 39)).cell? ⟨wr.heap.size, 2, none⟩ = some (.int .i64 (y2 : Int)) := cell_at HA5 2
          have d3 : (wr.alloc (.cells #[.int .i64 (y0 : Int), .int .i64 (y1 : Int), .int .i64 (y2 : Int), .int .i64 (y3 : Int), .int .i64 (y4 : Int), .int .i64 (y5 : Int), .int .i64 1] 39)).cell? ⟨wr.heap.size, 3, none⟩ = some (.int .i64 (y3 : Int)) := cell_at HA5 3
          have d4 : (wr.alloc (.cells #[.int .i64 (y0 : Int), .int .i64 (y1 : Int), .int .i64 (y2 : Int), .int .i64 (y3 : Int), .int .i64 (y4 : Int), .int .i64 (y5 : Int), .int .i64 1] 39)).cell? ⟨wr.heap.size, 4, none⟩ = some (.int .i64 (y4 : Int)) := cell_at HA5 4
          have d5 : (wr.alloc (.cells #[.int .i64 (y0 : Int), .int .i64 (y1 : Int), .int .i64 (y2 : Int), .int .i64 (y3 : Int), .int .i64 (y4 : Int), .int .i64 (y5 : Int), .int .i64 1] 39)).cell? ⟨wr.heap.size, 5, none⟩ = some (.int .i64 (y5 : Int)) := cell_at HA5 5
          have d6 : (wr.alloc (.cells #[.int .i64 (y0 : Int), .int .i64 (y1 : Int), .int .i64 (y2 : Int), .int .i64 (y3 : Int), .int .i64 (y4 : Int), .int .i64 (y5 : Int), .int .i64 1] 39)).cell? ⟨wr.heap.size, 6, none⟩ = some (.int .i64 1) := cell_at HA5 6
          obtain ⟨k0, k1, k2, k3, k4, k5, k6⟩ := HL7.out _ HB5.out
          replace k6 : (wr.alloc (.cells #[.int .i64 (y0 : Int), .int .i64 (y1 : Int), .int .i64 (y2 : Int), .int .i64 (y3 : Int), .int .i64 (y4 : Int), .int .i64 (y5 : Int), .int .i64 1] 39)).cell? ⟨bl, ol + i * 7 + 6, none⟩ = some (.int .i64 1) := k6
          clear p0 p1 p2 p3 p4 p5 p6 HA5
          generalize wr.alloc (.cells #[.int .i64 (y0 : Int), .int .i64 (y1 : Int), .int .i64 (y2 : Int), .int .i64 (y3 : Int), .int .i64 (y4 : Int), .int .i64 (y5 : Int), .int .i64 1] 39) = w5 at *
          generalize wr.heap.size = C at *
          go_quiet (fail)
          go_wp2_with fail
          go_roundw
          case rel => exact ⟨i + 1, by omega, by go_num, Lib.hid (below_drewN HB5.out _)⟩
          case measure => simp [intOf] <;> omega
        · replace p6 : wr.cell? ⟨bm, om + i * 7 + 6, none⟩ = some (.int .i64 3) := p6
          go_upto_region 16 with fail
          have HA5 := alloc_new wr (.cells #[.int .i64 (y0 : Int), .int .i64 (y1 : Int), .int .i64 (y2 : Int), .int .i64 (y3 : Int), .int .i64 (y4 : Int), .int .i64 (y5 : Int), .int .i64 2] 39)
          have HB5 := Lib.hid (Hb.out.alloc Hb.out.size (.cells #[.int .i64 (y0 : Int), .int .i64 (y1 : Int), .int .i64 (y2 : Int), .int .i64 (y3 : Int), .int .i64 (y4 : Int), .int .i64 (y5 : Int), .int .i64 2] 39))
          have hlC := lt_of_at HA5
          have d0 : (wr.alloc (.cells #[.int .i64 (y0 : Int), .int .i64 (y1 : Int), .int .i64 (y2 : Int), .int .i64 (y3 : Int), .int .i64 (y4 : Int), .int .i64 (y5 : Int), .int .i64 2] 39)).cell? ⟨wr.heap.size, 0, none⟩ = some (.int .i64 (y0 : Int)) := cell_at HA5 0
          have d1 : (wr.alloc (.cells #[.int .i64 (y0 : Int), .int .i64 (y1 : Int), .int .i64 (y2 : Int), .int .i64 (y3 : Int), .int .i64 (y4 : Int), .int .i64 (y5 : Int), .int .i64 2] 39)).cell? ⟨wr.heap.size, 1, none⟩ = some (.int .i64 (y1 : Int)) := cell_at HA5 1
          have d2 : (wr.alloc (.cells #[.int .i64 (y0 : Int), .int .i64 (y1 : Int), .int .i64 (y2 : Int), .int .i64 (y3 : Int), .int .i64 (y4 : Int), .int .i64 (y5 : Int), .int .i64 2] 39)).cell? ⟨wr.heap.size, 2, none⟩ = some (.int .i64 (y2 : Int)) := cell_at HA5 2
          have d3 : (wr.alloc (.cells #[.int .i64 (y0 : Int), .int .i64 (y1 : Int), .int .i64 (y2 : Int), .int .i64 (y3 : Int), .int .i64 (y4 : Int), .int .i64 (y5 : Int), .int .i64 2] 39)).cell? ⟨wr.heap.size, 3, none⟩ = some (.int .i64 (y3 : Int)) := cell_at HA5 3
          have d4 : (wr.alloc (.cells #[.int .i64 (y0 : Int), .int .i64 (y1 : Int), .int .i64 (y2 : Int), .int .i64 (y3 : Int), .int .i64 (y4 : Int), .int .i64 (y5 : Int), .int .i64 2] 39)).cell? ⟨wr.heap.size, 4, none⟩ = some (.int .i64 (y4 : Int)) := cell_at HA5 4
          have d5 : (wr.alloc (.cells #[.int .i64 (y0 : Int), .int .i64 (y1 : Int), .int .i64 (y2 : Int), .int .i64 (y3 : Int), .int .i64 (y4 : Int), .int .i64 (y5 : Int), .int .i64 2] 39)).cell? ⟨wr.heap.size, 5, none⟩ = some (.int .i64 (y5 : Int)) := cell_at HA5 5
          have d6 : (wr.alloc (.cells #[.int .i64 (y0 : Int), .int .i64 (y1 : Int), .int .i64 (y2 : Int), .int .i64 (y3 : Int), .int .i64 (y4 : Int), .int .i64 (y5 : Int), .int .i64 2] 39)).cell? ⟨wr.heap.size, 6, none⟩ = some (.int .i64 2) := cell_at HA5 6
          obtain ⟨k0, k1, k2, k3, k4, k5, k6⟩ := HL7.out _ HB5.out
          replace k6 : (wr.alloc (.cells #[.int .i64 (y0 : Int), .int .i64 (y1 : Int), .int .i64 (y2 : Int), .int .i64 (y3 : Int), .int .i64 (y4 : Int), .int .i64 (y5 : Int), .int .i64 2] 39)).cell? ⟨bl, ol + i * 7 + 6, none⟩ = some (.int .i64 2) := k6
          clear p0 p1 p2 p3 p4 p5 p6 HA5
          generalize wr.alloc (.cells #[.int .i64 (y0 : Int), .int .i64 (y1 : Int), .int .i64 (y2 : Int), .int .i64 (y3 : Int), .int .i64 (y4 : Int), .int .i64 (y5 : Int), .int .i64 2] 39) = w5 at *
          generalize wr.heap.size = C at *
          go_quiet (fail)
          go_wp2_with fail
          go_roundw
          case rel => exact ⟨i + 1, by omega, by go_num, Lib.hid (below_drewN HB5.out _)⟩
          case measure => simp [intOf] <;> omega
        · replace p6 : wr.cell? ⟨bm, om + i * 7 + 6, none⟩ = some (.int .i64 2) := p6
          go_upto_region 16 with fail
          have HA5 := alloc_new wr (.cells #[.int .i64 (y0 : Int), .int .i64 (y1 : Int), .int .i64 (y2 : Int), .int .i64 (y3 : Int), .int .i64 (y4 : Int), .int .i64 (y5 : Int), .int .i64 3] 39)
          have HB5 := Lib.hid (Hb.out.alloc Hb.out.size (.cells #[.int .i64 (y0 : Int), .int .i64 (y1 : Int), .int .i64 (y2 : Int), .int .i64 (y3 : Int), .int .i64 (y4 : Int), .int .i64 (y5 : Int), .int .i64 3] 39))
          have hlC := lt_of_at HA5
          have d0 : (wr.alloc (.cells #[.int .i64 (y0 : Int), .int .i64 (y1 : Int), .int .i64 (y2 : Int), .int .i64 (y3 : Int), .int .i64 (y4 : Int), .int .i64 (y5 : Int), .int .i64 3] 39)).cell? ⟨wr.heap.size, 0, none⟩ = some (.int .i64 (y0 : Int)) := cell_at HA5 0
          have d1 : (wr.alloc (.cells #[.int .i64 (y0 : Int), .int .i64 (y1 : Int), .int .i64 (y2 : Int), .int .i64 (y3 : Int), .int .i64 (y4 : Int), .int .i64 (y5 : Int), .int .i64 3] 39)).cell? ⟨wr.heap.size, 1, none⟩ = some (.int .i64 (y1 : Int)) := cell_at HA5 1
          have d2 : (wr.alloc (.cells #[.int .i64 (y0 : Int), .int .i64 (y1 : Int), .int .i64 (y2 : Int), .int .i64 (y3 : Int), .int .i64 (y4 : Int), .int .i64 (y5 : Int), .int .i64 3] 39)).cell? ⟨wr.heap.size, 2, none⟩ = some (.int .i64 (y2 : Int)) := cell_at HA5 2
          have d3 : (wr.alloc (.cells #[.int .i64 (y0 : Int), .int .i64 (y1 : Int), .int .i64 (y2 : Int), .int .i64 (y3 : Int), .int .i64 (y4 : Int), .int .i64 (y5 : Int), .int .i64 3] 39)).cell? ⟨wr.heap.size, 3, none⟩ = some (.int .i64 (y3 : Int)) := cell_at HA5 3
          have d4 : (wr.alloc (.cells #[.int .i64 (y0 : Int), .int .i64 (y1 : Int), .int .i64 (y2 : Int), .int .i64 (y3 : Int), .int .i64 (y4 : Int), .int .i64 (y5 : Int), .int .i64 3] 39)).cell? ⟨wr.heap.size, 4, none⟩ = some (.int .i64 (y4 : Int)) := cell_at HA5 4
          have d5 : (wr.alloc (.cells #[.int .i64 (y0 : Int), .int .i64 (y1 : Int), .int .i64 (y2 : Int), .int .i64 (y3 : Int), .int .i64 (y4 : Int), .int .i64 (y5 : Int), .int .i64 3] 39)).cell? ⟨wr.heap.size, 5, none⟩ = some (.int .i64 (y5 : Int)) := cell_at HA5 5
          have d6 : (wr.alloc (.cells #[.int .i64 (y0 : Int), .int .i64 (y1 : Int), .int .i64 (y2 : Int), .int .i64 (y3 : Int), .int .i64 (y4 : Int), .int .i64 (y5 : Int), .int .i64 3] 39)).cell? ⟨wr.heap.size, 6, none⟩ = some (.int .i64 3) := cell_at HA5 6
          obtain ⟨k0, k1, k2, k3, k4, k5, k6⟩ := HL7.out _ HB5.out
          replace k6 : (wr.alloc (.cells #[.int .i64 (y0 : Int), .int .i64 (y1 : Int), .int .i64 (y2 : Int), .int .i64 (y3 : Int), .int .i64 (y4 : Int), .int .i64 (y5 : Int), .int .i64 3] 39)).cell? ⟨bl, ol + i * 7 + 6, none⟩ = some (.int .i64 3) := k6
          clear p0 p1 p2 p3 p4 p5 p6 HA5
          generalize wr.alloc (.cells #[.int .i64 (y0 : Int), .int .i64 (y1 : Int), .int .i64 (y2 : Int), .int .i64 (y3 : Int), .int .i64 (y4 : Int), .int .i64 (y5 : Int), .int .i64 3] 39) = w5 at *
          generalize wr.heap.size = C at *
          go_quiet (fail)
          go_wp2_with fail
          go_roundw
          case rel => exact ⟨i + 1, by omega, by go_num, Lib.hid (below_drewN HB5.out _)⟩
          case measure => simp [intOf] <;> omega
        · replace p6 : wr.cell? ⟨bm, om + i * 7 + 6, none⟩ = some (.int .i64 4) := p6
          go_upto_region 16 with fail
          have HA5 := alloc_new wr (.cells #[.int .i64 (y0 : Int), .int .i64 (y1 : Int), .int .i64 (y2 : Int), .int .i64 (y3 : Int), .int .i64 (y4 : Int), .int .i64 (y5 : Int), .int .i64 4] 39)
          have HB5 := Lib.hid (Hb.out.alloc Hb.out.size (.cells #[.int .i64 (y0 : Int), .int .i64 (y1 : Int), .int .i64 (y2 : Int), .int .i64 (y3 : Int), .int .i64 (y4 : Int), .int .i64 (y5 : Int), .int .i64 4] 39))
          have hlC := lt_of_at HA5
          have d0 : (wr.alloc (.cells #[.int .i64 (y0 : Int), .int .i64 (y1 : Int), .int .i64 (y2 : Int), .int .i64 (y3 : Int), .int .i64 (y4 : Int), .int .i64 (y5 : Int), .int .i64 4] 39)).cell? ⟨wr.heap.size, 0, none⟩ = some (.int .i64 (y0 : Int)) := cell_at HA5 0
          have d1 : (wr.alloc (.cells #[.int .i64 (y0 : Int), .int .i64 (y1 : Int), .int .i64 (y2 : Int), .int .i64 (y3 : Int), .int .i64 (y4 : Int), .int .i64 (y5 : Int), .int .i64 4] 39)).cell? ⟨wr.heap.size, 1, none⟩ = some (.int .i64 (y1 : Int)) := cell_at HA5 1
          have d2 : (wr.alloc (.cells #[.int .i64 (y0 : Int), .int .i64 (y1 : Int), .int .i64 (y2 : Int), .int .i64 (y3 : Int), .int .i64 (y4 : Int), .int .i64 (y5 : Int), .int .i64 4] 39)).cell? ⟨wr.heap.size, 2, none⟩ = some (.int .i64 (y2 : Int)) := cell_at HA5 2
          have d3 : (wr.alloc (.cells #[.int .i64 (y0 : Int), .int .i64 (y1 : Int), .int .i64 (y2 : Int), .int .i64 (y3 : Int), .int .i64 (y4 : Int), .int .i64 (y5 : Int), .int .i64 4] 39)).cell? ⟨wr.heap.size, 3, none⟩ = some (.int .i64 (y3 : Int)) := cell_at HA5 3
          have d4 : (wr.alloc (.cells #[.int .i64 (y0 : Int), .int .i64 (y1 : Int), .int .i64 (y2 : Int), .int .i64 (y3 : Int), .int .i64 (y4 : Int), .int .i64 (y5 : Int), .int .i64 4] 39)).cell? ⟨wr.heap.size, 4, none⟩ = some (.int .i64 (y4 : Int)) := cell_at HA5 4
          have d5 : (wr.alloc (.cells #[.int .i64 (y0 : Int), .int .i64 (y1 : Int), .int .i64 (y2 : Int), .int .i64 (y3 : Int), .int .i64 (y4 : Int), .int .i64 (y5 : Int), .int .i64 4] 39)).cell? ⟨wr.heap.size, 5, none⟩ = some (.int .i64 (y5 : Int)) := cell_at HA5 5
          have d6 : (wr.alloc (.cells #[.int .i64 (y0 : Int), .int .i64 (y1 : Int), .int .i64 (y2 : Int), .int .i64 (y3 : Int), .int .i64 (y4 : Int), .int .i64 (y5 : Int), .int .i64 4] 39)).cell? ⟨wr.heap.size, 6, none⟩ = some (.int .i64 4) := cell_at HA5 6
          obtain ⟨k0, k1, k2, k3, k4, k5, k6⟩ := HL7.out _ HB5.out
          replace k6 : (wr.alloc (.cells #[.int .i64 (y0 : Int), .int .i64 (y1 : Int), .int .i64 (y2 : Int), .int .i64 (y3 : Int), .int .i64 (y4 : Int), .int .i64 (y5 : Int), .int .i64 4] 39)).cell? ⟨bl, ol + i * 7 + 6, none⟩ = some (.int .i64 4) := k6
          clear p0 p1 p2 p3 p4 p5 p6 HA5
          generalize wr.alloc (.cells #[.int .i64 (y0 : Int), .int .i64 (y1 : Int), .int .i64 (y2 : Int), .int .i64 (y3 : Int), .int .i64 (y4 : Int), .int .i64 (y5 : Int), .int .i64 4] 39) = w5 at *
          generalize wr.heap.size = C at *
          go_quiet (fail)
          go_wp2_with fail
          go_roundw
          case rel => exact ⟨i + 1, by omega, by go_num, Lib.hid (below_drewN HB5.out _)⟩
          case measure => simp [intOf] <;> omega
        · replace p6 : wr.cell? ⟨bm, om + i * 7 + 6, none⟩ = some (.int .i64 5) := p6
          go_upto_region 16 with fail
          have HA5 := alloc_new wr (.cells #[.int .i64 (y0 : Int), .int .i64 (y1 : Int), .int .i64 (y2 : Int), .int .i64 (y3 : Int), .int .i64 (y4 : Int), .int .i64 (y5 : Int), .int .i64 5] 39)
          have HB5 := Lib.hid (Hb.out.alloc Hb.out.size (.cells #[.int .i64 (y0 : Int), .int .i64 (y1 : Int), .int .i64 (y2 : Int), .int .i64 (y3 : Int), .int .i64 (y4 : Int), .int .i64 (y5 : Int), .int .i64 5] 39))
          have hlC := lt_of_at HA5
          have d0 : (wr.alloc (.cells #[.int .i64 (y0 : Int), .int .i64 (y1 : Int), .int .i64 (y2 : Int), .int .i64 (y3 : Int), .int .i64 (y4 : Int), .int .i64 (y5 : Int), .int .i64 5] 39)).cell? ⟨wr.heap.size, 0, none⟩ = some (.int .i64 (y0 : Int)) := cell_at HA5 0
          have d1 : (wr.alloc (.cells #[.int .i64 (y0 : Int), .int .i64 (y1 : Int), .int .i64 (y2 : Int), .int .i64 (y3 : Int), .int .i64 (y4 : Int), .int .i64 (y5 : Int), .int .i64 5] 39)).cell? ⟨wr.heap.size, 1, none⟩ = some (.int .i64 (y1 : Int)) := cell_at HA5 1
          have d2 : (wr.alloc (.cells #[.int .i64 (y0 : Int), .int .i64 (y1 : Int), .int .i64 (y2 : Int), .int .i64 (y3 : Int), .int .i64 (y4 : Int), .int .i64 (y5 : Int), .int .i64 5] 39)).cell? ⟨wr.heap.size, 2, none⟩ = some (.int .i64 (y2 : Int)) := cell_at HA5 2
          have d3 : (wr.alloc (.cells #[.int .i64 (y0 : Int), .int .i64 (y1 : Int), .int .i64 (y2 : Int), .int .i64 (y3 : Int), .int .i64 (y4 : Int), .int .i64 (y5 : Int), .int .i64 5] 39)).cell? ⟨wr.heap.size, 3, none⟩ = some (.int .i64 (y3 : Int)) := cell_at HA5 3
          have d4 : (wr.alloc (.cells #[.int .i64 (y0 : Int), .int .i64 (y1 : Int), .int .i64 (y2 : Int), .int .i64 (y3 : Int), .int .i64 (y4 : Int), .int .i64 (y5 : Int), .int .i64 5] 39)).cell? ⟨wr.heap.size, 4, none⟩ = some (.int .i64 (y4 : Int)) := cell_at HA5 4
          have d5 : (wr.alloc (.cells #[.int .i64 (y0 : Int), .int .i64 (y1 : Int), .int .i64 (y2 : Int), .int .i64 (y3 : Int), .int .i64 (y4 : Int), .int .i64 (y5 : Int), .int .i64 5] 39)).cell? ⟨wr.heap.size, 5, none⟩ = some (.int .i64 (y5 : Int)) := cell_at HA5 5
          have d6 : (wr.alloc (.cells #[.int .i64 (y0 : Int), .int .i64 (y1 : Int), .int .i64 (y2 : Int), .int .i64 (y3 : Int), .int .i64 (y4 : Int), .int .i64 (y5 : Int), .int .i64 5] 39)).cell? ⟨wr.heap.size, 6, none⟩ = some (.int .i64 5) := cell_at HA5 6
          obtain ⟨k0, k1, k2, k3, k4, k5, k6⟩ := HL7.out _ HB5.out
          replace k6 : (wr.alloc (.cells #[.int .i64 (y0 : Int), .int .i64 (y1 : Int), .int .i64 (y2 : Int), .int .i64 (y3 : Int), .int .i64 (y4 : Int), .int .i64 (y5 : Int), .int .i64 5] 39)).cell? ⟨bl, ol + i * 7 + 6, none⟩ = some (.int .i64 5) := k6
          clear p0 p1 p2 p3 p4 p5 p6 HA5
          generalize wr.alloc (.cells #[.int .i64 (y0 : Int), .int .i64 (y1 : Int), .int .i64 (y2 : Int), .int .i64 (y3 : Int), .int .i64 (y4 : Int), .int .i64 (y5 : Int), .int .i64 5] 39) = w5 at *
          generalize wr.heap.size = C at *
          go_quiet (fail)
          go_wp2_with fail
          go_roundw
          case rel => exact ⟨i + 1, by omega, by go_num, Lib.hid (below_drewN HB5.out _)⟩
          case measure => simp [intOf] <;> omega
      · have B4 := Lib.hid (B3.out.trans (Hb.out.mono B3.out.size))
        have hs : decide (ms = ms) = true := decide_eq_true rfl
        have HS := Lib.hid (fun v v' w' h1 h2 => rsame3_any v v' ms ms w' h1 h2 (by omega) (by omega))
        rw [hs] at HS
        have ek : (ok == ok) = true := by simp
        clear hs FL FM HLS
        go_wp2_with fail
        refine (HM.out _ B4.out).mono ?_
        rintro e w5 ⟨v5, rfl, r5, hb⟩
        have B5 := Lib.hid (B4.out.trans (hb.mono B4.out.size))
        have R5 := Lib.hid r5
        clear hb r5
        go_wp2_with fail
        refine (HQ.out _ B5.out).mono ?_
        rintro e w6 ⟨v6, rfl, r6, hb⟩
        have B6 := Lib.hid (B5.out.trans (hb.mono B5.out.size))
        have HS2 := Lib.hid (HS.out v5 v6 w6 (R5.out.below hb) r6)
        clear hb r6 HS
        go_wp2_with fail
        refine HS2.out.mono ?_
        rintro e w7 ⟨rfl, n7, rfl⟩
        have B7 := Lib.hid (below_drewN B6.out n7)
        go_wp2_with fail
        go_ret
        exact ⟨rfl, B7.out⟩

end Go.Proofs.Ytbfclmhcoelplaa.Wv
