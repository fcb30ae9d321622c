/-
  THE WALK of WeaveAll, on what is asked of the program's Chunks, Clean, Merge.
-/
import Derived.Test.YtbfclmhcoelplaaWvAwake
import Derived.Test.YtbfclmhcoelplaaWvMerge
import Derived.Test.YtbfclmhcoelplaaWvFar
import Derived.Test.YtbfclmhcoelplaaWvEnds
namespace Go.Proofs.Ytbfclmhcoelplaa.Wv
open Go.RowKit Go.Proofs.Ytbfclmhcoelplaa.Cm Go.Proofs.Ytbfclmhcoelplaa.Lc
set_option linter.unusedVariables false

theorem cov_cons {B O T : List Int} {cs : List Ch} {i x y z : Nat} (hlt : i < cs.length) (h : Cov B O T (cs.drop i) x y z) :
    cs[i].b1 = x ∧ cs[i].o1 = y ∧ cs[i].t1 = z ∧ x ≤ cs[i].b2 ∧ y ≤ cs[i].o2 ∧ z ≤ cs[i].t2 ∧ x + y + z < cs[i].b2 + cs[i].o2 + cs[i].t2 ∧ cs[i].b2 ≤ B.length ∧ cs[i].o2 ≤ O.length ∧ cs[i].t2 ≤ T.length ∧ (1 ≤ cs[i].out ∧ cs[i].out ≤ 5) ∧
      (∀ h2 : i + 1 < cs.length, (cs[i].out = 1 ↔ cs[i + 1].out ≠ 1)) ∧ Cov B O T (cs.drop (i + 1)) cs[i].b2 cs[i].o2 cs[i].t2 := by
  rw [List.drop_eq_getElem_cons hlt] at h
  obtain ⟨h1, h2, h3, h4, h5, h6, h7, h8, h9, h10, h11, h12, h13⟩ := h
  refine ⟨h1, h2, h3, h4, h5, h6, h7, h8, h9, h10, h11, fun hl => h12 _ ?_, h13⟩
  rw [List.drop_eq_getElem_cons hl]; rfl
set_option maxHeartbeats 6400000 in
set_option maxRecDepth 100000 in
theorem weaveAll_walk (K : Told) (w : World) (a0 : Value) (x0 : List Int) (w0 : Rz w a0 x0) (n0 : x0.length ≤ 9223372036854775807) (a1 : Value) (x1 : List Int) (w1 : Rz w a1 x1) (n1 : x1.length ≤ 9223372036854775807) (a2 : Value) (x2 : List Int) (w2 : Rz w a2 x2) (n2 : x2.length ≤ 9223372036854775807)  :
    Calls Try.prog 4 #[a0, a1, a2] w fun e w' => e = .returned (.bool true) ∧ Below w.heap.size w w' := by
  have W0 := Lib.hid w0
  have W1 := Lib.hid w1
  have W2 := Lib.hid w2
  clear w0 w1 w2
  obtain ⟨ao0, c0, rfl⟩ := W0.out.len
  obtain ⟨ao1, c1, rfl⟩ := W1.out.len
  obtain ⟨ao2, c2, rfl⟩ := W2.out.len
  have HF := Lib.hid (fun w' (h : Below w.heap.size w w') => few5_any (.slice ao0 x0.length c0) (.slice ao1 x1.length c1) (.slice ao2 x2.length c2) x0 x1 x2 w' (W0.out.below h) (W1.out.below h) (W2.out.below h))
  cases hf : (decide ((x0 : List Int).length ≤ 40) && decide ((x1 : List Int).length ≤ 40) && decide ((x2 : List Int).length ≤ 40)) with
  | false =>
    rw [hf] at HF
    clear hf
    go_enter Try.func4, Try.ntmps4
    go_wp2_with fail
    refine (awake5_any K _).mono ?_
    rintro e w1 ⟨rfl, hb⟩
    have B1 := Lib.hid hb
    clear hb
    go_wp2_with fail
    refine (HF.out _ B1.out).mono ?_
    rintro e w2 ⟨rfl, rfl⟩
    go_wp2_with fail
    refine (awake5_any K _).mono ?_
    rintro e w2 ⟨rfl, hb2⟩
    have B2 := Lib.hid (B1.out.trans (hb2.mono B1.out.size))
    clear hb2
    go_wp2_with fail
    go_ret
    exact ⟨rfl, B2.out⟩
  | true =>
    rw [hf] at HF
    simp only [Bool.and_eq_true, decide_eq_true_eq] at hf
    obtain ⟨⟨l0, l1⟩, l2⟩ := hf
    go_enter Try.func4, Try.ntmps4
    go_wp2_with fail
    refine (awake5_any K _).mono ?_
    rintro e w1 ⟨rfl, hb⟩
    have B1 := Lib.hid hb
    clear hb
    go_wp2_with fail
    refine (HF.out _ B1.out).mono ?_
    rintro e w2 ⟨rfl, rfl⟩
    clear HF
    have hcl := chunks_len x0 x1 x2
    have HCV := Lib.hid (chunks_cov x0 x1 x2)
    have HC := Lib.hid (fun w' h => K.chunks _ _ _ x0 x1 x2 w' (W0.out.below h) (W1.out.below h) (W2.out.below h) (by omega) (by omega) (by omega))
    generalize chunks x0 x1 x2 = cs at *
    go_wp2_with fail
    refine (HC.out _ B1.out).mono ?_
    rintro e w2 ⟨v2, rfl, r2, hb⟩
    have B2 := Lib.hid (B1.out.trans (hb.mono B1.out.size))
    have R2 := Lib.hid r2
    clear hb r2 HC
    obtain ⟨aoL, cL, rfl⟩ := R2.out.len
    have FL := Lib.hid (Rk.seven R2.out)
    go_wp2_with fail
    go_loopw [8, 9, 10, 29] (fun s8 s9 s10 s wr => ∃ i x y z : Nat, i ≤ cs.length ∧ s = .int .i64 i ∧ s8 = .int .i64 x ∧ s9 = .int .i64 y ∧ s10 = .int .i64 z ∧ x ≤ x0.length ∧ y ≤ x1.length ∧ z ≤ x2.length ∧ Hid (Below w2.heap.size w2 wr) ∧ Hid (Cov x0 x1 x2 (cs.drop i) x y z) ∧ Hid (∀ j (hj : j < cs.length), j + 1 = i → ∀ hi : i < cs.length, (cs[j].out = 1 ↔ cs[i].out ≠ 1))) (fun _ _ _ s _ => cs.length - (intOf s).toNat)
    case atStart => exact ⟨0, 0, 0, 0, Nat.zero_le _, rfl, rfl, rfl, rfl, Nat.zero_le _, Nat.zero_le _, Nat.zero_le _, Lib.hid (Below.refl _ _), Lib.hid (by rw [List.drop_zero]; exact HCV.out), Lib.hid (fun j _ h => by omega)⟩
    case round =>
      clear HCV
      obtain ⟨i, x, y, z, hil, rfl, rfl, rfl, rfl, hx, hy, hz, Hb, HV, HP⟩ := hrel
      by_cases hlt : i < cs.length
      · obtain ⟨g1, g2, g3, g4, g5, g6, g7, g8, g9, g10, ⟨g11, g12⟩, g13, g14⟩ := cov_cons hlt HV.out
        obtain ⟨b, o, rfl, hb, k0, k1, k2, k3, k4, k5, k6⟩ := FL.out i hlt
        have HPr : Hid (∀ j, j + 1 = i → ∃ p : Nat, (∀ w', Below w2.heap.size w2 w' → w'.cell? ⟨b, o + j * 7 + 6, none⟩ = some (.int .i64 (p : Int))) ∧ (p = 1 ↔ cs[i].out ≠ 1)) := Lib.hid (fun j hj => by
          have hjl : j < cs.length := by omega
          obtain ⟨b', o', he, hb', _, _, _, _, _, _, m6⟩ := FL.out j hjl
          simp only [Option.some.injEq, Addr.mk.injEq, and_true] at he
          obtain ⟨rfl, rfl⟩ := he
          exact ⟨cs[j].out, fun w' h => (h.cell (by exact hb')).trans m6, HP.out j hjl hj hlt⟩)
        have HN : Hid (∀ j (hj : j < cs.length), j + 1 = i + 1 → ∀ hi : i + 1 < cs.length, (cs[j].out = 1 ↔ cs[i + 1].out ≠ 1)) := Lib.hid (fun j hj e hi => by
          obtain rfl : j = i := by omega
          exact g13 hi)
        have HV2 := Lib.hid g14
        have p0 := (Hb.out.cell (by exact hb)).trans k0
        have p1 := (Hb.out.cell (by exact hb)).trans k1
        have p2 := (Hb.out.cell (by exact hb)).trans k2
        have p3 := (Hb.out.cell (by exact hb)).trans k3
        have p4 := (Hb.out.cell (by exact hb)).trans k4
        have p5 := (Hb.out.cell (by exact hb)).trans k5
        have p6 := (Hb.out.cell (by exact hb)).trans k6
        have hbw : b < wr.heap.size := Nat.lt_of_lt_of_le hb Hb.out.size
        rw [g1] at p0
        rw [g2] at p2
        rw [g3] at p4
        clear k0 k1 k2 k3 k4 k5 k6 g1 g2 g3 g13 g14 HP HV
        generalize cs[i].b2 = x' at *
        generalize cs[i].o2 = y' at *
        generalize cs[i].t2 = z' at *
        generalize cs[i].out = oc at *
        obtain ⟨s1, hs1⟩ : ∃ s1, x' + y' = s1 := ⟨_, rfl⟩
        obtain ⟨s2, hs2⟩ : ∃ s2, s1 + z' = s2 := ⟨_, rfl⟩
        obtain ⟨t1, ht1⟩ : ∃ t1, x + y = t1 := ⟨_, rfl⟩
        obtain ⟨t2, ht2⟩ : ∃ t2, t1 + z = t2 := ⟨_, rfl⟩
        have e1 : IntKind.i64.wrap ((x' : Int) + (y' : Int)) = (s1 : Int) := by rw [IntKind.wrap_i64]; omega
        have e2 : IntKind.i64.wrap ((s1 : Int) + (z' : Int)) = (s2 : Int) := by rw [IntKind.wrap_i64]; omega
        have e3 : IntKind.i64.wrap ((x : Int) + (y : Int)) = (t1 : Int) := by rw [IntKind.wrap_i64]; omega
        have e4 : IntKind.i64.wrap ((t1 : Int) + (z : Int)) = (t2 : Int) := by rw [IntKind.wrap_i64]; omega
        have q1 : decide ((x' : Int) < (x : Int)) = false := decide_eq_false (by omega)
        have q2 : decide ((y' : Int) < (y : Int)) = false := decide_eq_false (by omega)
        have q3 : decide ((z' : Int) < (z : Int)) = false := decide_eq_false (by omega)
        have q4 : decide (x' < x) = false := decide_eq_false (by omega)
        have q5 : decide (y' < y) = false := decide_eq_false (by omega)
        have q6 : decide (z' < z) = false := decide_eq_false (by omega)
        have q7 : ((s2 : Int) == (t2 : Int)) = false := by rw [beq_eq_false_iff_ne]; omega
        have q8 : decide ((oc : Int) < 1) = false := decide_eq_false (by omega)
        have q9 : decide ((5 : Int) < (oc : Int)) = false := decide_eq_false (by omega)
        have q10 : decide (oc < 1) = false := decide_eq_false (by omega)
        have q11 : decide (5 < oc) = false := decide_eq_false (by omega)
        have hi1 : (i : Int) < (cs.length : Int) := by omega
        clear hs1 hs2 ht1 ht2
        go_upto_region 11 with fail
        have HA5 := alloc_new wr (.cells #[.int .i64 (x : Int), .int .i64 (x' : Int), .int .i64 (y : Int), .int .i64 (y' : Int), .int .i64 (z : Int), .int .i64 (z' : Int), .int .i64 (oc : Int)] 39)
        have HB5 := Lib.hid (Hb.out.alloc Hb.out.size (.cells #[.int .i64 (x : Int), .int .i64 (x' : Int), .int .i64 (y : Int), .int .i64 (y' : Int), .int .i64 (z : Int), .int .i64 (z' : Int), .int .i64 (oc : Int)] 39))
        have HA := Lib.hid HA5
        clear HA5
        generalize wr.alloc (.cells #[.int .i64 (x : Int), .int .i64 (x' : Int), .int .i64 (y : Int), .int .i64 (y' : Int), .int .i64 (z : Int), .int .i64 (z' : Int), .int .i64 (oc : Int)] 39) = w5 at *
        have d6 : w5.cell? ⟨wr.heap.size, 6, none⟩ = some (.int .i64 (oc : Int)) := cell_at HA.out 6
        have lC5 := lt_of_at HA.out
        clear p0 p1 p2 p3 p4 p5 p6 q1 q2 q3 q4 q5 q6 q7 q8 q9 q10 q11 e1 e2 e3 e4
        by_cases hi0 : 0 < i
        · obtain ⟨j, hj⟩ : ∃ j, j + 1 = i := ⟨i - 1, by omega⟩
          obtain ⟨p, hp, hpo⟩ := HPr.out j hj
          have cp := hp w5 HB5.out
          have ej : IntKind.i64.wrap ((i : Int) - 1) = (j : Int) := by rw [IntKind.wrap_i64]; omega
          have f7 : decide ((0 : Int) < (i : Int)) = true := decide_eq_true (by omega)
          have f8 : decide (0 < i) = true := decide_eq_true (by omega)
          have hj1 : (j : Int) < (cs.length : Int) := by omega
          have hj2 : j < cs.length := by omega
          have hb5 : b < w5.heap.size := by omega
          clear hp HPr
          have hbb : (((p : Int) == 1) = true ∧ ((oc : Int) == 1) = false) ∨ (((p : Int) == 1) = false ∧ ((oc : Int) == 1) = true) := by
            by_cases h1 : p = 1
            · left
              exact ⟨by rw [beq_iff_eq]; omega, by rw [beq_eq_false_iff_ne]; have := hpo.1 h1; omega⟩
            · right
              refine ⟨by rw [beq_eq_false_iff_ne]; omega, ?_⟩
              rw [beq_iff_eq]
              have : ¬ (oc ≠ 1) := fun h => h1 (hpo.2 h)
              omega
          have HJ := Lib.hid hj
          clear hpo hj
          generalize wr.heap.size = C at *
          rcases hbb with ⟨b1, b2⟩ | ⟨b1, b2⟩
          · go_quiet (fail)
            have HA6 : Hid ((w5.drewN nq).heap[C]? = some (.cells #[.int .i64 (x : Int), .int .i64 (x' : Int), .int .i64 (y : Int), .int .i64 (y' : Int), .int .i64 (z : Int), .int .i64 (z' : Int), .int .i64 (oc : Int)] 39 (0, 0))) := HA
            have HB6 := Lib.hid (below_drewN HB5.out nq)
            clear d6 HA HB5
            generalize w5.drewN nq = w6 at *
            have m1 : w6.cell? ⟨C, 1, none⟩ = some (.int .i64 (x' : Int)) := cell_at HA6.out 1
            have m3 : w6.cell? ⟨C, 3, none⟩ = some (.int .i64 (y' : Int)) := cell_at HA6.out 3
            have m5 : w6.cell? ⟨C, 5, none⟩ = some (.int .i64 (z' : Int)) := cell_at HA6.out 5
            have lC6 := lt_of_at HA6.out
            go_wp2_with fail
            go_quiet (fail)
            go_wp2_with fail
            go_roundw
            case rel => exact ⟨i + 1, x', y', z', by omega, by go_num, rfl, rfl, rfl, by omega, by omega, by omega, Lib.hid (below_drewN HB6.out _), HV2, HN⟩
            case measure => simp [intOf] <;> omega
          · go_quiet (fail)
            have HA6 : Hid ((w5.drewN nq).heap[C]? = some (.cells #[.int .i64 (x : Int), .int .i64 (x' : Int), .int .i64 (y : Int), .int .i64 (y' : Int), .int .i64 (z : Int), .int .i64 (z' : Int), .int .i64 (oc : Int)] 39 (0, 0))) := HA
            have HB6 := Lib.hid (below_drewN HB5.out nq)
            clear d6 HA HB5
            generalize w5.drewN nq = w6 at *
            have m1 : w6.cell? ⟨C, 1, none⟩ = some (.int .i64 (x' : Int)) := cell_at HA6.out 1
            have m3 : w6.cell? ⟨C, 3, none⟩ = some (.int .i64 (y' : Int)) := cell_at HA6.out 3
            have m5 : w6.cell? ⟨C, 5, none⟩ = some (.int .i64 (z' : Int)) := cell_at HA6.out 5
            have lC6 := lt_of_at HA6.out
            go_wp2_with fail
            go_quiet (fail)
            go_wp2_with fail
            go_roundw
            case rel => exact ⟨i + 1, x', y', z', by omega, by go_num, rfl, rfl, rfl, by omega, by omega, by omega, Lib.hid (below_drewN HB6.out _), HV2, HN⟩
            case measure => simp [intOf] <;> omega
        · have f7 : decide ((0 : Int) < (i : Int)) = false := decide_eq_false (by omega)
          have f8 : decide (0 < i) = false := decide_eq_false (by omega)
          clear HPr
          generalize wr.heap.size = C at *
          go_quiet (fail)
          have HA6 : Hid ((w5.drewN nq).heap[C]? = some (.cells #[.int .i64 (x : Int), .int .i64 (x' : Int), .int .i64 (y : Int), .int .i64 (y' : Int), .int .i64 (z : Int), .int .i64 (z' : Int), .int .i64 (oc : Int)] 39 (0, 0))) := HA
          have HB6 := Lib.hid (below_drewN HB5.out nq)
          clear d6 HA HB5
          generalize w5.drewN nq = w6 at *
          have m1 : w6.cell? ⟨C, 1, none⟩ = some (.int .i64 (x' : Int)) := cell_at HA6.out 1
          have m3 : w6.cell? ⟨C, 3, none⟩ = some (.int .i64 (y' : Int)) := cell_at HA6.out 3
          have m5 : w6.cell? ⟨C, 5, none⟩ = some (.int .i64 (z' : Int)) := cell_at HA6.out 5
          have lC6 := lt_of_at HA6.out
          go_wp2_with fail
          go_quiet (fail)
          go_wp2_with fail
          go_roundw
          case rel => exact ⟨i + 1, x', y', z', by omega, by go_num, rfl, rfl, rfl, by omega, by omega, by omega, Lib.hid (below_drewN HB6.out _), HV2, HN⟩
          case measure => simp [intOf] <;> omega
      · obtain rfl : i = cs.length := by omega
        have hv := HV.out
        rw [List.drop_length] at hv
        obtain ⟨rfl, rfl, rfl⟩ := hv
        have B5 := Lib.hid (B2.out.trans (Hb.out.mono B2.out.size))
        clear HV HP FL
        go_wp2_with fail
        go_ret
        exact ⟨rfl, B5.out⟩

end Go.Proofs.Ytbfclmhcoelplaa.Wv
