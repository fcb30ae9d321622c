/-
  THE WALK of WeaveEnds, on what is asked of the program's Chunks, Clean, Merge.
-/
import Derived.Test.YtbfclmhcoelplaaWvAwake
import Derived.Test.YtbfclmhcoelplaaWvMerge
import Derived.Test.YtbfclmhcoelplaaWvFar
import Derived.Test.YtbfclmhcoelplaaWvEnds
namespace Go.Proofs.Ytbfclmhcoelplaa.Wv
open Go.RowKit Go.Proofs.Ytbfclmhcoelplaa.Cm Go.Proofs.Ytbfclmhcoelplaa.Lc
set_option linter.unusedVariables false

theorem snoc_run {w1 : World} {u : Value} {ys : List Int} (x : Int) (hu : Rz w1 u ys) (hl : ys.length ≤ 1000) :
    ∃ v1 wB v2 wD, (∀ ty, (Builtin.append_ #[22, 22] ty #[.slice (some ⟨w1.heap.size, 0, none⟩) 0 0, u]).run Try.prog (w1.alloc (.cells #[] 3)) = .ok v1 wB) ∧
      (∀ ty, (Builtin.append_ #[22, 22] ty #[v1, .slice (some ⟨wB.heap.size, 0, none⟩) 1 1]).run Try.prog (wB.alloc (.cells #[.int .i64 x] 3)) = .ok v2 wD) ∧ Rz wD v2 (ys ++ [x]) ∧ Below w1.heap.size w1 wD := by
  have hBa : Below w1.heap.size w1 (w1.alloc (.cells #[] 3)) := (Below.refl _ _).alloc (Nat.le_refl _) _
  obtain ⟨v1, wB, r1, o1, g1⟩ := run_append_rz (w := w1.alloc (.cells #[] 3)) (B := w1.heap.size) (os := []) (World.ownsRow_lit w1 #[] 0 (Nat.le_refl _) (Nat.zero_le _) rfl) (hu.below hBa) (by simp) (by simp; omega)
  have hB1 := hBa.grown g1 (by simp) (fun k hk => by simp [Value.ownBlock] at hk; omega)
  have hB2 := hB1.alloc hB1.size (.cells #[.int .i64 x] 3)
  obtain ⟨v2, wD, r2, o2, g2⟩ := run_append_rz (w := wB.alloc (.cells #[.int .i64 x] 3)) (B := w1.heap.size) (os := [] ++ ys) (o1.alloc _) (rz_lit (w := wB) (xs := [x]) rfl) (by have := hB1.size; simp; omega) (by simp; omega)
  refine ⟨v1, wB, v2, wD, r1, r2, ?_, hB2.grown g2 (by have := hB1.size; simp; omega) (fun k hk => (o1.lt k hk).1)⟩
  have := Rz.of_own o2
  rwa [List.nil_append] at this
theorem cons_run {w1 : World} {u : Value} {ys : List Int} (x : Int) (hu : Rz w1 u ys) (hl : ys.length ≤ 1000) :
    ∃ v1 wB, (∀ ty, (Builtin.append_ #[22, 22] ty #[.slice (some ⟨w1.heap.size, 0, none⟩) 1 1, u]).run Try.prog (w1.alloc (.cells #[.int .i64 x] 3)) = .ok v1 wB) ∧ Rz wB v1 (x :: ys) ∧ Below w1.heap.size w1 wB := by
  have hBa : Below w1.heap.size w1 (w1.alloc (.cells #[.int .i64 x] 3)) := (Below.refl _ _).alloc (Nat.le_refl _) _
  obtain ⟨v1, wB, r1, o1, g1⟩ := run_append_rz (w := w1.alloc (.cells #[.int .i64 x] 3)) (B := w1.heap.size) (os := [x]) (World.ownsRow_lit w1 #[.int .i64 x] 1 (Nat.le_refl _) (by unfold maxLen; omega) rfl) (hu.below hBa) (by simp) (by simp; omega)
  have hB1 := hBa.grown g1 (by simp) (fun k hk => by simp [Value.ownBlock] at hk; omega)
  exact ⟨v1, wB, r1, Rz.of_own o1, hB1⟩
/-- An append behind a guard, whose run is known. -/
theorem wpList_append_guarded {P : Program} (w : World) {ops : Array Oper} {rest : List Oper} {o : Oper} {a : Act} {Q : Exit → Act → World → Prop} (hgd : Region.wanted o (yielded ops a.tmps) = true) (s x : Operand) (t tn : TypeId)
    (ho : o.op = .call { callee := .builtin .append, args := #[s, x], argTypes := #[t, tn] }) (vs vx : Value) (hs : a.eval s = vs) (hx : a.eval x = vx)
    (v' : Value) (w' : World) (hr : (Builtin.append_ #[t, tn] o.type #[vs, vx]).run P w = .ok v' w') (h : wpList P ops Q rest (a.put o.dst v') w') : wpList P ops Q (o :: rest) a w := by
  unfold wpList
  rw [if_pos hgd]
  exact Or.inl (Lib.wp_append_run w s x t tn ho vs vx hs hx v' w' hr h)
set_option maxHeartbeats 6400000 in
set_option maxRecDepth 100000 in
theorem weaveEnds_walk (K : Told) (w : World) (a0 : Value) (x0 : List Int) (w0 : Rz w a0 x0) (n0 : x0.length ≤ 9223372036854775807) (i0 : ∀ x ∈ x0, inI x) (a1 : Value) (x1 : List Int) (w1 : Rz w a1 x1) (n1 : x1.length ≤ 9223372036854775807) (i1 : ∀ x ∈ x1, inI x) (a2 : Value) (x2 : List Int) (w2 : Rz w a2 x2) (n2 : x2.length ≤ 9223372036854775807) (i2 : ∀ x ∈ x2, inI x)  :
    Calls Try.prog 9 #[a0, a1, a2] w fun e w' => e = .returned (.bool true) ∧ Below w.heap.size w w' := by
  have W0 := Lib.hid w0
  have W1 := Lib.hid w1
  have W2 := Lib.hid w2
  clear w0 w1 w2
  obtain ⟨ao0, c0, rfl⟩ := W0.out.len
  obtain ⟨ao1, c1, rfl⟩ := W1.out.len
  obtain ⟨ao2, c2, rfl⟩ := W2.out.len
  have HF := Lib.hid (fun w' (h : Below w.heap.size w w') => few5_any (.slice ao0 x0.length c0) (.slice ao1 x1.length c1) (.slice ao2 x2.length c2) x0 x1 x2 w' (W0.out.below h) (W1.out.below h) (W2.out.below h))
  cases hf : (decide ((x0 : List Int).length ≤ 40) && decide ((x1 : List Int).length ≤ 40) && decide ((x2 : List Int).length ≤ 40)) with
  | false =>
    rw [hf] at HF
    clear hf
    go_enter Try.func9, Try.ntmps9
    go_wp2_with fail
    refine (awake5_any K _).mono ?_
    rintro e w1 ⟨rfl, hb⟩
    have B1 := Lib.hid hb
    clear hb
    go_wp2_with fail
    refine (HF.out _ B1.out).mono ?_
    rintro e w2 ⟨rfl, rfl⟩
    go_wp2_with fail
    refine (awake5_any K _).mono ?_
    rintro e w2 ⟨rfl, hb2⟩
    have B2 := Lib.hid (B1.out.trans (hb2.mono B1.out.size))
    clear hb2
    go_wp2_with fail
    go_ret
    exact ⟨rfl, B2.out⟩
  | true =>
    rw [hf] at HF
    simp only [Bool.and_eq_true, decide_eq_true_eq] at hf
    obtain ⟨⟨l0, l1⟩, l2⟩ := hf
    go_enter Try.func9, Try.ntmps9
    go_wp2_with fail
    refine (awake5_any K _).mono ?_
    rintro e w1 ⟨rfl, hb⟩
    have B1 := Lib.hid hb
    clear hb
    go_wp2_with fail
    refine (HF.out _ B1.out).mono ?_
    rintro e w2 ⟨rfl, rfl⟩
    clear HF
    by_cases g0 : x0.length = 40
    · have e0 : ((x0.length : Int) == 40) = true := by rw [beq_iff_eq]; omega
      clear g0
      go_wp2_with fail
      refine (awake5_any K _).mono ?_
      rintro e w2 ⟨rfl, hb2⟩
      have B2 := Lib.hid (B1.out.trans (hb2.mono B1.out.size))
      clear hb2
      go_wp2_with fail
      go_ret
      exact ⟨rfl, B2.out⟩
    by_cases g1 : x1.length = 40
    · have e0 : ((x0.length : Int) == 40) = false := by rw [beq_eq_false_iff_ne]; omega
      have e1 : ((x1.length : Int) == 40) = true := by rw [beq_iff_eq]; omega
      clear g0 g1
      go_wp2_with fail
      refine (awake5_any K _).mono ?_
      rintro e w2 ⟨rfl, hb2⟩
      have B2 := Lib.hid (B1.out.trans (hb2.mono B1.out.size))
      clear hb2
      go_wp2_with fail
      go_ret
      exact ⟨rfl, B2.out⟩
    by_cases g2 : x2.length = 40
    · have e0 : ((x0.length : Int) == 40) = false := by rw [beq_eq_false_iff_ne]; omega
      have e1 : ((x1.length : Int) == 40) = false := by rw [beq_eq_false_iff_ne]; omega
      have e2 : ((x2.length : Int) == 40) = true := by rw [beq_iff_eq]; omega
      clear g0 g1 g2
      go_wp2_with fail
      refine (awake5_any K _).mono ?_
      rintro e w2 ⟨rfl, hb2⟩
      have B2 := Lib.hid (B1.out.trans (hb2.mono B1.out.size))
      clear hb2
      go_wp2_with fail
      go_ret
      exact ⟨rfl, B2.out⟩
    have e0 : ((x0.length : Int) == 40) = false := by rw [beq_eq_false_iff_ne]; omega
    have e1 : ((x1.length : Int) == 40) = false := by rw [beq_eq_false_iff_ne]; omega
    have e2 : ((x2.length : Int) == 40) = false := by rw [beq_eq_false_iff_ne]; omega
    clear g0 g1 g2
    have HA := Lib.hid (alloc_new w1 (.cells #[.slice ao0 x0.length c0, .slice ao1 x1.length c1, .slice ao2 x2.length c2] 22))
    have B2 := Lib.hid (B1.out.alloc B1.out.size (.cells #[.slice ao0 x0.length c0, .slice ao1 x1.length c1, .slice ao2 x2.length c2] 22))
    have HL3 : Hid (∀ m, m < 3 → ∃ ao c, ∃ l : List Int, (w1.alloc (.cells #[.slice ao0 x0.length c0, .slice ao1 x1.length c1, .slice ao2 x2.length c2] 22)).cell? ⟨w1.heap.size, m, none⟩ = some (.slice ao l.length c) ∧ Rz w (.slice ao l.length c) l ∧ [x0, x1, x2][m]? = some l ∧ l.length ≤ 40 ∧ ∀ v ∈ l, inI v) := Lib.hid (fun m hm => by
      obtain rfl | rfl | rfl : m = 0 ∨ m = 1 ∨ m = 2 := by omega
      · exact ⟨ao0, c0, x0, cell_at HA.out 0, W0.out, rfl, l0, i0⟩
      · exact ⟨ao1, c1, x1, cell_at HA.out 1, W1.out, rfl, l1, i1⟩
      · exact ⟨ao2, c2, x2, cell_at HA.out 2, W2.out, rfl, l2, i2⟩)
    have hC := lt_of_at HA.out
    go_wp2_with fail
    generalize w1.alloc (.cells #[.slice ao0 x0.length c0, .slice ao1 x1.length c1, .slice ao2 x2.length c2] 22) = w2 at *
    go_loop [7, 47] (fun s t => ∃ (m : Nat) (y : Int), s = .int .i64 y ∧ t = .int .i64 m ∧ m ≤ 3 ∧ 1 ≤ y ∧ y ≤ 1152921504606846977 ∧ Hid (∀ j l, j < m → [x0, x1, x2][j]? = some l → ∀ v ∈ l, v < y)) (fun _ t => 3 - (intOf t).toNat)
    case atStart => exact ⟨0, 1, rfl, rfl, by omega, by omega, by omega, Lib.hid (fun j l h => absurd h (Nat.not_lt_zero _))⟩
    case round =>
      obtain ⟨m, y, rfl, rfl, hm, hy1, hy2, HV⟩ := hrel
      by_cases hlt : m < 3
      · obtain ⟨ao, c, l, hcell, hr, hl, hll, hin⟩ := HL3.out m hlt
        have F := Lib.hid hr.at
        have HIN := Lib.hid hin
        have HL := Lib.hid hl
        have hi1 : (m : Int) < 3 := by omega
        clear hr hin hl
        go_wp2_with fail
        go_loop [7, 53] (fun s t => ∃ (k : Nat) (z : Int), s = .int .i64 z ∧ t = .int .i64 k ∧ k ≤ l.length ∧ 1 ≤ z ∧ z ≤ 1152921504606846977 ∧ y ≤ z ∧ Hid (∀ i (h : i < l.length), i < k → l[i] < z)) (fun _ t => l.length - (intOf t).toNat)
        case atStart => exact ⟨0, y, rfl, rfl, Nat.zero_le _, hy1, hy2, by omega, Lib.hid (fun i h hk => absurd hk (Nat.not_lt_zero _))⟩
        case round =>
          obtain ⟨k, z, rfl, rfl, hk, hz1, hz2, hyz, HZ⟩ := hrel
          by_cases hlt2 : k < l.length
          · obtain ⟨b, o, rfl, hb, cc⟩ := F.out k hlt2
            have c1 := (B2.out.cell (by exact hb)).trans cc
            have hb2 : b < w2.heap.size := Nat.lt_of_lt_of_le hb B2.out.size
            have hv := HIN.out l[k] (List.getElem_mem hlt2)
            unfold inI at hv
            have hi2 : (k : Int) < (l.length : Int) := by omega
            by_cases hbig : 1152921504606846976 < l[k]
            · have d1 : decide (1152921504606846976 < l[k]) = true := decide_eq_true hbig
              clear cc HZ
              generalize l[k] = v at *
              go_wp2_with fail
              go_ret
              exact ⟨rfl, B2.out⟩
            · have d1 : decide (1152921504606846976 < l[k]) = false := decide_eq_false hbig
              have HZ2 : Hid (∀ i (h : i < l.length), i < k + 1 → l[i] < max z (l[k] + 1)) := Lib.hid (fun i h hik => by
                by_cases e : i = k
                · subst e; omega
                · have := HZ.out i h (by omega); omega)
              have ew : IntKind.i64.wrap (l[k] + 1) = l[k] + 1 := by rw [IntKind.wrap_i64]; omega
              clear cc HZ
              generalize l[k] = v at *
              go_wp2_with fail
              go_round
              case rel => exact ⟨k + 1, max z (v + 1), rfl, by go_num, by omega, by omega, by omega, by omega, HZ2⟩
              case measure => simp [intOf] <;> omega
          · have HV2 : Hid (∀ j l', j < m + 1 → [x0, x1, x2][j]? = some l' → ∀ v ∈ l', v < z) := Lib.hid (fun j l' hj hjl v hv => by
              by_cases e : j = m
              · subst e
                rw [HL.out] at hjl
                cases hjl
                obtain ⟨i, hi, rfl⟩ := List.mem_iff_getElem.1 hv
                exact HZ.out i hi (by omega)
              · have := HV.out j l' (by omega) hjl v hv
                omega)
            clear HZ HV
            go_wp2_with fail
            go_round
            case rel => exact ⟨m + 1, z, rfl, by go_num, by omega, hz1, hz2, HV2⟩
            case measure => simp [intOf] <;> omega
      · have n0 : y ∉ x0 := fun h => by have := HV.out 0 x0 (by omega) rfl y h; omega
        have n1 : y ∉ x1 := fun h => by have := HV.out 1 x1 (by omega) rfl y h; omega
        have n2 : y ∉ x2 := fun h => by have := HV.out 2 x2 (by omega) rfl y h; omega
        have HA1 := Lib.hid (merge_ahead y x0 x1 x2)
        have HB1 := Lib.hid (merge_behind y x0 x1 x2 n0 n1 n2)
        have HM := Lib.hid (fun w' h => K.merge _ _ _ x0 x1 x2 w' (W0.out.below h) (W1.out.below h) (W2.out.below h) (by omega) (by omega) (by omega))
        clear n0 n1 n2 HV HL3
        go_wp2_with fail
        obtain ⟨ms, ok, hM⟩ : ∃ ms ok, merge x0 x1 x2 = (ms, ok) := ⟨_, _, rfl⟩
        have hml := merge_len x0 x1 x2
        rw [hM] at hml HA1 HB1
        simp only at hml HA1 HB1
        unfold MergeOk at HM
        rw [hM] at HM
        clear hM
        cases ok with
        | false =>
          simp only [Bool.false_eq_true, if_false] at HA1 HB1
          refine (HM.out _ B2.out).mono ?_
          rintro e w3 ⟨v3, rfl, r3, hb⟩
          have B3 := Lib.hid (B2.out.trans (hb.mono B2.out.size))
          have R3 := Lib.hid r3
          clear hb r3 HM B2
          obtain ⟨u1, wa, q1, z1, hb1⟩ := cons_run y (W0.out.below B3.out) (by omega)
          have B4 := Lib.hid (B3.out.trans (hb1.mono B3.out.size))
          obtain ⟨u2, wb, q2, z2, hb2⟩ := cons_run y (W1.out.below B4.out) (by omega)
          have B5 := Lib.hid (B4.out.trans (hb2.mono B4.out.size))
          obtain ⟨u3, wd, q3, z3, hb3⟩ := cons_run y (W2.out.below B5.out) (by omega)
          have B6 := Lib.hid (B5.out.trans (hb3.mono B5.out.size))
          have K6 := Lib.hid ((hb1.trans (hb2.mono hb1.size)).trans (hb3.mono (Nat.le_trans hb1.size hb2.size)))
          have hma := K.merge u1 u2 u3 (y :: x0) (y :: x1) (y :: x2) wd ((z1.below hb2).below hb3) (z2.below hb3) z3 (by simp; omega) (by simp; omega) (by simp; omega)
          unfold MergeOk at hma
          rw [HA1.out] at hma
          have HMA := Lib.hid hma
          have R3 := Lib.hid (R3.out.below K6.out)
          clear hma hb1 hb2 hb3 z1 z2 z3 HA1 K6
          go_wp2_with (first
            | (at_builtin; refine Lib.wpList_append_run _ rfl (.tmp 79) (.tmp 80) _ _ rfl _ _ rfl rfl _ _ (q1 _) ?_)
            | (at_builtin; refine Lib.wpList_append_run _ rfl (.tmp 83) (.tmp 84) _ _ rfl _ _ rfl rfl _ _ (q2 _) ?_)
            | (at_builtin; refine Lib.wpList_append_run _ rfl (.tmp 87) (.tmp 88) _ _ rfl _ _ rfl rfl _ _ (q3 _) ?_))
          refine HMA.out.mono ?_
          rintro e w7 ⟨v7, rfl, r7, hb⟩
          have B7 := Lib.hid (B6.out.trans (hb.mono B6.out.size))
          have R3 := Lib.hid (R3.out.below hb)
          have R7 := Lib.hid r7
          clear hb r7 HMA q1 q2 q3
          obtain ⟨s1, we, s2, wf, q1, q2, z1, hb1⟩ := snoc_run y (W0.out.below B7.out) (by omega)
          have B8 := Lib.hid (B7.out.trans (hb1.mono B7.out.size))
          obtain ⟨s3, wg, s4, wh, q3, q4, z2, hb2⟩ := snoc_run y (W1.out.below B8.out) (by omega)
          have B9 := Lib.hid (B8.out.trans (hb2.mono B8.out.size))
          obtain ⟨s5, wi, s6, wj, q5, q6, z3, hb3⟩ := snoc_run y (W2.out.below B9.out) (by omega)
          have B10 := Lib.hid (B9.out.trans (hb3.mono B9.out.size))
          have K10 := Lib.hid ((hb1.trans (hb2.mono hb1.size)).trans (hb3.mono (Nat.le_trans hb1.size hb2.size)))
          have hmb := K.merge s2 s4 s6 (x0 ++ [y]) (x1 ++ [y]) (x2 ++ [y]) wj ((z1.below hb2).below hb3) (z2.below hb3) z3 (by simp; omega) (by simp; omega) (by simp; omega)
          unfold MergeOk at hmb
          rw [HB1.out] at hmb
          have HMB := Lib.hid hmb
          have R3 := Lib.hid (R3.out.below K10.out)
          have R7 := Lib.hid (R7.out.below K10.out)
          clear hmb hb1 hb2 hb3 z1 z2 z3 HB1 K10
          go_wp2_with (first
            | (at_builtin; refine Lib.wpList_append_run _ rfl (.tmp 94) (.tmp 95) _ _ rfl _ _ rfl rfl _ _ (q1 _) ?_)
            | (at_builtin; refine Lib.wpList_append_run _ rfl (.tmp 96) (.tmp 98) _ _ rfl _ _ rfl rfl _ _ (q2 _) ?_)
            | (at_builtin; refine Lib.wpList_append_run _ rfl (.tmp 100) (.tmp 101) _ _ rfl _ _ rfl rfl _ _ (q3 _) ?_)
            | (at_builtin; refine Lib.wpList_append_run _ rfl (.tmp 102) (.tmp 104) _ _ rfl _ _ rfl rfl _ _ (q4 _) ?_)
            | (at_builtin; refine Lib.wpList_append_run _ rfl (.tmp 106) (.tmp 107) _ _ rfl _ _ rfl rfl _ _ (q5 _) ?_)
            | (at_builtin; refine Lib.wpList_append_run _ rfl (.tmp 108) (.tmp 110) _ _ rfl _ _ rfl rfl _ _ (q6 _) ?_))
          refine HMB.out.mono ?_
          rintro e w11 ⟨v11, rfl, r11, hb⟩
          have B11 := Lib.hid (B10.out.trans (hb.mono B10.out.size))
          have R3 := Lib.hid (R3.out.below hb)
          have R7 := Lib.hid (R7.out.below hb)
          have R11 := Lib.hid r11
          clear hb r11 HMB q1 q2 q3 q4 q5 q6
          obtain ⟨ao3, c3, hv3⟩ := R3.out.len
          subst hv3
          clear R3 R7 R11
          go_wp2_with fail
          go_ret
          exact ⟨rfl, B11.out⟩
        | true =>
          simp only [if_true] at HA1 HB1
          refine (HM.out _ B2.out).mono ?_
          rintro e w3 ⟨v3, rfl, r3, hb⟩
          have B3 := Lib.hid (B2.out.trans (hb.mono B2.out.size))
          have R3 := Lib.hid r3
          clear hb r3 HM B2
          obtain ⟨u1, wa, q1, z1, hb1⟩ := cons_run y (W0.out.below B3.out) (by omega)
          have B4 := Lib.hid (B3.out.trans (hb1.mono B3.out.size))
          obtain ⟨u2, wb, q2, z2, hb2⟩ := cons_run y (W1.out.below B4.out) (by omega)
          have B5 := Lib.hid (B4.out.trans (hb2.mono B4.out.size))
          obtain ⟨u3, wd, q3, z3, hb3⟩ := cons_run y (W2.out.below B5.out) (by omega)
          have B6 := Lib.hid (B5.out.trans (hb3.mono B5.out.size))
          have K6 := Lib.hid ((hb1.trans (hb2.mono hb1.size)).trans (hb3.mono (Nat.le_trans hb1.size hb2.size)))
          have hma := K.merge u1 u2 u3 (y :: x0) (y :: x1) (y :: x2) wd ((z1.below hb2).below hb3) (z2.below hb3) z3 (by simp; omega) (by simp; omega) (by simp; omega)
          unfold MergeOk at hma
          rw [HA1.out] at hma
          have HMA := Lib.hid hma
          have R3 := Lib.hid (R3.out.below K6.out)
          clear hma hb1 hb2 hb3 z1 z2 z3 HA1 K6
          go_wp2_with (first
            | (at_builtin; refine Lib.wpList_append_run _ rfl (.tmp 79) (.tmp 80) _ _ rfl _ _ rfl rfl _ _ (q1 _) ?_)
            | (at_builtin; refine Lib.wpList_append_run _ rfl (.tmp 83) (.tmp 84) _ _ rfl _ _ rfl rfl _ _ (q2 _) ?_)
            | (at_builtin; refine Lib.wpList_append_run _ rfl (.tmp 87) (.tmp 88) _ _ rfl _ _ rfl rfl _ _ (q3 _) ?_))
          refine HMA.out.mono ?_
          rintro e w7 ⟨v7, rfl, r7, hb⟩
          have B7 := Lib.hid (B6.out.trans (hb.mono B6.out.size))
          have R3 := Lib.hid (R3.out.below hb)
          have R7 := Lib.hid r7
          clear hb r7 HMA q1 q2 q3
          obtain ⟨s1, we, s2, wf, q1, q2, z1, hb1⟩ := snoc_run y (W0.out.below B7.out) (by omega)
          have B8 := Lib.hid (B7.out.trans (hb1.mono B7.out.size))
          obtain ⟨s3, wg, s4, wh, q3, q4, z2, hb2⟩ := snoc_run y (W1.out.below B8.out) (by omega)
          have B9 := Lib.hid (B8.out.trans (hb2.mono B8.out.size))
          obtain ⟨s5, wi, s6, wj, q5, q6, z3, hb3⟩ := snoc_run y (W2.out.below B9.out) (by omega)
          have B10 := Lib.hid (B9.out.trans (hb3.mono B9.out.size))
          have K10 := Lib.hid ((hb1.trans (hb2.mono hb1.size)).trans (hb3.mono (Nat.le_trans hb1.size hb2.size)))
          have hmb := K.merge s2 s4 s6 (x0 ++ [y]) (x1 ++ [y]) (x2 ++ [y]) wj ((z1.below hb2).below hb3) (z2.below hb3) z3 (by simp; omega) (by simp; omega) (by simp; omega)
          unfold MergeOk at hmb
          rw [HB1.out] at hmb
          have HMB := Lib.hid hmb
          have R3 := Lib.hid (R3.out.below K10.out)
          have R7 := Lib.hid (R7.out.below K10.out)
          clear hmb hb1 hb2 hb3 z1 z2 z3 HB1 K10
          go_wp2_with (first
            | (at_builtin; refine Lib.wpList_append_run _ rfl (.tmp 94) (.tmp 95) _ _ rfl _ _ rfl rfl _ _ (q1 _) ?_)
            | (at_builtin; refine Lib.wpList_append_run _ rfl (.tmp 96) (.tmp 98) _ _ rfl _ _ rfl rfl _ _ (q2 _) ?_)
            | (at_builtin; refine Lib.wpList_append_run _ rfl (.tmp 100) (.tmp 101) _ _ rfl _ _ rfl rfl _ _ (q3 _) ?_)
            | (at_builtin; refine Lib.wpList_append_run _ rfl (.tmp 102) (.tmp 104) _ _ rfl _ _ rfl rfl _ _ (q4 _) ?_)
            | (at_builtin; refine Lib.wpList_append_run _ rfl (.tmp 106) (.tmp 107) _ _ rfl _ _ rfl rfl _ _ (q5 _) ?_)
            | (at_builtin; refine Lib.wpList_append_run _ rfl (.tmp 108) (.tmp 110) _ _ rfl _ _ rfl rfl _ _ (q6 _) ?_))
          refine HMB.out.mono ?_
          rintro e w11 ⟨v11, rfl, r11, hb⟩
          have B11 := Lib.hid (B10.out.trans (hb.mono B10.out.size))
          have R3 := Lib.hid (R3.out.below hb)
          have R7 := Lib.hid (R7.out.below hb)
          have R11 := Lib.hid r11
          clear hb r11 HMB q1 q2 q3 q4 q5 q6
          obtain ⟨ao3, c3, hv3⟩ := R3.out.len
          subst hv3
          obtain ⟨t1, wk, q1, z1, hb1⟩ := cons_run y R3.out (by omega)
          have B12 := Lib.hid (B11.out.trans (hb1.mono B11.out.size))
          have hs := rsame3_any v7 t1 (y :: ms) (y :: ms) wk (R7.out.below hb1) z1 (by simp; omega) (by simp; omega)
          rw [decide_eq_true rfl] at hs
          have HS := Lib.hid hs
          have R3 := Lib.hid (R3.out.below hb1)
          have R11 := Lib.hid (R11.out.below hb1)
          clear hs hb1 z1 R7
          go_wp2_with (first
          | (at_builtin; refine wpList_append_guarded _ (by first | rfl | simp [Region.wanted, yielded]) (.tmp 128) (.tmp 129) _ _ rfl _ _ rfl rfl _ _ (q1 _) ?_))
          refine HS.out.mono ?_
          rintro e w13 ⟨rfl, n13, hw13⟩
          have D13 : Below wk.heap.size wk w13 := by rw [hw13]; exact below_drewN (Below.refl _ _) _
          have B13 := Lib.hid (B12.out.trans (D13.mono B12.out.size))
          obtain ⟨t2, wl, t3, wm, q2, q3, z1, hb1⟩ := snoc_run y (R3.out.below D13) (by omega)
          have B14 := Lib.hid (B13.out.trans (hb1.mono B13.out.size))
          have hs := rsame3_any v11 t3 (ms ++ [y]) (ms ++ [y]) wm ((R11.out.below D13).below hb1) z1 (by simp; omega) (by simp; omega)
          rw [decide_eq_true rfl] at hs
          have HS2 := Lib.hid hs
          clear hs hb1 z1 D13 hw13 HS q1
          go_wp2_with (first
          | (at_builtin; refine wpList_append_guarded _ (by first | rfl | simp [Region.wanted, yielded]) (.tmp 134) (.tmp 135) _ _ rfl _ _ rfl rfl _ _ (q2 _) ?_)
          | (at_builtin; refine wpList_append_guarded _ (by first | rfl | simp [Region.wanted, yielded]) (.tmp 136) (.tmp 138) _ _ rfl _ _ rfl rfl _ _ (q3 _) ?_))
          refine HS2.out.mono ?_
          rintro e w15 ⟨rfl, n15, hw15⟩
          have B15 : Hid (Below w.heap.size w w15) := Lib.hid (by rw [hw15]; exact below_drewN B14.out _)
          clear hw15
          go_wp2_with fail
          go_ret
          exact ⟨rfl, B15.out⟩

end Go.Proofs.Ytbfclmhcoelplaa.Wv
