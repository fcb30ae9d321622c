/-
  THE WALK of LcsMore, on what is asked of the program's Length, Pairs, Dice.
-/
import Derived.Test.YtgmonfeookljmaaLcTold
namespace Go.Proofs.Ytgmonfeookljmaa.Lc
open Go.RowKit Go.Proofs.Ytgmonfeookljmaa.Cm
set_option linter.unusedVariables false

/-- append(append([]int{}, u...), x): its two runs. -/
theorem snoc_run {w1 : World} {u : Value} {ys : List Int} (x : Int) (hu : Rz w1 u ys) (hl : ys.length ≤ 1000) :
    ∃ v1 wB v2 wD, (∀ ty, (Builtin.append_ #[22, 22] ty #[.slice (some ⟨w1.heap.size, 0, none⟩) 0 0, u]).run Try.prog (w1.alloc (.cells #[] 3)) = .ok v1 wB) ∧
      (∀ ty, (Builtin.append_ #[22, 22] ty #[v1, .slice (some ⟨wB.heap.size, 0, none⟩) 1 1]).run Try.prog (wB.alloc (.cells #[.int .i64 x] 3)) = .ok v2 wD) ∧ Rz wD v2 (ys ++ [x]) ∧ Below w1.heap.size w1 wD := by
  have hBa : Below w1.heap.size w1 (w1.alloc (.cells #[] 3)) := (Below.refl _ _).alloc (Nat.le_refl _) _
  obtain ⟨v1, wB, r1, o1, g1⟩ := run_append_rz (w := w1.alloc (.cells #[] 3)) (B := w1.heap.size) (os := []) (World.ownsRow_lit w1 #[] 0 (Nat.le_refl _) (Nat.zero_le _) rfl) (hu.below hBa) (by simp) (by simp; omega)
  have hB1 := hBa.grown g1 (by simp) (fun k hk => by simp [Value.ownBlock] at hk; omega)
  have hB2 := hB1.alloc hB1.size (.cells #[.int .i64 x] 3)
  obtain ⟨v2, wD, r2, o2, g2⟩ := run_append_rz (w := wB.alloc (.cells #[.int .i64 x] 3)) (B := w1.heap.size) (os := [] ++ ys) (o1.alloc _) (rz_lit (w := wB) (xs := [x]) rfl) (by have := hB1.size; simp; omega) (by simp; omega)
  refine ⟨v1, wB, v2, wD, r1, r2, ?_, hB2.grown g2 (by have := hB1.size; simp; omega) (fun k hk => (o1.lt k hk).1)⟩
  have := Rz.of_own o2
  rwa [List.nil_append] at this
set_option maxHeartbeats 6400000 in
set_option maxRecDepth 100000 in
theorem lcsMore_walk (K : ToldL) (w : World) (a0 : Value) (x0 : List Int) (w0 : Rz w a0 x0) (n0 : x0.length ≤ 9223372036854775807) (a1 : Value) (x1 : List Int) (w1 : Rz w a1 x1) (n1 : x1.length ≤ 9223372036854775807) (a2 : Int) :
    Calls Try.prog 7 #[a0, a1, .int .i64 a2] w fun e w' => e = .returned (.bool true) ∧ Below w.heap.size w w' := by
  have W0 := Lib.hid w0
  have W1 := Lib.hid w1
  clear w0 w1
  obtain ⟨ao0, c0, rfl⟩ := W0.out.len
  obtain ⟨ao1, c1, rfl⟩ := W1.out.len
  by_cases l0 : x0.length ≤ 60
  case neg =>
    have g0 : 60 < x0.length := by omega
    go_enter Try.func7, Try.ntmps7
    go_wp2_with fail
    refine (awake_any K _).mono ?_
    rintro e w1 ⟨rfl, hb⟩
    go_wp2_with fail
    refine (awake_any K _).mono ?_
    rintro e w2 ⟨rfl, hb2⟩
    go_wp2_with fail
    go_ret
    exact ⟨rfl, hb.trans (hb2.mono hb.size)⟩
  by_cases l1 : x1.length ≤ 60
  case neg =>
    have g1 : 60 < x1.length := by omega
    go_enter Try.func7, Try.ntmps7
    go_wp2_with fail
    refine (awake_any K _).mono ?_
    rintro e w1 ⟨rfl, hb⟩
    go_wp2_with fail
    refine (awake_any K _).mono ?_
    rintro e w2 ⟨rfl, hb2⟩
    go_wp2_with fail
    go_ret
    exact ⟨rfl, hb.trans (hb2.mono hb.size)⟩
  go_enter Try.func7, Try.ntmps7
  go_wp2_with fail
  refine (awake_any K _).mono ?_
  rintro e w1 ⟨rfl, hb⟩
  have B1 := Lib.hid hb
  clear hb
  obtain ⟨n, hn⟩ : ∃ n, lcs x0 x1 = n := ⟨_, rfl⟩
  have hn60 : n ≤ 60 := by rw [← hn]; exact Nat.le_trans (lcs_le_left _ _) l0
  have HL := Lib.hid (fun w' h => K.length _ _ x0 x1 w' (W0.out.below h) (W1.out.below h) (by omega) (by omega))
  have hm1 := lcs_more x0 x1 a2
  have hm2 := lcs_mono (List.sublist_append_left x0 [a2]) (List.Sublist.refl x1)
  have hk1 := lcs_both x0 x1 a2
  rw [hn] at HL hm1 hm2 hk1
  have HK1 := Lib.hid hk1
  clear hn hk1
  go_wp2_with fail
  refine (HL.out _ B1.out).mono ?_
  rintro e w2 ⟨rfl, hb⟩
  have B2 := Lib.hid (B1.out.trans (hb.mono B1.out.size))
  clear hb
  obtain ⟨v1, wB, v2, wD, r1, r2, z2, hb2⟩ := snoc_run a2 (W0.out.below B2.out) (by omega)
  have B3 := Lib.hid (B2.out.trans (hb2.mono B2.out.size))
  have HM := Lib.hid (K.length _ _ (x0 ++ [a2]) x1 wD z2 (W1.out.below B3.out) (by simp; omega) (by omega))
  clear z2 hb2
  generalize lcs (x0 ++ [a2]) x1 = m at *
  go_wp2_with (first
    | (at_builtin; refine Lib.wpList_append_run _ rfl (.tmp 26) (.tmp 27) _ _ rfl _ _ rfl rfl _ _ (r1 _) ?_)
    | (at_builtin; refine Lib.wpList_append_run _ rfl (.tmp 28) (.tmp 30) _ _ rfl _ _ rfl rfl _ _ (r2 _) ?_))
  refine HM.out.mono ?_
  rintro e w5 ⟨rfl, hb⟩
  have B5 := Lib.hid (B3.out.trans (hb.mono B3.out.size))
  clear hb r1 r2
  obtain ⟨v3, wE, v4, wF, r3, r4, z4, hb4⟩ := snoc_run a2 (W0.out.below B5.out) (by omega)
  have B6 := Lib.hid (B5.out.trans (hb4.mono B5.out.size))
  obtain ⟨v5, wG, v6, wH, r5, r6, z6, hb6⟩ := snoc_run a2 (W1.out.below B6.out) (by omega)
  have B7 := Lib.hid (B6.out.trans (hb6.mono B6.out.size))
  have hl7 := K.length _ _ (x0 ++ [a2]) (x1 ++ [a2]) wH (z4.below hb6) z6 (by simp; omega) (by simp; omega)
  rw [HK1.out] at hl7
  have HN := Lib.hid hl7
  clear z4 hb4 z6 hb6 hl7
  go_wp2_with (first
    | (at_builtin; refine Lib.wpList_append_run _ rfl (.tmp 34) (.tmp 35) _ _ rfl _ _ rfl rfl _ _ (r3 _) ?_)
    | (at_builtin; refine Lib.wpList_append_run _ rfl (.tmp 36) (.tmp 38) _ _ rfl _ _ rfl rfl _ _ (r4 _) ?_)
    | (at_builtin; refine Lib.wpList_append_run _ rfl (.tmp 40) (.tmp 41) _ _ rfl _ _ rfl rfl _ _ (r5 _) ?_)
    | (at_builtin; refine Lib.wpList_append_run _ rfl (.tmp 42) (.tmp 44) _ _ rfl _ _ rfl rfl _ _ (r6 _) ?_))
  refine HN.out.mono ?_
  rintro e w8 ⟨rfl, hb⟩
  have B8 := Lib.hid (B7.out.trans (hb.mono B7.out.size))
  clear hb r3 r4 r5 r6
  obtain ⟨n1, hn1⟩ : ∃ n1, n + 1 = n1 := ⟨_, rfl⟩
  rw [hn1]
  have ew : IntKind.i64.wrap ((n : Int) + 1) = (n1 : Int) := by rw [IntKind.wrap_i64]; omega
  have e9 : ((n1 : Int) == (n1 : Int)) = true := by simp
  have e8 : ((n : Int) + 1 == (n1 : Int)) = true := by rw [beq_iff_eq]; omega
  have e7 : ((n1 : Int) == (n : Int) + 1) = true := by rw [beq_iff_eq]; omega
  by_cases hmn : m = n
  · have e1 : ((m : Int) == (n : Int)) = true := by rw [beq_iff_eq]; omega
    have HH := Lib.hid hmn
    have HH2 := Lib.hid hn1
    clear hmn hn1
    go_wp2_with fail
    go_ret
    exact ⟨rfl, B8.out⟩
  · have e1 : ((m : Int) == (n : Int)) = false := by rw [beq_eq_false_iff_ne]; omega
    have e2 : ((m : Int) == (n1 : Int)) = true := by rw [beq_iff_eq]; omega
    have e3 : ((m : Int) == (n : Int) + 1) = true := by rw [beq_iff_eq]; omega
    have HH := Lib.hid hmn
    have HH2 := Lib.hid hn1
    clear hmn hn1
    go_wp2_with fail
    go_ret
    exact ⟨rfl, B8.out⟩

end Go.Proofs.Ytgmonfeookljmaa.Lc
