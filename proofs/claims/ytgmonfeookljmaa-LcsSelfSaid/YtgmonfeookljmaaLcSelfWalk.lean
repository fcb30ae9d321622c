/-
  THE WALK of LcsSelf, on what is asked of the program's Length, Pairs, Dice.
-/
import Derived.Test.YtgmonfeookljmaaLcTold
import Derived.Test.YtgmonfeookljmaaCmSlice
namespace Go.Proofs.Ytgmonfeookljmaa.Lc
open Go.RowKit Go.Proofs.Ytgmonfeookljmaa.Cm
set_option linter.unusedVariables false

theorem wrap_u64s (x : Int) (h0 : 0 ≤ x) (h1 : x ≤ 1000000) : IntKind.u64.wrap x = x := by
  unfold IntKind.wrap
  simp [IntKind.signed, IntKind.bits]
  omega
theorem self_at (a : List Int) {i : Nat} (h : i < (pairs a a).length) : (pairs a a)[i] = (i, i) := by
  have h2 : (pairs a a)[i]? = some (i, i) := by
    rw [pairs_self, List.getElem?_map, List.getElem?_range (by rw [pairs_len, lcs_self] at h; exact h)]
    rfl
  exact (List.getElem?_eq_some_iff.1 h2).2
theorem sub_put (a more : List Int) (k : Nat) : List.Sublist a (a.take k ++ more ++ a.drop k) := by
  conv => lhs; rw [← List.take_append_drop k a]
  exact List.Sublist.append (List.sublist_append_left _ _) (List.Sublist.refl _)
set_option maxHeartbeats 6400000 in
set_option maxRecDepth 100000 in
theorem lcsSelf_walk (K : Told) (w : World) (a0 : Value) (x0 : List Int) (w0 : Rz w a0 x0) (n0 : x0.length ≤ 9223372036854775807) (a1 : Value) (x1 : List Int) (w1 : Rz w a1 x1) (n1 : x1.length ≤ 9223372036854775807) (a2 : Int) (f2 : (Lit.int .u64 a2).wf = true) :
    Calls Try.prog 6 #[a0, a1, .int .u64 a2] w fun e w' => e = .returned (.bool true) ∧ Below w.heap.size w w' := by
  have W0 := Lib.hid w0
  have W1 := Lib.hid w1
  clear w0 w1
  obtain ⟨ao0, c0, rfl⟩ := W0.out.len
  obtain ⟨ao1, c1, rfl⟩ := W1.out.len
  by_cases l0 : x0.length ≤ 60
  case neg =>
    have g0 : 60 < x0.length := by omega
    go_enter Try.func6, Try.ntmps6
    go_wp2_with fail
    refine (awake_any K.toToldL _).mono ?_
    rintro e w1 ⟨rfl, hb⟩
    go_wp2_with fail
    refine (awake_any K.toToldL _).mono ?_
    rintro e w2 ⟨rfl, hb2⟩
    go_wp2_with fail
    go_ret
    exact ⟨rfl, hb.trans (hb2.mono hb.size)⟩
  by_cases l1 : x1.length ≤ 60
  case neg =>
    have g1 : 60 < x1.length := by omega
    go_enter Try.func6, Try.ntmps6
    go_wp2_with fail
    refine (awake_any K.toToldL _).mono ?_
    rintro e w1 ⟨rfl, hb⟩
    go_wp2_with fail
    refine (awake_any K.toToldL _).mono ?_
    rintro e w2 ⟨rfl, hb2⟩
    go_wp2_with fail
    go_ret
    exact ⟨rfl, hb.trans (hb2.mono hb.size)⟩
  go_enter Try.func6, Try.ntmps6
  go_wp2_with fail
  refine (awake_any K.toToldL _).mono ?_
  rintro e w1 ⟨rfl, hb⟩
  have B1 := Lib.hid hb
  clear hb
  have hA : 0 ≤ a2 ∧ a2 ≤ 18446744073709551615 := by simpa [Lit.wf, IntKind.min, IntKind.max, IntKind.signed, IntKind.bits] using f2
  obtain ⟨m, hm⟩ : ∃ m, x0.length + 1 = m := ⟨_, rfl⟩
  obtain ⟨x, hx⟩ : ∃ x : Nat, a2.tmod (m : Int) = (x : Int) := ⟨(a2.tmod m).toNat, by rw [Int.tmod_eq_emod_of_nonneg hA.1]; have := Int.emod_nonneg a2 (show (m : Int) ≠ 0 by omega); omega⟩
  have hxm : x < m := by
    have := Int.emod_lt_of_pos a2 (show (0 : Int) < (m : Int) by omega)
    rw [← Int.tmod_eq_emod_of_nonneg hA.1, hx] at this
    omega
  have hx2 : a2 % (m : Int) = (x : Int) := by rw [← hx, Int.tmod_eq_emod_of_nonneg hA.1]
  have hxl : x ≤ x0.length := by omega
  have hx3 : a2 % ((x0.length : Int) + 1) = (x : Int) := by rw [← hx2, ← hm]; rfl
  have ew : IntKind.i64.wrap ((x0.length : Int) + 1) = (m : Int) := by rw [IntKind.wrap_i64]; omega
  have eu : IntKind.u64.wrap (m : Int) = (m : Int) := wrap_u64s _ (by omega) (by omega)
  have eux : IntKind.u64.wrap (x : Int) = (x : Int) := wrap_u64s _ (by omega) (by omega)
  have eix : IntKind.i64.wrap (x : Int) = (x : Int) := by rw [IntKind.wrap_i64]; omega
  have em0 : ((m : Int) == 0) = false := by rw [beq_eq_false_iff_ne]; omega
  have em1 : ¬ ((m : Int) = 0) := by omega
  have HP := Lib.hid (K.pairs _ _ x0 x0 w1 (W0.out.below B1.out) (W0.out.below B1.out) (by omega) (by omega))
  have hpl : (pairs x0 x0).length = x0.length := by rw [pairs_len, lcs_self]
  have HPL := Lib.hid hpl
  have HSA := Lib.hid (fun i h => self_at x0 (i := i) h)
  have HM := Lib.hid hm
  clear hA f2 hm hpl
  go_wp2_with fail
  refine HP.out.mono ?_
  rintro e w2 ⟨v2, rfl, r2, hb2⟩
  have B2 := Lib.hid (B1.out.trans (hb2.mono B1.out.size))
  have HD2 := K.dice _ _ x0 x0 w2 (W0.out.below B2.out) (W0.out.below B2.out) (by omega) (by omega)
  rw [dice_self] at HD2
  have HD := Lib.hid HD2
  have R2 := Lib.hid r2
  obtain ⟨al, cl, hv2⟩ := r2.len
  rw [HPL.out] at hv2
  subst hv2
  clear hb2 r2 HD2
  have e1 : ((x0.length : Int) != (x0.length : Int)) = false := by simp
  go_wp2_with fail
  refine HD.out.mono ?_
  rintro e w3 ⟨rfl, hb3⟩
  have B3 := Lib.hid (B2.out.trans (hb3.mono B2.out.size))
  have FL := Lib.hid (Rk.two (R2.out.below hb3))
  clear hb3
  go_wp2_with fail
  go_loop [40] (fun s => ∃ i : Nat, i ≤ x0.length ∧ s = .int .i64 i) (fun s => x0.length - (intOf s).toNat)
  case atStart => exact ⟨0, Nat.zero_le _, rfl⟩
  case round =>
    obtain ⟨i, hi, rfl⟩ := hrel
    by_cases hil : i < x0.length
    · have hip : i < (pairs x0 x0).length := by rw [HPL.out]; exact hil
      obtain ⟨bl, ol, hal, hbl, p1, p2⟩ := FL.out i hip
      rw [HSA.out i hip] at p1 p2
      obtain rfl := hal
      have e2 : ((i : Int) != (i : Int)) = false := by simp
      have hi1 : (i : Int) < (x0.length : Int) := by omega
      clear hip
      go_wp2_with fail
      go_round
      case rel => exact ⟨i + 1, by omega, by go_num⟩
      case measure => simp [intOf] <;> omega
    · obtain rfl : i = x0.length := by omega
      clear hil FL
      go_wp2_with fail
      obtain ⟨vt, hst, hrt⟩ := slice_to W0.out x hxl (by omega)
      obtain ⟨vf, hsf, hrf⟩ := slice_from W0.out x hxl (by omega)
      have hbA : Below w3.heap.size w3 (w3.alloc (.cells #[] 3)).drew := ((Below.refl _ _).alloc (Nat.le_refl _) _).drew
      have hBA := B3.out.trans (hbA.mono B3.out.size)
      have oA : ((w3.alloc (.cells #[] 3)).drew).ownsRow w3.heap.size 3 1 (.slice (some ⟨w3.heap.size, 0, none⟩) 0 0) ([] : List Int).length (([] : List Int).map (Value.int .i64)) := World.ownsRow_lit w3 #[] 0 (Nat.le_refl _) (Nat.zero_le _) rfl
      have ht1 : (x0.take x).length ≤ 60 := by rw [List.length_take]; omega
      have hd1 : (x0.drop x).length ≤ 60 := by rw [List.length_drop]; omega
      obtain ⟨v1, wB, q1, o1, g1⟩ := run_append_rz oA (hrt _ hBA) (by simp) (by simp at ht1 ⊢; omega)
      have hb1 := hbA.grown g1 (by simp) (fun k hk => (oA.lt k hk).1)
      have hB1 := B3.out.trans (hb1.mono B3.out.size)
      obtain ⟨v2, wC, q2, o2, g2⟩ := run_append_rz o1 (W1.out.below hB1) hb1.size (by simp at ht1 ⊢; omega)
      have hb2 := hb1.grown g2 hb1.size (fun k hk => (o1.lt k hk).1)
      have hB2 := B3.out.trans (hb2.mono B3.out.size)
      obtain ⟨v3, wD, q3, o3, g3⟩ := run_append_rz o2 (hrf _ hB2) hb2.size (by simp at ht1 hd1 ⊢; omega)
      have hb3 := hb2.grown g3 hb2.size (fun k hk => (o2.lt k hk).1)
      have BD := Lib.hid (B3.out.trans (hb3.mono B3.out.size))
      have RB := Lib.hid (Rz.of_own o3)
      rw [List.nil_append] at RB
      obtain ⟨bs, hbs⟩ : ∃ bs, x0.take x ++ x1 ++ x0.drop x = bs := ⟨_, rfl⟩
      rw [hbs] at RB
      have hsub : List.Sublist x0 bs := by rw [← hbs]; exact sub_put x0 x1 x
      have hbl : bs.length = x0.length + x1.length := by rw [← hbs, List.length_append, List.length_append, List.length_take, List.length_drop]; omega
      have hl1 := lcs_sub hsub
      have hl2 : lcs bs x0 = x0.length := by rw [lcs_comm]; exact hl1
      have hd := dice_sub hsub
      have H1 := Lib.hid (fun w' h h2 => K.length _ _ x0 bs w' (W0.out.below h) (RB.out.below h2) (by omega) (by omega))
      have H2 := Lib.hid (fun w' h h2 => K.length _ _ bs x0 w' (RB.out.below h2) (W0.out.below h) (by omega) (by omega))
      have H3 := Lib.hid (fun w' h h2 => K.dice _ _ x0 bs w' (W0.out.below h) (RB.out.below h2) (by omega) (by omega))
      rw [hl1] at H1
      rw [hl2] at H2
      obtain ⟨av, cv, rfl⟩ := RB.out.len
      have hdd : (dice x0 bs = 1000) ↔ x1.length = 0 := by rw [hd]; omega
      have HDD := Lib.hid hdd
      have HBL := Lib.hid hbl
      clear hrt hrf hbA hBA oA o1 g1 hb1 hB1 o2 g2 hb2 hB2 o3 g3 hb3 hbs hsub hl1 hl2 hd hdd hbl ht1 hd1
      generalize dice x0 bs = di at *
      generalize bs.length = bn at *
      go_region_law (first
        | (refine step_append_run rfl (.tmp 67) (.tmp 70) _ _ rfl _ _ rfl rfl _ _ q1 ?_)
        | (refine step_append_run rfl (.tmp 71) (.tmp 72) _ _ rfl _ _ rfl rfl _ _ q2 ?_)
        | (refine step_append_run rfl (.tmp 73) (.tmp 76) _ _ rfl _ _ rfl rfl _ _ q3 ?_))
      have e5 : ((x0.length : Int) == (x0.length : Int)) = true := by simp
      go_wp2_with fail
      refine (H1.out _ BD.out (Below.refl _ _)).mono ?_
      rintro e w5 ⟨rfl, hb5⟩
      have C5 := Lib.hid hb5
      have B5 := Lib.hid (BD.out.trans (hb5.mono BD.out.size))
      clear hb5
      go_wp2_with fail
      refine (H2.out _ B5.out C5.out).mono ?_
      rintro e w6 ⟨rfl, hb6⟩
      have C6 := Lib.hid (C5.out.trans (hb6.mono C5.out.size))
      have B6 := Lib.hid (B5.out.trans (hb6.mono B5.out.size))
      clear hb6
      go_wp2_with fail
      refine (H3.out _ B6.out C6.out).mono ?_
      rintro e w7 ⟨rfl, hb7⟩
      have B7 := Lib.hid (B6.out.trans (hb7.mono B6.out.size))
      clear hb7
      by_cases hx0 : x1.length = 0
      · have e6 : ((di : Int) == 1000) = true := by rw [beq_iff_eq]; have := HDD.out.2 hx0; omega
        have e7 : ((x1.length : Int) == 0) = true := by rw [beq_iff_eq]; omega
        clear hx0
        go_wp2_with fail
        go_ret
        exact ⟨rfl, B7.out⟩
      · have e6 : ((di : Int) == 1000) = false := by
          rw [beq_eq_false_iff_ne]
          intro h
          exact hx0 (HDD.out.1 (by omega))
        have e7 : ((x1.length : Int) == 0) = false := by rw [beq_eq_false_iff_ne]; omega
        clear hx0
        go_wp2_with fail
        go_ret
        exact ⟨rfl, B7.out⟩

end Go.Proofs.Ytgmonfeookljmaa.Lc
