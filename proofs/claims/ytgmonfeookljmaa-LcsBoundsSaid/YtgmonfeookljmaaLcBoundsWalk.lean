/-
  THE WALK of LcsBounds, on what is asked of the program's Length, Pairs, Dice.
-/
import Derived.Test.YtgmonfeookljmaaLcTold
import Derived.Test.YtgmonfeookljmaaCmSlice
namespace Go.Proofs.Ytgmonfeookljmaa.Lc
open Go.RowKit Go.Proofs.Ytgmonfeookljmaa.Cm
set_option linter.unusedVariables false

theorem wrap_u64 (x : Int) (h0 : 0 ≤ x) (h1 : x ≤ 1000000) : IntKind.u64.wrap x = x := by
  unfold IntKind.wrap
  simp [IntKind.signed, IntKind.bits]
  omega
/-- Is a number among the first j? -/
def seen (b : List Int) (j : Nat) (x : Int) : Bool := (b.take j).contains x
theorem seen_next {b : List Int} {j : Nat} (h : j < b.length) (x : Int) : seen b (j + 1) x = (seen b j x || (x == b[j])) := by
  unfold seen
  rw [List.take_add_one, geti h, Bool.eq_iff_iff]
  simp only [Option.toList, List.contains_iff_mem, List.mem_append, List.mem_singleton, Bool.or_eq_true, beq_iff_eq]
/-- What is not in the other list. -/
def off (a b : List Int) : List Int := a.filter fun x => !b.contains x
theorem off_next {a b : List Int} {k : Nat} (h : k < a.length) : off (a.take (k + 1)) b = if b.contains a[k] then off (a.take k) b else off (a.take k) b ++ [a[k]] := by
  unfold off
  rw [List.take_add_one, geti h, List.filter_append]
  cases hc : b.contains a[k] with
  | true => rw [if_pos rfl]; simp; simpa using hc
  | false => rw [if_neg (by decide)]; simp; simpa using hc
theorem off_apart (a b : List Int) : ∀ x ∈ off a b, x ∉ b := by
  intro x hx hb
  have := (List.mem_filter.1 hx).2
  simp [hb] at this
set_option maxHeartbeats 6400000 in
set_option maxRecDepth 100000 in
theorem lcsBounds_walk (K : Told) (w : World) (a0 : Value) (x0 : List Int) (w0 : Rz w a0 x0) (n0 : x0.length ≤ 9223372036854775807) (a1 : Value) (x1 : List Int) (w1 : Rz w a1 x1) (n1 : x1.length ≤ 9223372036854775807) (a2 : Int) (a3 : Int) (f2 : (Lit.int .u64 a2).wf = true) (f3 : (Lit.int .u64 a3).wf = true) :
    Calls Try.prog 8 #[a0, a1, .int .u64 a2, .int .u64 a3] w fun e w' => e = .returned (.bool true) ∧ Below w.heap.size w w' := by
  have W0 := Lib.hid w0
  have W1 := Lib.hid w1
  clear w0 w1
  obtain ⟨ao0, c0, rfl⟩ := W0.out.len
  obtain ⟨ao1, c1, rfl⟩ := W1.out.len
  by_cases l0 : x0.length ≤ 60
  case neg =>
    have g0 : 60 < x0.length := by omega
    go_enter Try.func8, Try.ntmps8
    go_wp2_with fail
    refine (awake_any K.toToldL _).mono ?_
    rintro e w1 ⟨rfl, hb⟩
    go_wp2_with fail
    refine (awake_any K.toToldL _).mono ?_
    rintro e w2 ⟨rfl, hb2⟩
    go_wp2_with fail
    go_ret
    exact ⟨rfl, hb.trans (hb2.mono hb.size)⟩
  by_cases l1 : x1.length ≤ 60
  case neg =>
    have g1 : 60 < x1.length := by omega
    go_enter Try.func8, Try.ntmps8
    go_wp2_with fail
    refine (awake_any K.toToldL _).mono ?_
    rintro e w1 ⟨rfl, hb⟩
    go_wp2_with fail
    refine (awake_any K.toToldL _).mono ?_
    rintro e w2 ⟨rfl, hb2⟩
    go_wp2_with fail
    go_ret
    exact ⟨rfl, hb.trans (hb2.mono hb.size)⟩
  go_enter Try.func8, Try.ntmps8
  go_wp2_with fail
  refine (awake_any K.toToldL _).mono ?_
  rintro e w1 ⟨rfl, hb⟩
  have B1 := Lib.hid hb
  clear hb
  have hA : 0 ≤ a2 ∧ a2 ≤ 18446744073709551615 := by simpa [Lit.wf, IntKind.min, IntKind.max, IntKind.signed, IntKind.bits] using f2
  have hB : 0 ≤ a3 ∧ a3 ≤ 18446744073709551615 := by simpa [Lit.wf, IntKind.min, IntKind.max, IntKind.signed, IntKind.bits] using f3
  obtain ⟨m, hm⟩ : ∃ m, x0.length + 1 = m := ⟨_, rfl⟩
  obtain ⟨x, hx⟩ : ∃ x : Nat, a2.tmod (m : Int) = (x : Int) := ⟨(a2.tmod m).toNat, by rw [Int.tmod_eq_emod_of_nonneg hA.1]; have := Int.emod_nonneg a2 (show (m : Int) ≠ 0 by omega); omega⟩
  obtain ⟨y, hy⟩ : ∃ y : Nat, a3.tmod (m : Int) = (y : Int) := ⟨(a3.tmod m).toNat, by rw [Int.tmod_eq_emod_of_nonneg hB.1]; have := Int.emod_nonneg a3 (show (m : Int) ≠ 0 by omega); omega⟩
  have hxm : x < m := by
    have := Int.emod_lt_of_pos a2 (show (0 : Int) < (m : Int) by omega)
    rw [← Int.tmod_eq_emod_of_nonneg hA.1, hx] at this
    omega
  have hym : y < m := by
    have := Int.emod_lt_of_pos a3 (show (0 : Int) < (m : Int) by omega)
    rw [← Int.tmod_eq_emod_of_nonneg hB.1, hy] at this
    omega
  have hx2 : a2 % (m : Int) = (x : Int) := by rw [← hx, Int.tmod_eq_emod_of_nonneg hA.1]
  have hy2 : a3 % (m : Int) = (y : Int) := by rw [← hy, Int.tmod_eq_emod_of_nonneg hB.1]
  have ew : IntKind.i64.wrap ((x0.length : Int) + 1) = (m : Int) := by rw [IntKind.wrap_i64]; omega
  have eu : IntKind.u64.wrap (m : Int) = (m : Int) := wrap_u64 _ (by omega) (by omega)
  have eux : IntKind.u64.wrap (x : Int) = (x : Int) := wrap_u64 _ (by omega) (by omega)
  have euy : IntKind.u64.wrap (y : Int) = (y : Int) := wrap_u64 _ (by omega) (by omega)
  have eix : IntKind.i64.wrap (x : Int) = (x : Int) := by rw [IntKind.wrap_i64]; omega
  have eiy : IntKind.i64.wrap (y : Int) = (y : Int) := by rw [IntKind.wrap_i64]; omega
  have em0 : ((m : Int) == 0) = false := by rw [beq_eq_false_iff_ne]; omega
  have em1 : ¬ ((m : Int) = 0) := by omega
  have em2 : m ≠ 0 := by omega
  have HM := Lib.hid hm
  clear hA hB f2 f3 hm
  go_wp2_with fail
  go_quiet (fail)
  generalize hw2 : w1.drewN nq = w2
  have B2 : Hid (Below w.heap.size w w2) := Lib.hid (by rw [← hw2]; exact below_drewN B1.out _)
  clear hw2 B1
  obtain ⟨lo, hlo⟩ : ∃ lo, min x y = lo := ⟨_, rfl⟩
  obtain ⟨hi, hhi⟩ : ∃ hi, max x y = hi := ⟨_, rfl⟩
  have emin : min (x : Int) (y : Int) = (lo : Int) := by omega
  have emax : max (x : Int) (y : Int) = (hi : Int) := by omega
  have hm0 := HM.out
  obtain ⟨vp, hsl, hrp⟩ := slice_run W0.out lo hi (by omega) (by omega) (by omega)
  have HRP := Lib.hid hrp
  have hpl : ((x0.drop lo).take (hi - lo)).length ≤ 60 := by rw [List.length_take, List.length_drop]; omega
  have hps := lcs_part x0 x1 lo (hi - lo)
  obtain ⟨i0, hti, hz0, hz1, hz2⟩ := info_parts infoI
  have FA := Lib.hid (W0.out.below B2.out).at
  have FB := Lib.hid (W1.out.below B2.out).at
  have HLO := Lib.hid hlo
  have HHI := Lib.hid hhi
  clear hrp hlo hhi hx hy hx2 hy2 ew eu eux euy eix eiy em0 em1 em2 hm0
  generalize (x0.drop lo).take (hi - lo) = pt at *
  go_wp2_with fail
  go_loopw [12, 54] (fun v s wr => ∃ k : Nat, k ≤ x0.length ∧ s = .int .i64 k ∧ wr.ownsRow w2.heap.size 3 1 v (off (x0.take k) x1).length ((off (x0.take k) x1).map (Value.int .i64)) ∧ Hid (Below w2.heap.size w2 wr)) (fun _ s _ => x0.length - (intOf s).toNat)
  case atStart => exact ⟨0, Nat.zero_le _, rfl, World.ownsRow_nil _ _ _ _, Lib.hid (Below.refl _ _)⟩
  case round =>
    obtain ⟨k, hk, rfl, hown, HB⟩ := hrel
    by_cases hlt : k < x0.length
    · obtain ⟨ba, oa, hao, hba, fa⟩ := FA.out k hlt
      obtain rfl := hao
      have HON := Lib.hid (off_next (b := x1) hlt)
      have hol : (off (x0.take k) x1).length ≤ 60 := Nat.le_trans (List.length_filter_le _ _) (by rw [List.length_take]; omega)
      have Ho := Lib.hid hown
      have Fa := Lib.hid fa
      have hk1 : (k : Int) < (x0.length : Int) := by omega
      clear fa hown
      generalize x0[k] = av at *
      generalize off (x0.take k) x1 = os at *
      go_wp2_with fail
      go_loopw [14, 59] (fun f s wr => ∃ j : Nat, j ≤ x1.length ∧ s = .int .i64 j ∧ f = .bool (seen x1 j av) ∧ Hid (Below w2.heap.size w2 wr) ∧ Hid (wr.ownsRow w2.heap.size 3 1 u12 os.length (os.map (Value.int .i64)))) (fun _ s _ => x1.length - (intOf s).toNat)
      case atStart => exact ⟨0, Nat.zero_le _, rfl, rfl, HB, Ho⟩
      case round =>
        clear HB Ho
        obtain ⟨j, hj, rfl, rfl, HB, Ho⟩ := hrel
        by_cases hjl : j < x1.length
        · obtain ⟨bb, ob, hbo, hbb, fb⟩ := FB.out j hjl
          obtain rfl := hbo
          have ka : wr.cell? ⟨ba, oa + k, none⟩ = some (.int .i64 av) := (HB.out.cell (by exact hba)).trans Fa.out
          have kb : wr.cell? ⟨bb, ob + j, none⟩ = some (.int .i64 x1[j]) := (HB.out.cell (by exact hbb)).trans fb
          have HS := Lib.hid (seen_next hjl av)
          have hj1 : (j : Int) < (x1.length : Int) := by omega
          clear fb
          generalize x1[j] = bv at *
          cases hs : seen x1 j av with
          | true =>
            rw [hs, Bool.true_or] at HS
            go_wp2_with fail
            go_quiet (fail)
            go_wp2_with fail
            go_roundw
            case rel => exact ⟨j + 1, by omega, by go_num, by rw [HS.out], Lib.hid (below_drewN HB.out _), Lib.hid (own_drewN Ho.out _)⟩
            case measure => simp [intOf] <;> omega
          | false =>
            rw [hs, Bool.false_or] at HS
            go_wp2_with fail
            go_quiet (fail)
            go_wp2_with fail
            go_roundw
            case rel => exact ⟨j + 1, by omega, by go_num, by rw [HS.out], Lib.hid (below_drewN HB.out _), Lib.hid (own_drewN Ho.out _)⟩
            case measure => simp [intOf] <;> omega
        · obtain rfl : j = x1.length := by omega
          clear hjl
          have hsx : seen x1 x1.length av = x1.contains av := by unfold seen; rw [List.take_length]
          rw [hsx]
          have hBs := HB.out.size
          cases hc : x1.contains av with
          | true =>
            rw [hc, if_pos rfl] at HON
            have R1 : Hid (wr.ownsRow w2.heap.size 3 1 u12 (off (x0.take (k + 1)) x1).length ((off (x0.take (k + 1)) x1).map (Value.int .i64))) := Lib.hid (by rw [HON.out]; exact Ho.out)
            clear hc hsx
            go_wp2_with fail
            go_roundw
            case rel => exact ⟨k + 1, by omega, by go_num, R1.out, HB⟩
            case measure => simp [intOf] <;> omega
          | false =>
            rw [hc, if_neg (by decide)] at HON
            have ka : wr.cell? ⟨ba, oa + k, none⟩ = some (.int .i64 av) := (HB.out.cell (by exact hba)).trans Fa.out
            clear hc hsx
            go_wp2_with (at_builtin; refine wpList_append_own _ rfl _ _ 22 rfl w2.heap.size 3 i0 (.int .i64 0) 1 8 Try.underlying22 hti hz0 hz1 hz2 rfl (by decide) _ _ _ rfl (Ho.out.alloc _) ⟨wr.heap.size, 0, none⟩ 1 1 [.int .i64 av] rfl rfl newsI1 newsI2 (by unfold maxLen; omega) (by omega) (by simp; omega) ?_)
            intro v' w9 hown' hgrow _
            have R := own_pushI Ho.out HB.out hBs hown' hgrow
            rw [← HON.out] at R
            have R1 := Lib.hid R.1
            have R2 := Lib.hid R.2
            clear R hown' hgrow
            go_wp2_with fail
            go_roundw
            case rel => exact ⟨k + 1, by omega, by go_num, R1.out, R2⟩
            case measure => simp [intOf] <;> omega
    · have hx : x0.take k = x0 := List.take_of_length_le (by omega)
      rw [hx] at hown
      obtain rfl : k = x0.length := by omega
      clear hlt hx
      have RZ := Lib.hid (Rz.of_own hown)
      have BW := Lib.hid (B2.out.trans (HB.out.mono B2.out.size))
      have hz := lcs_apart (off_apart x0 x1)
      have hbd : lcs x0 x1 + (off x0 x1).length ≤ x0.length := lcs_bound x0 x1
      have hpz : (pairs (off x0 x1) x1).length = 0 := by rw [pairs_len, hz]
      have hdz : (off x0 x1).length + x1.length ≠ 0 → dice (off x0 x1) x1 = 0 := dice_zero hz
      have hol : (off x0 x1).length ≤ 60 := by omega
      have HL := Lib.hid (fun w' h => K.length _ _ x0 x1 w' (W0.out.below h) (W1.out.below h) (by omega) (by omega))
      have HLP := Lib.hid (fun w' h => K.length vp _ pt x1 w' (HRP.out w' h) (W1.out.below h) (by omega) (by omega))
      obtain ⟨av, ac, rfl⟩ := RZ.out.len
      have HLO2 := Lib.hid (fun w' (h : Below wr.heap.size wr w') => K.length _ _ (off x0 x1) x1 w' (RZ.out.below h) (W1.out.below (BW.out.trans (h.mono BW.out.size))) (by omega) (by omega))
      have HPO := Lib.hid (fun w' (h : Below wr.heap.size wr w') => K.pairs _ _ (off x0 x1) x1 w' (RZ.out.below h) (W1.out.below (BW.out.trans (h.mono BW.out.size))) (by omega) (by omega))
      have HDO := Lib.hid (fun w' (h : Below wr.heap.size wr w') => K.dice _ _ (off x0 x1) x1 w' (RZ.out.below h) (W1.out.below (BW.out.trans (h.mono BW.out.size))) (by omega) (by omega))
      rw [hz] at HLO2
      have HDZ := Lib.hid hdz
      clear hown hz hdz RZ
      generalize off x0 x1 = ap at *
      generalize lcs x0 x1 = n at *
      generalize lcs pt x1 = np at *
      go_wp2_with fail
      refine (HL.out _ BW.out).mono ?_
      rintro e w5 ⟨rfl, hb5⟩
      have C5 := Lib.hid hb5
      have B5 := Lib.hid (BW.out.trans (hb5.mono BW.out.size))
      clear hb5
      go_wp2_with fail
      refine (HLP.out _ B5.out).mono ?_
      rintro e w6 ⟨rfl, hb6⟩
      have C6 := Lib.hid (C5.out.trans (hb6.mono C5.out.size))
      have B6 := Lib.hid (B5.out.trans (hb6.mono B5.out.size))
      clear hb6
      have d1 : decide ((np : Int) ≤ (n : Int)) = true := decide_eq_true (by omega)
      have d2 : decide (np ≤ n) = true := decide_eq_true hps
      go_wp2_with fail
      refine (HLO2.out _ C6.out).mono ?_
      rintro e w7 ⟨rfl, hb7⟩
      have C7 := Lib.hid (C6.out.trans (hb7.mono C6.out.size))
      have B7 := Lib.hid (B6.out.trans (hb7.mono B6.out.size))
      clear hb7
      go_wp2_with fail
      refine (HPO.out _ C7.out).mono ?_
      rintro e w8 ⟨v8, rfl, r8, hb8⟩
      obtain ⟨a8, c8, hv8⟩ := r8.len
      rw [hpz] at hv8
      subst hv8
      have C8 := Lib.hid (C7.out.trans (hb8.mono C7.out.size))
      have B8 := Lib.hid (B7.out.trans (hb8.mono B7.out.size))
      clear hb8 r8
      have d3 : decide ((n : Int) ≤ (x0.length : Int) - (ap.length : Int)) = true := decide_eq_true (by omega)
      by_cases h0 : ap.length + x1.length = 0
      · have e0 : ((ap.length : Int) + (x1.length : Int) == 0) = true := by rw [beq_iff_eq]; omega
        go_wp2_with fail
        go_ret
        exact ⟨rfl, B8.out⟩
      · have e0 : ((ap.length : Int) + (x1.length : Int) == 0) = false := by rw [beq_eq_false_iff_ne]; omega
        have hd := HDO.out _ C8.out
        rw [HDZ.out h0] at hd
        have HD := Lib.hid hd
        clear hd h0
        go_wp2_with fail
        refine HD.out.mono ?_
        rintro e w9 ⟨rfl, hb9⟩
        have B9 := Lib.hid (B8.out.trans (hb9.mono B8.out.size))
        clear hb9
        go_wp2_with fail
        go_ret
        exact ⟨rfl, B9.out⟩

end Go.Proofs.Ytgmonfeookljmaa.Lc
