/-
  THE WALK of LcsPairs, on what is asked of the program's Length, Pairs, Dice.
-/
import Derived.Test.YtgmonfeookljmaaLcTold
namespace Go.Proofs.Ytgmonfeookljmaa.Lc
open Go.RowKit Go.Proofs.Ytgmonfeookljmaa.Cm
set_option linter.unusedVariables false

set_option maxHeartbeats 6400000 in
set_option maxRecDepth 100000 in
theorem lcsPairs_walk (K : Told) (w : World) (a0 : Value) (x0 : List Int) (w0 : Rz w a0 x0) (n0 : x0.length ≤ 9223372036854775807) (a1 : Value) (x1 : List Int) (w1 : Rz w a1 x1) (n1 : x1.length ≤ 9223372036854775807)  :
    Calls Try.prog 4 #[a0, a1] w fun e w' => e = .returned (.bool true) ∧ Below w.heap.size w w' := by
  have W0 := Lib.hid w0
  have W1 := Lib.hid w1
  clear w0 w1
  obtain ⟨ao0, c0, rfl⟩ := W0.out.len
  obtain ⟨ao1, c1, rfl⟩ := W1.out.len
  by_cases l0 : x0.length ≤ 60
  case neg =>
    have g0 : 60 < x0.length := by omega
    go_enter Try.func4, Try.ntmps4
    go_wp2_with fail
    refine (awake_any K.toToldL _).mono ?_
    rintro e w1 ⟨rfl, hb⟩
    go_wp2_with fail
    refine (awake_any K.toToldL _).mono ?_
    rintro e w2 ⟨rfl, hb2⟩
    go_wp2_with fail
    go_ret
    exact ⟨rfl, hb.trans (hb2.mono hb.size)⟩
  by_cases l1 : x1.length ≤ 60
  case neg =>
    have g1 : 60 < x1.length := by omega
    go_enter Try.func4, Try.ntmps4
    go_wp2_with fail
    refine (awake_any K.toToldL _).mono ?_
    rintro e w1 ⟨rfl, hb⟩
    go_wp2_with fail
    refine (awake_any K.toToldL _).mono ?_
    rintro e w2 ⟨rfl, hb2⟩
    go_wp2_with fail
    go_ret
    exact ⟨rfl, hb.trans (hb2.mono hb.size)⟩
  go_enter Try.func4, Try.ntmps4
  go_wp2_with fail
  refine (awake_any K.toToldL _).mono ?_
  rintro e w1 ⟨rfl, hb⟩
  have B1 := Lib.hid hb
  clear hb
  obtain ⟨i0, hi, hz0, hz1, hz2⟩ := info_parts infoI
  obtain ⟨n, hn⟩ : ∃ n, lcs x0 x1 = n := ⟨_, rfl⟩
  have hn0 : n ≤ x0.length := by rw [← hn]; exact lcs_le_left _ _
  have hn1 : n ≤ x1.length := by rw [← hn]; exact lcs_le_right _ _
  have HN := Lib.hid hn
  have HL := Lib.hid (fun w' h => K.length _ _ x0 x1 w' (W0.out.below h) (W1.out.below h) (by omega) (by omega))
  have HBA := Lib.hid (fun w' h => K.length _ _ x1 x0 w' (W1.out.below h) (W0.out.below h) (by omega) (by omega))
  rw [lcs_comm x1 x0] at HBA
  rw [hn] at HL HBA
  have HP := Lib.hid (fun w' h => K.pairs _ _ x0 x1 w' (W0.out.below h) (W1.out.below h) (by omega) (by omega))
  clear hn
  go_wp2_with fail
  refine (HP.out _ B1.out).mono ?_
  rintro e w2 ⟨v2, rfl, r2, hb⟩
  have B2 := Lib.hid (B1.out.trans (hb.mono B1.out.size))
  have RL := Lib.hid r2
  obtain ⟨aol, cl, rfl⟩ := r2.len
  clear hb r2
  have Fx0 := Lib.hid (W0.out.below B2.out).at
  go_wp2_with fail
  go_loopw [6, 29] (fun v s wr => ∃ k : Nat, k ≤ x0.length ∧ s = .int .i64 k ∧ wr.ownsRow w2.heap.size 3 1 v (x0.reverse.take k).length ((x0.reverse.take k).map (Value.int .i64)) ∧ Hid (Below w2.heap.size w2 wr)) (fun _ s _ => x0.length - (intOf s).toNat)
  case atStart => exact ⟨0, Nat.zero_le _, rfl, World.ownsRow_nil _ _ _ _, Lib.hid (Below.refl _ _)⟩
  case round =>
    obtain ⟨k, hk, rfl, hown, HB⟩ := hrel
    have hBs := HB.out.size
    by_cases hlt : k < x0.length
    · obtain ⟨j, hj⟩ : ∃ j, x0.length - 1 - k = j := ⟨_, rfl⟩
      obtain ⟨l1, hl1⟩ : ∃ l1, x0.length - 1 = l1 := ⟨_, rfl⟩
      have hjl : j < x0.length := by omega
      obtain ⟨ba, oa, hao, hba, fa⟩ := Fx0.out j hjl
      obtain rfl := hao
      have ka : wr.cell? ⟨ba, oa + j, none⟩ = some (.int .i64 x0[j]) := (HB.out.cell (by exact hba)).trans fa
      have ew1 : IntKind.i64.wrap ((x0.length : Int) - 1) = (l1 : Int) := by rw [IntKind.wrap_i64]; omega
      have ew2 : IntKind.i64.wrap ((l1 : Int) - (k : Int)) = (j : Int) := by rw [IntKind.wrap_i64]; omega
      have hi1 : (j : Int) < (x0.length : Int) := by omega
      have HN : Hid (x0.reverse.take (k + 1) = x0.reverse.take k ++ [x0[j]]) := Lib.hid (by
        rw [List.take_add_one, List.getElem?_reverse hlt, hj, geti hjl]
        rfl)
      have hlk : (x0.reverse.take k).length = k := by rw [List.length_take, List.length_reverse]; omega
      have HLK := Lib.hid hlk
      have HJ := Lib.hid hj
      have HL1 := Lib.hid hl1
      have Ho := Lib.hid hown
      clear fa hlk hown hj hl1
      generalize x0[j] = av at *
      generalize x0.reverse.take k = os at *
      go_wp2_with (at_builtin; refine wpList_append_own _ rfl _ _ 22 rfl w2.heap.size 3 i0 (.int .i64 0) 1 8 Try.underlying22 hi hz0 hz1 hz2 rfl (by decide) _ _ _ rfl (Ho.out.alloc _) ⟨wr.heap.size, 0, none⟩ 1 1 [.int .i64 av] rfl rfl newsI1 newsI2 (by unfold maxLen; have := HLK.out; omega) (by have := HLK.out; omega) (by simp; omega) ?_)
      intro v' w9 hown' hgrow _
      have R := own_pushI Ho.out HB.out hBs hown' hgrow
      rw [← HN.out] at R
      have R1 := Lib.hid R.1
      have R2 := Lib.hid R.2
      clear R hown' hgrow
      go_wp2_with fail
      go_roundw
      case rel => exact ⟨k + 1, by omega, by go_num, R1.out, R2⟩
      case measure => simp [intOf] <;> omega
    · have hx : x0.reverse.take k = x0.reverse := List.take_of_length_le (by simp; omega)
      rw [hx] at hown
      obtain rfl : k = x0.length := by omega
      clear hlt hx
      have RX := Lib.hid (Rz.of_own hown)
      have BV := Lib.hid (B2.out.trans (HB.out.mono B2.out.size))
      have HBV := Lib.hid HB.out
      generalize hwv : wr = wv at *
      clear hown HB hwv
      have Fx1 := Lib.hid (W1.out.below BV.out).at
      go_wp2_with fail
      go_loopw [7, 46] (fun v s wr => ∃ k : Nat, k ≤ x1.length ∧ s = .int .i64 k ∧ wr.ownsRow wv.heap.size 3 1 v (x1.reverse.take k).length ((x1.reverse.take k).map (Value.int .i64)) ∧ Hid (Below wv.heap.size wv wr)) (fun _ s _ => x1.length - (intOf s).toNat)
      case atStart => exact ⟨0, Nat.zero_le _, rfl, World.ownsRow_nil _ _ _ _, Lib.hid (Below.refl _ _)⟩
      case round =>
        obtain ⟨k, hk, rfl, hown, HB⟩ := hrel
        have hBs := HB.out.size
        by_cases hlt : k < x1.length
        · obtain ⟨j, hj⟩ : ∃ j, x1.length - 1 - k = j := ⟨_, rfl⟩
          obtain ⟨l1, hl1⟩ : ∃ l1, x1.length - 1 = l1 := ⟨_, rfl⟩
          have hjl : j < x1.length := by omega
          obtain ⟨ba, oa, hao, hba, fa⟩ := Fx1.out j hjl
          obtain rfl := hao
          have ka : wr.cell? ⟨ba, oa + j, none⟩ = some (.int .i64 x1[j]) := (HB.out.cell (by exact hba)).trans fa
          have ew1 : IntKind.i64.wrap ((x1.length : Int) - 1) = (l1 : Int) := by rw [IntKind.wrap_i64]; omega
          have ew2 : IntKind.i64.wrap ((l1 : Int) - (k : Int)) = (j : Int) := by rw [IntKind.wrap_i64]; omega
          have hi1 : (j : Int) < (x1.length : Int) := by omega
          have HN : Hid (x1.reverse.take (k + 1) = x1.reverse.take k ++ [x1[j]]) := Lib.hid (by
            rw [List.take_add_one, List.getElem?_reverse hlt, hj, geti hjl]
            rfl)
          have hlk : (x1.reverse.take k).length = k := by rw [List.length_take, List.length_reverse]; omega
          have HLK := Lib.hid hlk
          have HJ := Lib.hid hj
          have HL1 := Lib.hid hl1
          have Ho := Lib.hid hown
          clear fa hlk hown hj hl1
          generalize x1[j] = av at *
          generalize x1.reverse.take k = os at *
          go_wp2_with (at_builtin; refine wpList_append_own _ rfl _ _ 22 rfl wv.heap.size 3 i0 (.int .i64 0) 1 8 Try.underlying22 hi hz0 hz1 hz2 rfl (by decide) _ _ _ rfl (Ho.out.alloc _) ⟨wr.heap.size, 0, none⟩ 1 1 [.int .i64 av] rfl rfl newsI1 newsI2 (by unfold maxLen; have := HLK.out; omega) (by have := HLK.out; omega) (by simp; omega) ?_)
          intro v' w9 hown' hgrow _
          have R := own_pushI Ho.out HB.out hBs hown' hgrow
          rw [← HN.out] at R
          have R1 := Lib.hid R.1
          have R2 := Lib.hid R.2
          clear R hown' hgrow
          go_wp2_with fail
          go_roundw
          case rel => exact ⟨k + 1, by omega, by go_num, R1.out, R2⟩
          case measure => simp [intOf] <;> omega
        · have hx : x1.reverse.take k = x1.reverse := List.take_of_length_le (by simp; omega)
          rw [hx] at hown
          obtain rfl : k = x1.length := by omega
          clear hlt hx
          have RY := Lib.hid (Rz.of_own hown)
          have BW := Lib.hid (BV.out.trans (HB.out.mono BV.out.size))
          have RX2 := Lib.hid (RX.out.below HB.out)
          have RL2 := Lib.hid (RL.out.below (HBV.out.trans (HB.out.mono HBV.out.size)))
          clear hown HB
          obtain ⟨aoy, cy, rfl⟩ := RY.out.len
          go_wp2_with fail
          refine (HL.out _ BW.out).mono ?_
          rintro e w5 ⟨rfl, hb⟩
          have B5 := Lib.hid (BW.out.trans (hb.mono BW.out.size))
          have HC := Lib.hid (common_any _ _ _ x0 x1 _ w5 (W0.out.below B5.out) (W1.out.below B5.out) (RL2.out.below hb) (by omega) (by omega) (by rw [pairs_len]; have := HN.out; omega) (pairs_ok x0 x1) (pairs_rise x0 x1))
          have RX5 := Lib.hid (RX2.out.below hb)
          have RY5 := Lib.hid (RY.out.below hb)
          clear hb
          go_wp2_with fail
          refine HC.out.mono ?_
          rintro e w6 ⟨rfl, n6, rfl⟩
          have e1 : (((pairs x0 x1).length : Int) == (n : Int)) = true := by rw [pairs_len, beq_iff_eq]; have := HN.out; omega
          have HXY := K.length _ _ x0.reverse x1.reverse (w5.drewN n6) (RX5.out.below (below_drewN (Below.refl _ _) _)) (RY5.out.below (below_drewN (Below.refl _ _) _)) (by simp; omega) (by simp; omega)
          rw [lcs_rev, HN.out] at HXY
          have HXY2 := Lib.hid HXY
          have e2 : ((n : Int) == (n : Int)) = true := by simp
          clear HXY HC
          generalize (pairs x0 x1).length = pl at *
          go_wp2_with fail
          refine calls_at (by simp) HXY2.out ?_
          rintro e w7 ⟨rfl, hb⟩
          have B7 := Lib.hid (B5.out.trans ((of_drewN hb).mono B5.out.size))
          clear hb
          go_wp2_with fail
          refine (HBA.out _ B7.out).mono ?_
          rintro e w8 ⟨rfl, hb⟩
          have B8 := Lib.hid (B7.out.trans (hb.mono B7.out.size))
          clear hb
          have d1 : decide ((n : Int) ≤ min (x0.length : Int) (x1.length : Int)) = true := decide_eq_true (by omega)
          go_wp2_with fail
          go_ret
          exact ⟨rfl, B8.out⟩

end Go.Proofs.Ytgmonfeookljmaa.Lc
