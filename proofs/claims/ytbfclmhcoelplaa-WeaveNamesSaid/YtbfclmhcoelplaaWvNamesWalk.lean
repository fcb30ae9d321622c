/-
  THE WALK of WeaveNames, on what is asked of the program's Chunks, Clean, Merge.
-/
import Derived.Test.YtbfclmhcoelplaaWvAwake
import Derived.Test.YtbfclmhcoelplaaWvMerge
import Derived.Test.YtbfclmhcoelplaaWvFar
import Derived.Test.YtbfclmhcoelplaaWvEnds
namespace Go.Proofs.Ytbfclmhcoelplaa.Wv
open Go.RowKit Go.Proofs.Ytbfclmhcoelplaa.Cm Go.Proofs.Ytbfclmhcoelplaa.Lc
set_option linter.unusedVariables false

theorem xor_is (x a : Int) : bits .xor .i64 x a = IntKind.i64.wrap ((BitVec.ofInt 64 x ^^^ BitVec.ofInt 64 a).toNat : Int) := rfl
theorem xor_inj {x y a : Int} (hx : inI x) (hy : inI y) (h : bits .xor .i64 x a = bits .xor .i64 y a) : x = y := by
  rw [xor_is, xor_is, IntKind.wrap_i64, IntKind.wrap_i64] at h
  have l1 := (BitVec.ofInt 64 x ^^^ BitVec.ofInt 64 a).isLt
  have l2 := (BitVec.ofInt 64 y ^^^ BitVec.ofInt 64 a).isLt
  have e1 : (BitVec.ofInt 64 x ^^^ BitVec.ofInt 64 a).toNat = (BitVec.ofInt 64 y ^^^ BitVec.ofInt 64 a).toNat := by
    generalize (BitVec.ofInt 64 x ^^^ BitVec.ofInt 64 a).toNat = p at *
    generalize (BitVec.ofInt 64 y ^^^ BitVec.ofInt 64 a).toNat = q at *
    omega
  have e2 := BitVec.eq_of_toNat_eq e1
  have e3 : BitVec.ofInt 64 x = BitVec.ofInt 64 y := by
    have := congrArg (· ^^^ BitVec.ofInt 64 a) e2
    simpa [BitVec.xor_assoc] using this
  have e4 := congrArg BitVec.toInt e3
  rw [BitVec.toInt_ofInt, BitVec.toInt_ofInt] at e4
  unfold inI at hx hy
  rw [Int.bmod_eq_of_le (by omega) (by omega), Int.bmod_eq_of_le (by omega) (by omega)] at e4
  exact e4
theorem xor_in (x a : Int) : inI (bits .xor .i64 x a) := by
  rw [xor_is, IntKind.wrap_i64]
  have l1 := (BitVec.ofInt 64 x ^^^ BitVec.ofInt 64 a).isLt
  unfold inI
  generalize (BitVec.ofInt 64 x ^^^ BitVec.ofInt 64 a).toNat = p at *
  omega
/-- Another name for each number. -/
def gg (a x : Int) : Int := if -9223372036854775808 ≤ x ∧ x ≤ 9223372036854775807 then bits .xor .i64 x a else x
theorem gg_inj (a : Int) : ∀ x y, gg a x = gg a y → x = y := by
  intro x y h
  unfold gg at h
  split at h
  · rename_i hx
    split at h
    · rename_i hy
      exact xor_inj hx hy h
    · rename_i hy
      have := xor_in x a
      rw [h] at this
      exact absurd this hy
  · rename_i hx
    split at h
    · rename_i hy
      have := xor_in y a
      rw [← h] at this
      exact absurd this hx
    · exact h
theorem map_gg (a : Int) (l : List Int) (h : ∀ x ∈ l, inI x) : l.map (fun x => bits .xor .i64 x a) = l.map (gg a) := by
  refine List.map_congr_left (fun x hx => ?_)
  exact (if_pos (h x hx)).symm
theorem take_map {f : Int → Int} {l : List Int} {k : Nat} (h : k < l.length) : (l.take (k + 1)).map f = (l.take k).map f ++ [f l[k]] := by
  rw [List.take_add_one, geti h, List.map_append]; rfl
set_option maxHeartbeats 6400000 in
set_option maxRecDepth 100000 in
theorem weaveNames_walk (K : Told) (w : World) (a0 : Value) (x0 : List Int) (w0 : Rz w a0 x0) (n0 : x0.length ≤ 9223372036854775807) (i0 : ∀ x ∈ x0, inI x) (a1 : Value) (x1 : List Int) (w1 : Rz w a1 x1) (n1 : x1.length ≤ 9223372036854775807) (i1 : ∀ x ∈ x1, inI x) (a2 : Value) (x2 : List Int) (w2 : Rz w a2 x2) (n2 : x2.length ≤ 9223372036854775807) (i2 : ∀ x ∈ x2, inI x) (a3 : Int) :
    Calls Try.prog 8 #[a0, a1, a2, .int .i64 a3] w fun e w' => e = .returned (.bool true) ∧ Below w.heap.size w w' := by
  have W0 := Lib.hid w0
  have W1 := Lib.hid w1
  have W2 := Lib.hid w2
  clear w0 w1 w2
  obtain ⟨ao0, c0, rfl⟩ := W0.out.len
  obtain ⟨ao1, c1, rfl⟩ := W1.out.len
  obtain ⟨ao2, c2, rfl⟩ := W2.out.len
  have HF := Lib.hid (fun w' (h : Below w.heap.size w w') => few5_any (.slice ao0 x0.length c0) (.slice ao1 x1.length c1) (.slice ao2 x2.length c2) x0 x1 x2 w' (W0.out.below h) (W1.out.below h) (W2.out.below h))
  cases hf : (decide ((x0 : List Int).length ≤ 40) && decide ((x1 : List Int).length ≤ 40) && decide ((x2 : List Int).length ≤ 40)) with
  | false =>
    rw [hf] at HF
    clear hf
    go_enter Try.func8, Try.ntmps8
    go_wp2_with fail
    refine (awake5_any K _).mono ?_
    rintro e w1 ⟨rfl, hb⟩
    have B1 := Lib.hid hb
    clear hb
    go_wp2_with fail
    refine (HF.out _ B1.out).mono ?_
    rintro e w2 ⟨rfl, rfl⟩
    go_wp2_with fail
    refine (awake5_any K _).mono ?_
    rintro e w2 ⟨rfl, hb2⟩
    have B2 := Lib.hid (B1.out.trans (hb2.mono B1.out.size))
    clear hb2
    go_wp2_with fail
    go_ret
    exact ⟨rfl, B2.out⟩
  | true =>
    rw [hf] at HF
    simp only [Bool.and_eq_true, decide_eq_true_eq] at hf
    obtain ⟨⟨l0, l1⟩, l2⟩ := hf
    go_enter Try.func8, Try.ntmps8
    go_wp2_with fail
    refine (awake5_any K _).mono ?_
    rintro e w1 ⟨rfl, hb⟩
    have B1 := Lib.hid hb
    clear hb
    go_wp2_with fail
    refine (HF.out _ B1.out).mono ?_
    rintro e w2 ⟨rfl, rfl⟩
    clear HF
    obtain ⟨j0, hi, hz0, hz1, hz2⟩ := info_parts infoI
    have F0 := Lib.hid W0.out.at
    have F1 := Lib.hid W1.out.at
    have F2 := Lib.hid W2.out.at
    have Bw1 := B1
    clear B1
    go_wp2_with fail
    go_loopw [9, 27] (fun v s wr => ∃ k : Nat, k ≤ x0.length ∧ s = .int .i64 k ∧ Hid (wr.ownsRow w1.heap.size 3 1 v ((x0.take k).map (fun x => bits .xor .i64 x a3)).length (((x0.take k).map (fun x => bits .xor .i64 x a3)).map (Value.int .i64))) ∧ Hid (Below w1.heap.size w1 wr)) (fun _ s _ => x0.length - (intOf s).toNat)
    case atStart => exact ⟨0, Nat.zero_le _, rfl, Lib.hid (World.ownsRow_nil _ _ _ _), Lib.hid (Below.refl _ _)⟩
    case round =>
      obtain ⟨k, hk, rfl, Ho, Hb⟩ := hrel
      have Hw := Lib.hid (Bw1.out.trans (Hb.out.mono Bw1.out.size))
      by_cases hlt : k < x0.length
      · obtain ⟨b, o, rfl, hb, cc⟩ := F0.out k hlt
        have c := (Hw.out.cell (by exact hb)).trans cc
        have HN := Lib.hid (take_map (f := fun x => bits .xor .i64 x a3) hlt)
        have hlk : ((x0.take k).map (fun x => bits .xor .i64 x a3)).length = k := by rw [List.length_map, List.length_take]; omega
        have HLK := Lib.hid hlk
        have hi1 : (k : Int) < (x0.length : Int) := by omega
        have hbw : b < wr.heap.size := Nat.lt_of_lt_of_le hb Hw.out.size
        have hB := Hb.out.size
        clear cc hlk
        generalize x0[k] = xv at *
        generalize (x0.take k).map (fun x => bits .xor .i64 x a3) = os at *
        obtain ⟨xx, hxx⟩ : ∃ xx, bits .xor .i64 xv a3 = xx := ⟨_, rfl⟩
        rw [hxx] at HN
        go_wp2_with (at_builtin; refine wpList_append_own _ rfl _ _ 22 rfl w1.heap.size 3 j0 (.int .i64 0) 1 8 Try.underlying22 hi hz0 hz1 hz2 rfl (by decide) _ _ _ rfl (Ho.out.alloc _) ⟨wr.heap.size, 0, none⟩ 1 1 [.int .i64 xx] rfl rfl newsI1 newsI2 (by unfold maxLen; have := HLK.out; omega) (by have := HLK.out; omega) (by simp; omega) ?_)
        intro v' w9 hown' hgrow _
        have R := own_pushI Ho.out Hb.out hB hown' hgrow
        rw [← HN.out] at R
        have R1 := Lib.hid R.1
        have R2 := Lib.hid R.2
        clear R hown' hgrow
        go_wp2_with fail
        go_roundw
        case rel => exact ⟨k + 1, by omega, by go_num, R1, R2⟩
        case measure => simp [intOf] <;> omega
      · obtain rfl : k = x0.length := by omega
        have R0 : Hid (Rz wr u9 (x0.map (gg a3))) := Lib.hid (by
          have := Rz.of_own Ho.out
          rwa [List.take_length, map_gg a3 x0 i0] at this)
        clear hlt Ho Hb F0 Bw1
        obtain ⟨wA, hnb⟩ : ∃ wA, wA = wr := ⟨_, rfl⟩
        subst hnb
        have BwA := Hw
        clear Hw
        go_wp2_with fail
        go_loopw [10, 42] (fun v s wr => ∃ k : Nat, k ≤ x1.length ∧ s = .int .i64 k ∧ Hid (wr.ownsRow wA.heap.size 3 1 v ((x1.take k).map (fun x => bits .xor .i64 x a3)).length (((x1.take k).map (fun x => bits .xor .i64 x a3)).map (Value.int .i64))) ∧ Hid (Below wA.heap.size wA wr)) (fun _ s _ => x1.length - (intOf s).toNat)
        case atStart => exact ⟨0, Nat.zero_le _, rfl, Lib.hid (World.ownsRow_nil _ _ _ _), Lib.hid (Below.refl _ _)⟩
        case round =>
          obtain ⟨k, hk, rfl, Ho, Hb⟩ := hrel
          have Hw := Lib.hid (BwA.out.trans (Hb.out.mono BwA.out.size))
          by_cases hlt : k < x1.length
          · obtain ⟨b, o, rfl, hb, cc⟩ := F1.out k hlt
            have c := (Hw.out.cell (by exact hb)).trans cc
            have HN := Lib.hid (take_map (f := fun x => bits .xor .i64 x a3) hlt)
            have hlk : ((x1.take k).map (fun x => bits .xor .i64 x a3)).length = k := by rw [List.length_map, List.length_take]; omega
            have HLK := Lib.hid hlk
            have hi1 : (k : Int) < (x1.length : Int) := by omega
            have hbw : b < wr.heap.size := Nat.lt_of_lt_of_le hb Hw.out.size
            have hB := Hb.out.size
            clear cc hlk
            generalize x1[k] = xv at *
            generalize (x1.take k).map (fun x => bits .xor .i64 x a3) = os at *
            obtain ⟨xx, hxx⟩ : ∃ xx, bits .xor .i64 xv a3 = xx := ⟨_, rfl⟩
            rw [hxx] at HN
            go_wp2_with (at_builtin; refine wpList_append_own _ rfl _ _ 22 rfl wA.heap.size 3 j0 (.int .i64 0) 1 8 Try.underlying22 hi hz0 hz1 hz2 rfl (by decide) _ _ _ rfl (Ho.out.alloc _) ⟨wr.heap.size, 0, none⟩ 1 1 [.int .i64 xx] rfl rfl newsI1 newsI2 (by unfold maxLen; have := HLK.out; omega) (by have := HLK.out; omega) (by simp; omega) ?_)
            intro v' w9 hown' hgrow _
            have R := own_pushI Ho.out Hb.out hB hown' hgrow
            rw [← HN.out] at R
            have R1 := Lib.hid R.1
            have R2 := Lib.hid R.2
            clear R hown' hgrow
            go_wp2_with fail
            go_roundw
            case rel => exact ⟨k + 1, by omega, by go_num, R1, R2⟩
            case measure => simp [intOf] <;> omega
          · obtain rfl : k = x1.length := by omega
            have R1 : Hid (Rz wr u10 (x1.map (gg a3))) := Lib.hid (by
              have := Rz.of_own Ho.out
              rwa [List.take_length, map_gg a3 x1 i1] at this)
            replace R0 := Lib.hid (R0.out.below Hb.out)
            clear hlt Ho Hb F1 BwA
            obtain ⟨wB, hnb⟩ : ∃ wB, wB = wr := ⟨_, rfl⟩
            subst hnb
            have BwB := Hw
            clear Hw
            go_wp2_with fail
            go_loopw [11, 57] (fun v s wr => ∃ k : Nat, k ≤ x2.length ∧ s = .int .i64 k ∧ Hid (wr.ownsRow wB.heap.size 3 1 v ((x2.take k).map (fun x => bits .xor .i64 x a3)).length (((x2.take k).map (fun x => bits .xor .i64 x a3)).map (Value.int .i64))) ∧ Hid (Below wB.heap.size wB wr)) (fun _ s _ => x2.length - (intOf s).toNat)
            case atStart => exact ⟨0, Nat.zero_le _, rfl, Lib.hid (World.ownsRow_nil _ _ _ _), Lib.hid (Below.refl _ _)⟩
            case round =>
              obtain ⟨k, hk, rfl, Ho, Hb⟩ := hrel
              have Hw := Lib.hid (BwB.out.trans (Hb.out.mono BwB.out.size))
              by_cases hlt : k < x2.length
              · obtain ⟨b, o, rfl, hb, cc⟩ := F2.out k hlt
                have c := (Hw.out.cell (by exact hb)).trans cc
                have HN := Lib.hid (take_map (f := fun x => bits .xor .i64 x a3) hlt)
                have hlk : ((x2.take k).map (fun x => bits .xor .i64 x a3)).length = k := by rw [List.length_map, List.length_take]; omega
                have HLK := Lib.hid hlk
                have hi1 : (k : Int) < (x2.length : Int) := by omega
                have hbw : b < wr.heap.size := Nat.lt_of_lt_of_le hb Hw.out.size
                have hB := Hb.out.size
                clear cc hlk
                generalize x2[k] = xv at *
                generalize (x2.take k).map (fun x => bits .xor .i64 x a3) = os at *
                obtain ⟨xx, hxx⟩ : ∃ xx, bits .xor .i64 xv a3 = xx := ⟨_, rfl⟩
                rw [hxx] at HN
                go_wp2_with (at_builtin; refine wpList_append_own _ rfl _ _ 22 rfl wB.heap.size 3 j0 (.int .i64 0) 1 8 Try.underlying22 hi hz0 hz1 hz2 rfl (by decide) _ _ _ rfl (Ho.out.alloc _) ⟨wr.heap.size, 0, none⟩ 1 1 [.int .i64 xx] rfl rfl newsI1 newsI2 (by unfold maxLen; have := HLK.out; omega) (by have := HLK.out; omega) (by simp; omega) ?_)
                intro v' w9 hown' hgrow _
                have R := own_pushI Ho.out Hb.out hB hown' hgrow
                rw [← HN.out] at R
                have R1 := Lib.hid R.1
                have R2 := Lib.hid R.2
                clear R hown' hgrow
                go_wp2_with fail
                go_roundw
                case rel => exact ⟨k + 1, by omega, by go_num, R1, R2⟩
                case measure => simp [intOf] <;> omega
              · obtain rfl : k = x2.length := by omega
                have R2 : Hid (Rz wr u11 (x2.map (gg a3))) := Lib.hid (by
                  have := Rz.of_own Ho.out
                  rwa [List.take_length, map_gg a3 x2 i2] at this)
                replace R0 := Lib.hid (R0.out.below Hb.out)
                replace R1 := Lib.hid (R1.out.below Hb.out)
                clear hlt Ho Hb F2 BwB
                obtain ⟨wC, hnb⟩ : ∃ wC, wC = wr := ⟨_, rfl⟩
                subst hnb
                have BwC := Hw
                clear Hw
                go_wp2_with fail
                have HC := Lib.hid (fun w' h => K.chunks _ _ _ x0 x1 x2 w' (W0.out.below h) (W1.out.below h) (W2.out.below h) (by omega) (by omega) (by omega))
                have HG := Lib.hid (fun w' h => K.chunks u9 u10 u11 (x0.map (gg a3)) (x1.map (gg a3)) (x2.map (gg a3)) w' (R0.out.below h) (R1.out.below h) (R2.out.below h) (by rw [List.length_map]; omega) (by rw [List.length_map]; omega) (by rw [List.length_map]; omega))
                rw [chunks_map (gg a3) (gg_inj a3)] at HG
                have hcl := chunks_len x0 x1 x2
                generalize chunks x0 x1 x2 = cs at *
                refine (HC.out _ BwC.out).mono ?_
                rintro e w2 ⟨v2, rfl, r2, hb⟩
                have K2 := Lib.hid (hb)
                have B2 := Lib.hid (BwC.out.trans (hb.mono BwC.out.size))
                have HL2 := Lib.hid (list5_any v2 cs w2 r2 (by omega))
                clear hb r2 HC
                go_wp2_with fail
                refine HL2.out.mono ?_
                rintro e w3 ⟨v3, rfl, r3, hb⟩
                have K3 := Lib.hid (K2.out.trans (hb.mono K2.out.size))
                have B3 := Lib.hid (B2.out.trans (hb.mono B2.out.size))
                have R3 := Lib.hid r3
                clear hb r3 HL2
                go_wp2_with fail
                refine (HG.out _ K3.out).mono ?_
                rintro e w4 ⟨v4, rfl, r4, hb⟩
                have B4 := Lib.hid (B3.out.trans (hb.mono B3.out.size))
                have R3 := Lib.hid (R3.out.below hb)
                have HL4 := Lib.hid (list5_any v4 cs w4 r4 (by omega))
                clear hb r4 HG
                go_wp2_with fail
                refine HL4.out.mono ?_
                rintro e w5 ⟨v5, rfl, r5, hb⟩
                have B5 := Lib.hid (B4.out.trans (hb.mono B4.out.size))
                have hs := rsameC_any v3 v5 cs cs w5 (R3.out.below hb) r5 (by omega) (by omega)
                rw [decide_eq_true rfl] at hs
                have HS := Lib.hid hs
                clear hb r5 hs HL4
                go_wp2_with fail
                refine HS.out.mono ?_
                rintro e w6 ⟨rfl, n6, rfl⟩
                have B6 := Lib.hid (below_drewN B5.out n6)
                go_wp2_with fail
                go_ret
                exact ⟨rfl, B6.out⟩

end Go.Proofs.Ytbfclmhcoelplaa.Wv
