/-
  THE WALK of LcsMost, on what is asked of the program's Length, Pairs, Dice.
-/
import Derived.Test.YtgmonfeookljmaaLcTold
import Derived.Test.YtgmonfeookljmaaCmSlice
namespace Go.Proofs.Ytgmonfeookljmaa.Lc
open Go.RowKit Go.Proofs.Ytgmonfeookljmaa.Cm
set_option linter.unusedVariables false

theorem pow_wrap (n : Nat) (h : n ≤ 9) : ∃ P : Nat, 2 ^ n = P ∧ P ≤ 512 ∧ wrap64 ((2 : Int) ^ n) = (P : Int) := by
  have hP : 2 ^ n ≤ 512 := Nat.le_trans (Nat.pow_le_pow_right (by decide) h) (by decide)
  have e : (2 : Int) ^ n = ((2 ^ n : Nat) : Int) := by simp
  refine ⟨2 ^ n, rfl, hP, ?_⟩
  rw [e]
  generalize 2 ^ n = P at *
  unfold wrap64
  omega
theorem i64_and1 (n : Int) : bits .and .i64 n 1 = n % 2 := by
  have h1 : (BitVec.ofInt 64 1).toNat = 2 ^ 1 - 1 := by decide
  have key : (BitVec.ofInt 64 n &&& BitVec.ofInt 64 1).toNat = (n % ((2 ^ 64 : Nat) : Int)).toNat % 2 ^ 1 := by
    rw [BitVec.toNat_and, BitVec.toNat_ofInt, h1, Nat.and_two_pow_sub_one_eq_mod]
  show IntKind.i64.wrap ((BitVec.ofInt 64 n &&& BitVec.ofInt 64 1).toNat : Nat) = n % 2
  rw [key, IntKind.wrap_i64]
  omega
theorem bit_at (q i : Nat) : bits .and .i64 ((q : Int) / 2 ^ i) 1 = ((q / 2 ^ i % 2 : Nat) : Int) := by
  rw [i64_and1]
  have : ((q : Int) / 2 ^ i) = ((q / 2 ^ i : Nat) : Int) := by simp
  rw [this]
  omega
/-- What a choice comes to, from a place on. -/
structure Go (a b : List Int) (q i at' n : Nat) (ok : Bool) : Prop where
  fit : fits (choose a q) b = (ok && fits (choose (a.drop i) (q / 2 ^ i)) (b.drop at'))
  len : n + (choose (a.drop i) (q / 2 ^ i)).length = (choose a q).length
theorem Go.start (a b : List Int) (q : Nat) : Go a b q 0 0 0 true := ⟨by simp, by simp⟩
theorem half (q i : Nat) : q / 2 ^ i / 2 = q / 2 ^ (i + 1) := by rw [Nat.div_div_eq_div_mul, ← Nat.pow_succ]
theorem Go.skip {a b : List Int} {q i at' n : Nat} {ok : Bool} (g : Go a b q i at' n ok) (hi : i < a.length) (h : q / 2 ^ i % 2 ≠ 1) : Go a b q (i + 1) at' n ok := by
  have hd : a.drop i = a[i] :: a.drop (i + 1) := List.drop_eq_getElem_cons hi
  have hc : choose (a.drop i) (q / 2 ^ i) = choose (a.drop (i + 1)) (q / 2 ^ (i + 1)) := by rw [hd, choose, if_neg h, half]
  exact ⟨by rw [← hc]; exact g.fit, by rw [← hc]; exact g.len⟩
theorem Go.take {a b : List Int} {q i at' n p : Nat} {ok : Bool} (g : Go a b q i at' n ok) (hi : i < a.length) (h : q / 2 ^ i % 2 = 1)
    (hs : seek (b.drop at') a[i] = if p < b.length then some (b.drop (p + 1)) else none) : Go a b q (i + 1) (p + 1) (n + 1) (ok && decide (p < b.length)) := by
  have hd : a.drop i = a[i] :: a.drop (i + 1) := List.drop_eq_getElem_cons hi
  have hc : choose (a.drop i) (q / 2 ^ i) = a[i] :: choose (a.drop (i + 1)) (q / 2 ^ (i + 1)) := by rw [hd, choose, if_pos h, half]
  refine ⟨?_, ?_⟩
  · rw [g.fit, hc, fits, hs]
    by_cases hp : p < b.length
    · rw [if_pos hp, decide_eq_true hp, Bool.and_true]
    · rw [if_neg hp, decide_eq_false hp, Bool.and_false, Bool.false_and]
  · have := g.len
    rw [hc, List.length_cons] at this
    omega
theorem Go.stop {a b : List Int} {q at' n : Nat} {ok : Bool} (g : Go a b q a.length at' n ok) : fits (choose a q) b = ok ∧ n = (choose a q).length := by
  have h1 := g.fit
  have h2 := g.len
  rw [List.drop_length] at h1 h2
  simp [choose, fits] at h1 h2
  exact ⟨h1, h2⟩
theorem seek_here {b : List Int} {p : Nat} (h : p < b.length) (x : Int) (e : b[p] = x) : seek (b.drop p) x = if p < b.length then some (b.drop (p + 1)) else none := by
  rw [List.drop_eq_getElem_cons h, seek, if_pos e, if_pos h]
theorem seek_past {b : List Int} {p : Nat} (h : p < b.length) (x : Int) (e : b[p] ≠ x) : seek (b.drop p) x = seek (b.drop (p + 1)) x := by
  conv => lhs; rw [List.drop_eq_getElem_cons h, seek, if_neg e]
theorem seek_out {b : List Int} {p : Nat} (h : ¬ p < b.length) (x : Int) : seek (b.drop p) x = if p < b.length then some (b.drop (p + 1)) else none := by
  rw [List.drop_eq_nil_of_le (by omega), seek, if_neg h]
set_option maxHeartbeats 6400000 in
set_option maxRecDepth 100000 in
theorem lcsMost_walk (K : ToldL) (w : World) (a0 : Value) (x0 : List Int) (w0 : Rz w a0 x0) (n0 : x0.length ≤ 9223372036854775807) (a1 : Value) (x1 : List Int) (w1 : Rz w a1 x1) (n1 : x1.length ≤ 9223372036854775807)  :
    Calls Try.prog 5 #[a0, a1] w fun e w' => e = .returned (.bool true) ∧ Below w.heap.size w w' := by
  have W0 := Lib.hid w0
  have W1 := Lib.hid w1
  clear w0 w1
  obtain ⟨ao0, c0, rfl⟩ := W0.out.len
  obtain ⟨ao1, c1, rfl⟩ := W1.out.len
  by_cases l0 : x0.length ≤ 9
  case neg =>
    have g0 : 9 < x0.length := by omega
    go_enter Try.func5, Try.ntmps5
    go_wp2_with fail
    refine (awake_any K _).mono ?_
    rintro e w1 ⟨rfl, hb⟩
    go_wp2_with fail
    refine (awake_any K _).mono ?_
    rintro e w2 ⟨rfl, hb2⟩
    go_wp2_with fail
    go_ret
    exact ⟨rfl, hb.trans (hb2.mono hb.size)⟩
  by_cases l1 : x1.length ≤ 60
  case neg =>
    have g1 : 60 < x1.length := by omega
    go_enter Try.func5, Try.ntmps5
    go_wp2_with fail
    refine (awake_any K _).mono ?_
    rintro e w1 ⟨rfl, hb⟩
    go_wp2_with fail
    refine (awake_any K _).mono ?_
    rintro e w2 ⟨rfl, hb2⟩
    go_wp2_with fail
    go_ret
    exact ⟨rfl, hb.trans (hb2.mono hb.size)⟩
  go_enter Try.func5, Try.ntmps5
  go_wp2_with fail
  refine (awake_any K _).mono ?_
  rintro e w1 ⟨rfl, hb⟩
  have B1 := Lib.hid hb
  clear hb
  have HL := Lib.hid (fun w' h => K.length _ _ x0 x1 w' (W0.out.below h) (W1.out.below h) (by omega) (by omega))
  have FA := Lib.hid (W0.out.below B1.out).at
  have FB := Lib.hid (W1.out.below B1.out).at
  obtain ⟨P, hP, hP5, eP⟩ := pow_wrap x0.length l0
  have HP := Lib.hid hP
  clear hP
  go_wp2_with fail
  go_loopw [5, 6] (fun s t wr => ∃ q : Nat, q ≤ P ∧ s = .int .i64 (best x0 x1 q) ∧ t = .int .i64 q ∧ Hid (Below w1.heap.size w1 wr)) (fun _ t _ => P - (intOf t).toNat)
  case atStart => exact ⟨0, by omega, rfl, rfl, Lib.hid (Below.refl _ _)⟩
  case round =>
    obtain ⟨q, hq, rfl, rfl, HB⟩ := hrel
    have hbl : best x0 x1 q ≤ 9 := Nat.le_trans (best_le _ _ _) (Nat.le_trans (lcs_le_left _ _) l0)
    by_cases hqP : q < P
    · have HN : Hid (best x0 x1 (q + 1) = max (best x0 x1 q) (if fits (choose x0 q) x1 then (choose x0 q).length else 0)) := Lib.hid rfl
      generalize best x0 x1 q = bq at *
      go_wp2_with fail
      go_loopw [7, 8, 9, 33] (fun s t u v wr => ∃ i at' n : Nat, ∃ ok, i ≤ x0.length ∧ v = .int .i64 i ∧ at' ≤ 61 + i ∧ n ≤ i ∧ s = .int .i64 at' ∧ t = .int .i64 n ∧ u = .bool ok ∧ Hid (Go x0 x1 q i at' n ok) ∧ Hid (Below w1.heap.size w1 wr)) (fun _ _ _ v _ => x0.length - (intOf v).toNat)
      case atStart => exact ⟨0, 0, 0, true, Nat.zero_le _, rfl, by omega, Nat.le_refl _, rfl, rfl, rfl, Lib.hid (Go.start _ _ _), HB⟩
      case round =>
        clear HB
        obtain ⟨i, at', n, ok, hi, rfl, hat, hn, rfl, rfl, rfl, HG, HB⟩ := hrel
        by_cases hil : i < x0.length
        · have hb := bit_at q i
          by_cases hbit : q / 2 ^ i % 2 = 1
          · have e1 : (bits .and .i64 ((q : Int) / 2 ^ i) 1 == 0) = false := by rw [hb, hbit]; rfl
            obtain ⟨ba, oa, hao, hba, fa⟩ := FA.out i hil
            obtain rfl := hao
            have Fa := Lib.hid fa
            have HT := Lib.hid (fun p hs => HG.out.take (p := p) hil hbit hs)
            have hi1 : (i : Int) < (x0.length : Int) := by omega
            clear hb fa hbit HG
            generalize x0[i] = av at *
            go_wp2_with fail
            go_loopw [7] (fun s wr => ∃ p : Nat, p ≤ 61 + i ∧ s = .int .i64 p ∧ Hid (seek (x1.drop at') av = seek (x1.drop p) av) ∧ Hid (Below w1.heap.size w1 wr)) (fun s _ => x1.length - (intOf s).toNat)
            case atStart => exact ⟨at', by omega, rfl, Lib.hid rfl, HB⟩
            case round =>
              clear HB
              obtain ⟨p, hp, rfl, HS, HB⟩ := hrel
              by_cases hpl : p < x1.length
              · obtain ⟨bb, ob, hbo, hbb, fb⟩ := FB.out p hpl
                obtain rfl := hbo
                have ka : wr.cell? ⟨ba, oa + i, none⟩ = some (.int .i64 av) := (HB.out.cell (by exact hba)).trans Fa.out
                have kb : wr.cell? ⟨bb, ob + p, none⟩ = some (.int .i64 x1[p]) := (HB.out.cell (by exact hbb)).trans fb
                have hp1 : (p : Int) < (x1.length : Int) := by omega
                have d1 : decide ((p : Int) < (x1.length : Int)) = true := decide_eq_true hp1
                have d2 : decide (p < x1.length) = true := decide_eq_true hpl
                by_cases he : x1[p] = av
                · have e2 : (x1[p] != av) = false := by simpa using he
                  have HG2 := Lib.hid (HT.out p (HS.out.trans (seek_here hpl av he)))
                  rw [d2, Bool.and_true] at HG2
                  clear he fb HS
                  generalize x1[p] = bv at *
                  go_wp2_with fail
                  go_quiet (fail)
                  have HB2 := Lib.hid (below_drewN HB.out nq)
                  cases ok with
                  | true =>
                    go_wp2_with fail
                    go_roundw
                    case rel => exact ⟨i + 1, p + 1, n + 1, true, by omega, by go_num, by omega, by omega, by go_num, by go_num, rfl, HG2, HB2⟩
                    case measure => simp [intOf] <;> omega
                  | false =>
                    go_wp2_with fail
                    go_roundw
                    case rel => exact ⟨i + 1, p + 1, n + 1, false, by omega, by go_num, by omega, by omega, by go_num, by go_num, rfl, HG2, HB2⟩
                    case measure => simp [intOf] <;> omega
                · have e2 : (x1[p] != av) = true := by simpa using he
                  have HS2 := Lib.hid (HS.out.trans (seek_past hpl av he))
                  clear he fb HS
                  generalize x1[p] = bv at *
                  go_wp2_with fail
                  go_quiet (fail)
                  go_wp2_with fail
                  go_roundw
                  case rel => exact ⟨p + 1, by omega, by go_num, HS2, Lib.hid (below_drewN HB.out _)⟩
                  case measure => simp [intOf] <;> omega
              · have d1 : decide ((p : Int) < (x1.length : Int)) = false := decide_eq_false (by omega)
                have d2 : decide (p < x1.length) = false := decide_eq_false hpl
                have HG2 := Lib.hid (HT.out p (HS.out.trans (seek_out hpl av)))
                rw [d2, Bool.and_false] at HG2
                have hpg : x1.length ≤ p := by omega
                clear HS
                go_wp2_with fail
                go_quiet (fail)
                have HB2 := Lib.hid (below_drewN HB.out nq)
                cases ok with
                | true =>
                  go_wp2_with fail
                  go_roundw
                  case rel => exact ⟨i + 1, p + 1, n + 1, false, by omega, by go_num, by omega, by omega, by go_num, by go_num, rfl, HG2, HB2⟩
                  case measure => simp [intOf] <;> omega
                | false =>
                  go_wp2_with fail
                  go_roundw
                  case rel => exact ⟨i + 1, p + 1, n + 1, false, by omega, by go_num, by omega, by omega, by go_num, by go_num, rfl, HG2, HB2⟩
                  case measure => simp [intOf] <;> omega
          · have e1 : (bits .and .i64 ((q : Int) / 2 ^ i) 1 == 0) = true := by rw [hb, beq_iff_eq]; omega
            have HG2 := Lib.hid (HG.out.skip hil hbit)
            clear hb hbit HG
            go_wp2_with fail
            go_roundw
            case rel => exact ⟨i + 1, at', n, ok, by omega, by go_num, by omega, by omega, rfl, rfl, rfl, HG2, HB⟩
            case measure => simp [intOf] <;> omega
        · obtain rfl : i = x0.length := by omega
          obtain ⟨g1, g2⟩ := HG.out.stop
          rw [g1, ← g2] at HN
          clear hil g1 g2 HG
          cases ok with
          | true =>
            rw [if_pos rfl] at HN
            have HX : Hid (max (bq : Int) (n : Int) = ((best x0 x1 (q + 1) : Nat) : Int)) := Lib.hid (by rw [HN.out]; omega)
            go_wp2_with fail
            go_roundw
            case rel => exact ⟨q + 1, by omega, by rw [← HX.out], by go_num, HB⟩
            case measure => simp [intOf] <;> omega
          | false =>
            rw [if_neg (by decide)] at HN
            have HX : Hid ((bq : Int) = ((best x0 x1 (q + 1) : Nat) : Int)) := Lib.hid (by rw [HN.out]; omega)
            go_wp2_with fail
            go_roundw
            case rel => exact ⟨q + 1, by omega, by rw [← HX.out], by go_num, HB⟩
            case measure => simp [intOf] <;> omega
    · obtain rfl : q = P := by omega
      have hl := HL.out _ (B1.out.trans (HB.out.mono B1.out.size))
      have hbe := best_lcs x0 x1
      rw [HP.out] at hbe
      rw [← hbe] at hl
      have HL2 := Lib.hid hl
      have e1 : ((best x0 x1 q : Int) == (best x0 x1 q : Int)) = true := by simp
      have BW := Lib.hid (B1.out.trans (HB.out.mono B1.out.size))
      clear hqP hl hbe
      generalize best x0 x1 q = bq at *
      go_wp2_with fail
      refine HL2.out.mono ?_
      rintro e w5 ⟨rfl, hb5⟩
      have B5 := Lib.hid (BW.out.trans (hb5.mono BW.out.size))
      clear hb5
      go_wp2_with fail
      go_ret
      exact ⟨rfl, B5.out⟩

end Go.Proofs.Ytgmonfeookljmaa.Lc
