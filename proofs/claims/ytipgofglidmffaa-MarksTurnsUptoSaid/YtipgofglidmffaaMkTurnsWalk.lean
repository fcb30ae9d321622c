/-
  THE WALK of the statement MarksTurns.
-/
import Derived.Test.YtipgofglidmffaaMkAwake
import Derived.Test.YtipgofglidmffaaMkHelp
import Derived.Test.YtipgofglidmffaaMkChoose
import Derived.Test.YtipgofglidmffaaMkSplit
import Derived.Test.YtipgofglidmffaaMkTurns
namespace Go.Proofs.Ytipgofglidmffaa.Mk
open Go.RowKit Go.Proofs.Ytipgofglidmffaa.Tk
open Go.Proofs.Ytipgofglidmffaa.Cm (calls_at alloc_new alloc_at cell_at lt_of_at)
set_option linter.unusedVariables false

set_option maxHeartbeats 6400000 in
set_option maxRecDepth 100000 in
theorem marksTurns_walk (w : World) (no nb nt : ByteArray) (z1 : no.size ≤ 1048576) (z2 : nb.size ≤ 1048576) (z3 : nt.size ≤ 1048576) (vB : Value) (B : List Tx) (rB : Rd w vB B) (lB : B.length ≤ 9223372036854775807) (vO : Value) (O : List Tx) (rO : Rd w vO O) (lO : O.length ≤ 9223372036854775807) (vT : Value) (T : List Tx) (rT : Rd w vT T) (lT : T.length ≤ 9223372036854775807) :
    Calls Try.prog 5 #[.agg #[.string no, .string nb, .string nt], vB, vO, vT] w fun e w' => e = .returned (.bool true) ∧ Below w.heap.size w w' := by
  obtain ⟨aB, cB, rfl⟩ := rB.len
  obtain ⟨aO, cO, rfl⟩ := rO.len
  obtain ⟨aT, cT, rfl⟩ := rT.len
  have HA := Lib.hid awake_any
  have RB := Lib.hid rB
  have FB := Lib.hid (fun w' (hb : Below w.heap.size w w') => few_any _ B w' (RB.out.below hb) lB)
  have RO := Lib.hid rO
  have FO := Lib.hid (fun w' (hb : Below w.heap.size w w') => few_any _ O w' (RO.out.below hb) lO)
  have RT := Lib.hid rT
  have FT := Lib.hid (fun w' (hb : Below w.heap.size w w') => few_any _ T w' (RT.out.below hb) lT)
  clear rB rO rT
  have HNm := Lib.hid (fun w' => named_any no nb nt w' (by omega) (by omega) (by omega))
  have HP1 := Lib.hid (fun w' => plain_any no (by omega) w')
  have HP2 := Lib.hid (fun w' => plain_any nb (by omega) w')
  have HP3 := Lib.hid (fun w' => plain_any nt (by omega) w')
  go_enter Try.func5, Try.ntmps5
  go_upto_region 1 with fail
  have HB1 := Lib.hid ((Below.refl w.heap.size w).alloc (Nat.le_refl _) (.cells #[.string no, .string nb, .string nt] 23))
  have HC1 := Lib.hid (alloc_new w (.cells #[.string no, .string nb, .string nt] 23))
  have hC1 : w.heap.size < (w.alloc (.cells #[.string no, .string nb, .string nt] 23)).heap.size := by simp
  generalize w.alloc (.cells #[.string no, .string nb, .string nt] 23) = w1 at *
  have HN : Hid (∀ w', Below w1.heap.size w1 w' → w'.cell? ⟨w.heap.size, 0, none⟩ = some (.string no) ∧ w'.cell? ⟨w.heap.size, 1, none⟩ = some (.string nb) ∧ w'.cell? ⟨w.heap.size, 2, none⟩ = some (.string nt)) := Lib.hid (fun w' hb =>
    ⟨(hb.cell (by exact hC1)).trans (cell_at HC1.out 0), (hb.cell (by exact hC1)).trans (cell_at HC1.out 1), (hb.cell (by exact hC1)).trans (cell_at HC1.out 2)⟩)
  have HU : Hid (∀ w', Below w1.heap.size w1 w' → Below w.heap.size w w') := Lib.hid (fun w' hb => HB1.out.trans (hb.mono HB1.out.size))
  clear HC1 HB1
  go_wp2_with fail
  refine (HA.out _).mono ?_
  rintro e w2 ⟨rfl, b2⟩
  have HB2 := Lib.hid b2
  clear b2
  go_wp2_with fail
  refine (FB.out _ (HU.out _ HB2.out)).mono ?_
  rintro e w3 ⟨rfl, rfl⟩
  clear FB
  cases hB : fewB B with
  | false =>
    go_wp2_with fail
    refine (HA.out _).mono ?_
    rintro e w9 ⟨rfl, b9⟩
    have HB9 := Lib.hid (HB2.out.trans (b9.mono HB2.out.size))
    clear b9
    go_wp2_with fail
    go_ret
    exact ⟨rfl, HU.out _ HB9.out⟩
  | true =>
    go_wp2_with fail
    refine (FO.out _ (HU.out _ HB2.out)).mono ?_
    rintro e w3 ⟨rfl, rfl⟩
    clear FO
    cases hO : fewB O with
    | false =>
      go_wp2_with fail
      refine (HA.out _).mono ?_
      rintro e w9 ⟨rfl, b9⟩
      have HB9 := Lib.hid (HB2.out.trans (b9.mono HB2.out.size))
      clear b9
      go_wp2_with fail
      go_ret
      exact ⟨rfl, HU.out _ HB9.out⟩
    | true =>
      go_wp2_with fail
      refine (FT.out _ (HU.out _ HB2.out)).mono ?_
      rintro e w3 ⟨rfl, rfl⟩
      clear FT
      cases hT : fewB T with
      | false =>
        go_wp2_with fail
        refine (HA.out _).mono ?_
        rintro e w9 ⟨rfl, b9⟩
        have HB9 := Lib.hid (HB2.out.trans (b9.mono HB2.out.size))
        clear b9
        go_wp2_with fail
        go_ret
        exact ⟨rfl, HU.out _ HB9.out⟩
      | true =>
        obtain ⟨k0, k1, k2⟩ := HN.out _ HB2.out
        go_wp2_with fail
        refine (HP1.out _).mono ?_
        rintro e w3 ⟨p0, rfl, b3⟩
        have HB3 := Lib.hid (HB2.out.trans (b3.mono HB2.out.size))
        clear b3 HP1 k0 k1 k2
        cases p0 with
        | false =>
          go_wp2_with fail
          refine (HA.out _).mono ?_
          rintro e w9 ⟨rfl, b9⟩
          have HB9 := Lib.hid (HB3.out.trans (b9.mono HB3.out.size))
          clear b9
          go_wp2_with fail
          go_ret
          exact ⟨rfl, HU.out _ HB9.out⟩
        | true =>
          obtain ⟨k0, k1, k2⟩ := HN.out _ HB3.out
          go_wp2_with fail
          refine (HP2.out _).mono ?_
          rintro e w4 ⟨p1, rfl, b3⟩
          have HB4 := Lib.hid (HB3.out.trans (b3.mono HB3.out.size))
          clear b3 HP2 k0 k1 k2
          cases p1 with
          | false =>
            go_wp2_with fail
            refine (HA.out _).mono ?_
            rintro e w9 ⟨rfl, b9⟩
            have HB9 := Lib.hid (HB4.out.trans (b9.mono HB4.out.size))
            clear b9
            go_wp2_with fail
            go_ret
            exact ⟨rfl, HU.out _ HB9.out⟩
          | true =>
            obtain ⟨k0, k1, k2⟩ := HN.out _ HB4.out
            go_wp2_with fail
            refine (HP3.out _).mono ?_
            rintro e w5 ⟨p2, rfl, b3⟩
            have HB5 := Lib.hid (HB4.out.trans (b3.mono HB4.out.size))
            clear b3 HP3 k0 k1 k2
            cases p2 with
            | false =>
              go_wp2_with fail
              refine (HA.out _).mono ?_
              rintro e w9 ⟨rfl, b9⟩
              have HB9 := Lib.hid (HB5.out.trans (b9.mono HB5.out.size))
              clear b9
              go_wp2_with fail
              go_ret
              exact ⟨rfl, HU.out _ HB9.out⟩
            | true =>
              obtain ⟨k0, k1, k2⟩ := HN.out _ HB5.out
              go_wp2_with fail
              refine (HNm.out _).mono ?_
              rintro e w6 ⟨rfl, b3⟩
              have HB6 := Lib.hid (HB5.out.trans (b3.mono HB5.out.size))
              clear b3 HNm k0 k1 k2
              cases hn : decide (no.size + nb.size + nt.size < 1000) with
              | false =>
                go_wp2_with fail
                refine (HA.out _).mono ?_
                rintro e w9 ⟨rfl, b9⟩
                have HB9 := Lib.hid (HB6.out.trans (b9.mono HB6.out.size))
                clear b9
                go_wp2_with fail
                go_ret
                exact ⟨rfl, HU.out _ HB9.out⟩
              | true =>
                have hn' : no.size + nb.size + nt.size < 1000 := of_decide_eq_true hn
                obtain ⟨qB, pB⟩ := few_of hB
                obtain ⟨qO, pO⟩ := few_of hO
                obtain ⟨qT, pT⟩ := few_of hT
                clear hB hO hT hn HB2 HB3 HB4 HB5 lB lO lT z1 z2 z3
                have hal := (Below.refl w6.heap.size w6).alloc (Nat.le_refl _) (.cells #[.slice aB B.length cB, .slice aO O.length cO, .slice aT T.length cT] 24)
                have hL := rdl_alloc (t := 24) #[.slice aB B.length cB, .slice aO O.length cO, .slice aT T.length cT] [B, O, T] (fun j x hj => by
                  match j, hj with
                  | 0, hj => simp at hj; subst hj; exact ⟨_, rfl, RB.out.below (HU.out _ HB6.out)⟩
                  | 1, hj => simp at hj; subst hj; exact ⟨_, rfl, RO.out.below (HU.out _ HB6.out)⟩
                  | 2, hj => simp at hj; subst hj; exact ⟨_, rfl, RT.out.below (HU.out _ HB6.out)⟩
                  | j + 3, hj => simp at hj) 3
                have hS := size_any 0 _ [B, O, T] (w6.alloc (.cells #[.slice aB B.length cB, .slice aO O.length cO, .slice aT T.length cT] 24)) hL (by simp) (by
                  intro l hm
                  simp at hm
                  rcases hm with rfl | rfl | rfl
                  · exact ⟨by omega, fun x h => Nat.le_trans (pB x h) (by omega)⟩
                  · exact ⟨by omega, fun x h => Nat.le_trans (pO x h) (by omega)⟩
                  · exact ⟨by omega, fun x h => Nat.le_trans (pT x h) (by omega)⟩)
                have HS := Lib.hid hS
                have HB7 := Lib.hid (HB6.out.trans (hal.mono HB6.out.size))
                have HCl := Lib.hid (size_three 0 B O T)
                clear hS hL hal HB6
                generalize size 0 [B, O, T].flatten = z at *
                go_wp2_with fail
                refine calls_at (by rfl) HS.out ?_
                rintro e w7 ⟨rfl, rfl⟩
                clear HS
                generalize w6.alloc (.cells #[.slice aB B.length cB, .slice aO O.length cO, .slice aT T.length cT] 24) = w7 at *
                have HM1 : Hid (∀ w', Below w1.heap.size w1 w' → Calls Try.prog 14 #[.int .i64 z, .agg #[.string no, .string nb, .string nt], .slice aB B.length cB, .slice aO O.length cO, .slice aT T.length cT] w' (MgOk (hold z) no.data.toList nb.data.toList nt.data.toList B O T w')) := Lib.hid (fun w' hb => by
                  have := merge_any z no.data.toList nb.data.toList nt.data.toList (by rw [len_data]; omega) (by rw [len_data]; omega) (by rw [len_data]; omega) _ _ _ B O T w' (RB.out.below (HU.out _ hb)) (RO.out.below (HU.out _ hb)) (RT.out.below (HU.out _ hb)) (by omega) (by omega) (by omega)
                  unfold vSides at this
                  rw [S_of, S_of, S_of] at this
                  exact this)
                have HM2 : Hid (∀ w', Below w1.heap.size w1 w' → Calls Try.prog 14 #[.int .i64 z, .agg #[.string nt, .string nb, .string no], .slice aB B.length cB, .slice aT T.length cT, .slice aO O.length cO] w' (MgOk (hold z) nt.data.toList nb.data.toList no.data.toList B T O w')) := Lib.hid (fun w' hb => by
                  have := merge_any z nt.data.toList nb.data.toList no.data.toList (by rw [len_data]; omega) (by rw [len_data]; omega) (by rw [len_data]; omega) _ _ _ B T O w' (RB.out.below (HU.out _ hb)) (RT.out.below (HU.out _ hb)) (RO.out.below (HU.out _ hb)) (by omega) (by omega) (by omega)
                  unfold vSides at this
                  rw [S_of, S_of, S_of] at this
                  exact this)
                unfold MgOk at HM1 HM2
                rw [turn_clashes] at HM2
                have hX1 := mlines_len (hold z) no.data.toList nb.data.toList nt.data.toList B O T (cks B O T)
                have hcl := cks_len B O T
                have hXl : (mlines (hold z) no.data.toList nb.data.toList nt.data.toList B O T (cks B O T)).length ≤ 200000 := Nat.le_trans hX1 (Nat.le_trans (Nat.mul_le_mul (show (cks B O T).length ≤ 120 by omega) (show B.length + O.length + T.length + 4 ≤ 124 by omega)) (by decide))
                have hXX := turn_len (hold z) no.data.toList nb.data.toList nt.data.toList B O T
                have HE1 := Lib.hid (mlines_each (hold z) (hold_le z).1 no.data.toList nb.data.toList nt.data.toList (by rw [len_data]; omega) (by rw [len_data]; omega) (by rw [len_data]; omega) B O T pB pO pT (cks B O T))
                have HE2 := Lib.hid (mlines_each (hold z) (hold_le z).1 nt.data.toList nb.data.toList no.data.toList (by rw [len_data]; omega) (by rw [len_data]; omega) (by rw [len_data]; omega) B T O pB pT pO (cks B T O))
                have HT1 : Hid (z ≠ 1000 → ∀ side, side = 1 ∨ side = 2 ∨ side = 3 → choose (hold z) side 0 (mlines (hold z) no.data.toList nb.data.toList nt.data.toList B O T (cks B O T)) = some (eachS side B O T) ∧ choose (hold z) (4 - side) 0 (mlines (hold z) nt.data.toList nb.data.toList no.data.toList B T O (cks B T O)) = some (eachS side B O T)) := Lib.hid (fun hz side hs => by
                  obtain ⟨c1, c2, c3⟩ := HCl.out hz
                  exact ⟨turn_one (hold z) side (hold_le z).2 hs _ _ _ B O T c1 c2 c3, turn_two (hold z) side (hold_le z).2 hs _ _ _ B O T c1 c2 c3⟩)
                have HEL : Hid (∀ side, (eachS side B O T).length ≤ 1000000) := Lib.hid (fun side => Nat.le_trans (eachS_len side B O T) (Nat.le_trans (Nat.mul_le_mul (show (cks B O T).length ≤ 120 by omega) (show B.length + O.length + T.length ≤ 124 by omega)) (by decide)))
                clear HCl hX1 hcl pB pO pT
                generalize mlines (hold z) no.data.toList nb.data.toList nt.data.toList B O T (cks B O T) = X1 at *
                generalize mlines (hold z) nt.data.toList nb.data.toList no.data.toList B T O (cks B T O) = X2 at *
                generalize clashes (cks B O T) = cl at *
                obtain ⟨k0, k1, k2⟩ := HN.out _ HB7.out
                go_wp2_with fail
                refine (HM1.out _ HB7.out).mono ?_
                rintro e w8 ⟨v8, rfl, r8, b8⟩
                have HB8 := Lib.hid (HB7.out.trans (b8.mono HB7.out.size))
                have R8 := Lib.hid r8
                obtain ⟨a8, c8, rfl⟩ := r8.len
                clear r8 b8 HM1 HB7 k0 k1 k2
                obtain ⟨k0, k1, k2⟩ := HN.out _ HB8.out
                go_wp2_with fail
                refine (HM2.out _ HB8.out).mono ?_
                rintro e w9 ⟨v9, rfl, r9, b9⟩
                have HB9 := Lib.hid (HB8.out.trans (b9.mono HB8.out.size))
                have R9 := Lib.hid r9
                have R8' := Lib.hid (R8.out.below b9)
                obtain ⟨a9, c9, rfl⟩ := r9.len
                clear r9 b9 HM2 k0 k1 k2 R8 HB8 HN RB RO RT
                rw [hXX]
                have e1 : ((cl : Int) != (cl : Int)) = false := by simp
                have e2 : ((X1.length : Int) != (X1.length : Int)) = false := by simp
                by_cases hz : z = 1000
                · have d5 : (z == 1000) = true := by rw [hz]; rfl
                  clear hz
                  go_wp2_with fail
                  go_ret
                  exact ⟨rfl, HU.out _ HB9.out⟩
                · have d5 : (z == 1000) = false := by rw [beq_eq_false_iff_ne]; exact hz
                  have HT := Lib.hid (HT1.out hz)
                  clear HT1 hz
                  rw [hXX] at R9
                  have hXl2 : X2.length ≤ 200000 := by omega
                  go_wp2_with fail
                  go_loopw [14] (fun s wr => ∃ k : Nat, 1 ≤ k ∧ k ≤ 4 ∧ s = .int .i64 k ∧ Below w9.heap.size w9 wr) (fun s _ => 4 - (intOf s).toNat)
                  case atStart => exact ⟨1, by omega, by omega, rfl, Below.refl _ _⟩
                  case round =>
                    obtain ⟨k, hk1, hk4, rfl, hb⟩ := hrel
                    have Hb := Lib.hid hb
                    have Hw := Lib.hid (HU.out _ (HB9.out.trans (hb.mono HB9.out.size)))
                    clear hb
                    by_cases hlt : k ≤ 3
                    · have d6 : decide ((k : Int) ≤ 3) = true := decide_eq_true (by omega)
                      have hE := HEL.out k
                      obtain ⟨t1, t2⟩ := HT.out k (by omega)
                      have HK1 := Lib.hid (fun w' (h : Below w9.heap.size w9 w') => choose_any z k _ X1 w' (R8'.out.below h) (by omega) hlt (by omega) HE1.out)
                      have HK2 := Lib.hid (fun w' (h : Below w9.heap.size w9 w') => choose_any z (4 - k) _ X2 w' (R9.out.below h) (by omega) (by omega) (by omega) HE2.out)
                      rw [t1] at HK1
                      rw [t2, show (((4 - k : Nat)) : Int) = 4 - (k : Int) by omega] at HK2
                      generalize eachS k B O T = Y at *
                      clear t1 t2
                      go_wp2_with fail
                      refine (HK1.out _ Hb.out).mono ?_
                      rintro e w10 ⟨v10, rfl, r10, b10⟩
                      have HB10 := Lib.hid (Hb.out.trans (b10.mono Hb.out.size))
                      replace r10 : Rd w10 v10 Y := r10
                      have R10 := Lib.hid r10
                      clear r10 b10 HK1
                      go_wp2_with fail
                      refine (HK2.out _ HB10.out).mono ?_
                      rintro e w11 ⟨v11, rfl, r11, b11⟩
                      have HB11 := Lib.hid (HB10.out.trans (b11.mono HB10.out.size))
                      replace r11 : Rd w11 v11 Y := r11
                      have R10' := R10.out.below b11
                      have hsm := same_any v10 v11 Y Y w11 R10' r11 hE hE
                      rw [decide_eq_true rfl] at hsm
                      have HSm := Lib.hid hsm
                      obtain ⟨a10, c10, rfl⟩ := R10'.len
                      obtain ⟨a11, c11, rfl⟩ := r11.len
                      clear r11 R10' R10 b11 HK2 hsm
                      go_wp2_with fail
                      refine HSm.out.mono ?_
                      rintro e w12 ⟨rfl, b12⟩
                      have HB12 := Lib.hid (HB11.out.trans (b12.mono HB11.out.size))
                      clear HSm b12 HB10 HB11
                      go_wp2_with fail
                      go_roundw
                      case rel => exact ⟨k + 1, by omega, by omega, by go_num, HB12.out⟩
                      case measure => simp [intOf] <;> omega
                    · obtain rfl : k = 4 := by omega
                      go_wp2_with fail
                      go_ret
                      exact ⟨rfl, Hw.out⟩

end Go.Proofs.Ytipgofglidmffaa.Mk
