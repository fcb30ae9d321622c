/-
  THE WALK of the statement MarksBack.
-/
import Derived.Test.YtipgofglidmffaaMkAwake
import Derived.Test.YtipgofglidmffaaMkHelp
import Derived.Test.YtipgofglidmffaaMkChoose
import Derived.Test.YtipgofglidmffaaMkSplit
import Derived.Test.YtipgofglidmffaaMkFrame
import Derived.Test.YtipgofglidmffaaCmSlice
namespace Go.Proofs.Ytipgofglidmffaa.Mk
open Go.RowKit Go.Proofs.Ytipgofglidmffaa.Tk
open Go.Proofs.Ytipgofglidmffaa.Cm (calls_at step_append_run alloc_new alloc_at cell_at lt_of_at)
set_option linter.unusedVariables false

theorem size_five (a : Int) (O B T A Z : List Tx) (h : size a [O, B, T, A, Z].flatten ≠ 1000) :
    Clear (hold (size a [O, B, T, A, Z].flatten)) O ∧ Clear (hold (size a [O, B, T, A, Z].flatten)) B ∧ Clear (hold (size a [O, B, T, A, Z].flatten)) T ∧ Clear (hold (size a [O, B, T, A, Z].flatten)) A ∧ Clear (hold (size a [O, B, T, A, Z].flatten)) Z := by
  have hc := size_clear a _ h
  refine ⟨hc.sub ?_, hc.sub ?_, hc.sub ?_, hc.sub ?_, hc.sub ?_⟩ <;> intro x hx <;> simp [hx]

theorem own_below {w w' : World} {B e z n : Nat} {v : Value} {xs : List Value} (h : w.ownsRow B e z v n xs) (hb : Below w.heap.size w w') : w'.ownsRow B e z v n xs := Go.Proofs.Ytipgofglidmffaa.Cm.own_keep h (Go.Proofs.Ytipgofglidmffaa.Cm.Keep.of_below (S := fun _ => False) hb) (fun _ _ h => h)

set_option maxHeartbeats 6400000 in
set_option maxRecDepth 100000 in
theorem marksBack_walk (w : World) (a0 : Int) (no nb nt : ByteArray) (z1 : no.size ≤ reachBytes) (z2 : nb.size ≤ reachBytes) (z3 : nt.size ≤ reachBytes) (vO : Value) (O : List Tx) (rO : Rd w vO O) (lO : O.length ≤ 9223372036854775807) (vB : Value) (B : List Tx) (rB : Rd w vB B) (lB : B.length ≤ 9223372036854775807) (vT : Value) (T : List Tx) (rT : Rd w vT T) (lT : T.length ≤ 9223372036854775807) (vA : Value) (A : List Tx) (rA : Rd w vA A) (lA : A.length ≤ 9223372036854775807) (vZ : Value) (Z : List Tx) (rZ : Rd w vZ Z) (lZ : Z.length ≤ 9223372036854775807) :
    Calls Try.prog 3 #[.int .i64 a0, .agg #[.string no, .string nb, .string nt], vO, vB, vT, vA, vZ] w fun e w' => e = .returned (.bool true) ∧ Below w.heap.size w w' := by
  obtain ⟨aO, cO, rfl⟩ := rO.len
  obtain ⟨aB, cB, rfl⟩ := rB.len
  obtain ⟨aT, cT, rfl⟩ := rT.len
  obtain ⟨aA, cA, rfl⟩ := rA.len
  obtain ⟨aZ, cZ, rfl⟩ := rZ.len
  have hzr : reachBytes ≤ 140737488355328 := by decide
  have HA := Lib.hid awake_any
  have RO := Lib.hid rO
  have FO := Lib.hid (fun w' (hb : Below w.heap.size w w') => few_any _ O w' (RO.out.below hb) lO)
  have RB := Lib.hid rB
  have FB := Lib.hid (fun w' (hb : Below w.heap.size w w') => few_any _ B w' (RB.out.below hb) lB)
  have RT := Lib.hid rT
  have FT := Lib.hid (fun w' (hb : Below w.heap.size w w') => few_any _ T w' (RT.out.below hb) lT)
  have RA := Lib.hid rA
  have FA := Lib.hid (fun w' (hb : Below w.heap.size w w') => few_any _ A w' (RA.out.below hb) lA)
  have RZ := Lib.hid rZ
  have FZ := Lib.hid (fun w' (hb : Below w.heap.size w w') => few_any _ Z w' (RZ.out.below hb) lZ)
  clear rO rB rT rA rZ
  have HNm := Lib.hid (fun w' => named_any no nb nt w' (by omega) (by omega) (by omega))
  go_enter Try.func3, Try.ntmps3
  go_upto_region 1 with fail
  have HB1 := Lib.hid ((Below.refl w.heap.size w).alloc (Nat.le_refl _) (.cells #[.string no, .string nb, .string nt] 23))
  have HC1 := Lib.hid (alloc_new w (.cells #[.string no, .string nb, .string nt] 23))
  have hC1 : w.heap.size < (w.alloc (.cells #[.string no, .string nb, .string nt] 23)).heap.size := by simp
  generalize w.alloc (.cells #[.string no, .string nb, .string nt] 23) = w1 at *
  have HN : Hid (∀ w', Below w1.heap.size w1 w' → w'.cell? ⟨w.heap.size, 0, none⟩ = some (.string no) ∧ w'.cell? ⟨w.heap.size, 1, none⟩ = some (.string nb) ∧ w'.cell? ⟨w.heap.size, 2, none⟩ = some (.string nt)) := Lib.hid (fun w' hb =>
    ⟨(hb.cell (by exact hC1)).trans (cell_at HC1.out 0), (hb.cell (by exact hC1)).trans (cell_at HC1.out 1), (hb.cell (by exact hC1)).trans (cell_at HC1.out 2)⟩)
  have HU : Hid (∀ w', Below w1.heap.size w1 w' → Below w.heap.size w w') := Lib.hid (fun w' hb => HB1.out.trans (hb.mono HB1.out.size))
  clear HC1 HB1
  go_wp2_with fail
  refine (HA.out _).mono ?_
  rintro e w2 ⟨rfl, b2⟩
  have HB2 := Lib.hid b2
  clear b2
  go_wp2_with fail
  refine (FB.out _ (HU.out _ HB2.out)).mono ?_
  rintro e w3 ⟨rfl, rfl⟩
  clear FB
  cases hB : fewB B with
  | false =>
    go_wp2_with fail
    refine (HA.out _).mono ?_
    rintro e w4 ⟨rfl, b4⟩
    have HB4 := Lib.hid (HB2.out.trans (b4.mono HB2.out.size))
    clear b4
    go_wp2_with fail
    go_ret
    exact ⟨rfl, HU.out _ HB4.out⟩
  | true =>
    go_wp2_with fail
    refine (FO.out _ (HU.out _ HB2.out)).mono ?_
    rintro e w3 ⟨rfl, rfl⟩
    clear FO
    cases hO : fewB O with
    | false =>
      go_wp2_with fail
      refine (HA.out _).mono ?_
      rintro e w4 ⟨rfl, b4⟩
      have HB4 := Lib.hid (HB2.out.trans (b4.mono HB2.out.size))
      clear b4
      go_wp2_with fail
      go_ret
      exact ⟨rfl, HU.out _ HB4.out⟩
    | true =>
      go_wp2_with fail
      refine (FT.out _ (HU.out _ HB2.out)).mono ?_
      rintro e w3 ⟨rfl, rfl⟩
      clear FT
      cases hT : fewB T with
      | false =>
        go_wp2_with fail
        refine (HA.out _).mono ?_
        rintro e w4 ⟨rfl, b4⟩
        have HB4 := Lib.hid (HB2.out.trans (b4.mono HB2.out.size))
        clear b4
        go_wp2_with fail
        go_ret
        exact ⟨rfl, HU.out _ HB4.out⟩
      | true =>
        go_wp2_with fail
        refine (FA.out _ (HU.out _ HB2.out)).mono ?_
        rintro e w3 ⟨rfl, rfl⟩
        clear FA
        cases hA : fewB A with
        | false =>
          go_wp2_with fail
          refine (HA.out _).mono ?_
          rintro e w4 ⟨rfl, b4⟩
          have HB4 := Lib.hid (HB2.out.trans (b4.mono HB2.out.size))
          clear b4
          go_wp2_with fail
          go_ret
          exact ⟨rfl, HU.out _ HB4.out⟩
        | true =>
          go_wp2_with fail
          refine (FZ.out _ (HU.out _ HB2.out)).mono ?_
          rintro e w3 ⟨rfl, rfl⟩
          clear FZ
          cases hZ : fewB Z with
          | false =>
            go_wp2_with fail
            refine (HA.out _).mono ?_
            rintro e w4 ⟨rfl, b4⟩
            have HB4 := Lib.hid (HB2.out.trans (b4.mono HB2.out.size))
            clear b4
            go_wp2_with fail
            go_ret
            exact ⟨rfl, HU.out _ HB4.out⟩
          | true =>
            obtain ⟨k0, k1, k2⟩ := HN.out _ HB2.out
            go_wp2_with fail
            refine (HNm.out _).mono ?_
            rintro e w3 ⟨rfl, b3⟩
            have HB3 := Lib.hid (HB2.out.trans (b3.mono HB2.out.size))
            clear b3 HNm k0 k1 k2
            cases hn : decide (no.size + nb.size + nt.size < 1000) with
            | false =>
              go_wp2_with fail
              refine (HA.out _).mono ?_
              rintro e w4 ⟨rfl, b4⟩
              have HB4 := Lib.hid (HB3.out.trans (b4.mono HB3.out.size))
              clear b4
              go_wp2_with fail
              go_ret
              exact ⟨rfl, HU.out _ HB4.out⟩
            | true =>
              have hn' : no.size + nb.size + nt.size < 1000 := of_decide_eq_true hn
              obtain ⟨qO, pO⟩ := few_of hO
              obtain ⟨qB, pB⟩ := few_of hB
              obtain ⟨qT, pT⟩ := few_of hT
              obtain ⟨qA, pA⟩ := few_of hA
              obtain ⟨qZ, pZ⟩ := few_of hZ
              clear hO hB hT hA hZ hn HB2 lO lB lT lA lZ z1 z2 z3 hzr
              have hal := (Below.refl w3.heap.size w3).alloc (Nat.le_refl _) (.cells #[.slice aO O.length cO, .slice aB B.length cB, .slice aT T.length cT, .slice aA A.length cA, .slice aZ Z.length cZ] 24)
              have hL := rdl_alloc (t := 24) #[.slice aO O.length cO, .slice aB B.length cB, .slice aT T.length cT, .slice aA A.length cA, .slice aZ Z.length cZ] [O, B, T, A, Z] (fun j x hj => by
                match j, hj with
                | 0, hj => simp at hj; subst hj; exact ⟨_, rfl, RO.out.below (HU.out _ HB3.out)⟩
                | 1, hj => simp at hj; subst hj; exact ⟨_, rfl, RB.out.below (HU.out _ HB3.out)⟩
                | 2, hj => simp at hj; subst hj; exact ⟨_, rfl, RT.out.below (HU.out _ HB3.out)⟩
                | 3, hj => simp at hj; subst hj; exact ⟨_, rfl, RA.out.below (HU.out _ HB3.out)⟩
                | 4, hj => simp at hj; subst hj; exact ⟨_, rfl, RZ.out.below (HU.out _ HB3.out)⟩
                | j + 5, hj => simp at hj) 5
              have hS := size_any a0 _ [O, B, T, A, Z] (w3.alloc (.cells #[.slice aO O.length cO, .slice aB B.length cB, .slice aT T.length cT, .slice aA A.length cA, .slice aZ Z.length cZ] 24)) hL (by simp) (by
                intro l hm
                simp at hm
                rcases hm with rfl | rfl | rfl | rfl | rfl
                · exact ⟨by omega, fun x h => Nat.le_trans (pO x h) (by omega)⟩
                · exact ⟨by omega, fun x h => Nat.le_trans (pB x h) (by omega)⟩
                · exact ⟨by omega, fun x h => Nat.le_trans (pT x h) (by omega)⟩
                · exact ⟨by omega, fun x h => Nat.le_trans (pA x h) (by omega)⟩
                · exact ⟨by omega, fun x h => Nat.le_trans (pZ x h) (by omega)⟩)
              have HS := Lib.hid hS
              have HB4 := Lib.hid (HB3.out.trans (hal.mono HB3.out.size))
              have hb := size_bounds a0 [O, B, T, A, Z].flatten
              have HCl := Lib.hid (size_five a0 O B T A Z)
              clear hS hL hal HB3
              generalize size a0 [O, B, T, A, Z].flatten = z at *
              obtain ⟨hb1, hb2, hb3⟩ := hb
              have d1 : decide (7 ≤ z) = true := decide_eq_true (by omega)
              have d2 : decide (z ≤ 1000) = true := decide_eq_true (by omega)
              have d1' : decide (z ≥ 7) = true := decide_eq_true (by omega)
              go_wp2_with fail
              refine calls_at (by rfl) HS.out ?_
              rintro e w4 ⟨rfl, rfl⟩
              clear HS
              generalize w3.alloc (.cells #[.slice aO O.length cO, .slice aB B.length cB, .slice aT T.length cT, .slice aA A.length cA, .slice aZ Z.length cZ] 24) = w4 at *
              have HP1 := Lib.hid (fun w' => plain_any no (by omega) w')
              have HP2 := Lib.hid (fun w' => plain_any nb (by omega) w')
              have HP3 := Lib.hid (fun w' => plain_any nt (by omega) w')
              by_cases hz : z = 1000
              · have d5 : (z == 1000) = true := by rw [hz]; rfl
                clear hz
                go_wp2_with fail
                go_ret
                exact ⟨rfl, HU.out _ HB4.out⟩
              · have d5 : (z == 1000) = false := by rw [beq_eq_false_iff_ne]; exact hz
                obtain ⟨kO, kB, kT, kA, kZ⟩ := HCl.out hz
                clear HCl hz
                obtain ⟨k0, k1, k2⟩ := HN.out _ HB4.out
                go_wp2_with fail
                refine (HP1.out _).mono ?_
                rintro e w5 ⟨p1, rfl, b5⟩
                have HB5 := Lib.hid (HB4.out.trans (b5.mono HB4.out.size))
                clear b5 k0 k1 k2 HP1
                cases p1 with
                | false =>
                  go_wp2_with fail
                  go_ret
                  exact ⟨rfl, HU.out _ HB5.out⟩
                | true =>
                  obtain ⟨k0, k1, k2⟩ := HN.out _ HB5.out
                  go_wp2_with fail
                  refine (HP2.out _).mono ?_
                  rintro e w6 ⟨p2, rfl, b6⟩
                  have HB6 := Lib.hid (HB5.out.trans (b6.mono HB5.out.size))
                  clear b6 k0 k1 k2 HP2
                  cases p2 with
                  | false =>
                    go_wp2_with fail
                    go_ret
                    exact ⟨rfl, HU.out _ HB6.out⟩
                  | true =>
                    obtain ⟨k0, k1, k2⟩ := HN.out _ HB6.out
                    go_wp2_with fail
                    refine (HP3.out _).mono ?_
                    rintro e w7 ⟨p3, rfl, b7⟩
                    have HB7 := Lib.hid (HB6.out.trans (b7.mono HB6.out.size))
                    clear b7 k0 k1 k2 HP3
                    cases p3 with
                    | false =>
                      go_wp2_with fail
                      go_ret
                      exact ⟨rfl, HU.out _ HB7.out⟩
                    | true =>
                      clear HB4 HB5 HB6
                      have hbA : Below w7.heap.size w7 (w7.alloc (.cells #[] 9)).drew := ((Below.refl _ _).alloc (Nat.le_refl _) _).drew
                      have oA : ((w7.alloc (.cells #[] 9)).drew).ownsRow w7.heap.size 9 1 (.slice (some ⟨w7.heap.size, 0, none⟩) 0 0) ([] : List Tx).length (([] : List Tx).map encStr) := World.ownsRow_lit w7 #[] 0 (Nat.le_refl _) (Nat.zero_le _) rfl
                      have HV : Hid (∀ w', Below w7.heap.size w7 w' → Below w.heap.size w w') := Lib.hid (fun w' hb => HU.out _ (HB7.out.trans (hb.mono HB7.out.size)))
                      have HRg : Hid (∀ w', Below w7.heap.size w7 w' → Calls Try.prog 11 #[.int .i64 z, .agg #[.string no, .string nb, .string nt], .slice aO O.length cO, .slice aB B.length cB, .slice aT T.length cT] w' fun e w'' => ∃ v, e = .returned v ∧ Rd w'' v (region (hold z) no.data.toList nb.data.toList nt.data.toList O B T) ∧ Below w'.heap.size w' w'') := Lib.hid (fun w' hb => by
                        have := region_any z no.data.toList nb.data.toList nt.data.toList (by rw [len_data]; omega) (by rw [len_data]; omega) (by rw [len_data]; omega) _ _ _ O B T w' (RO.out.below (HV.out _ hb)) (RB.out.below (HV.out _ hb)) (RT.out.below (HV.out _ hb)) (by omega) (by omega) (by omega)
                        unfold vSides at this
                        rw [S_of, S_of, S_of] at this
                        exact this)
                      have hrl : (region (hold z) no.data.toList nb.data.toList nt.data.toList O B T).length ≤ 124 := by rw [region_len]; omega
                      have HCh : Hid (∀ side, side = 1 ∨ side = 2 ∨ side = 3 → choose (hold z) side 0 (A ++ region (hold z) no.data.toList nb.data.toList nt.data.toList O B T ++ Z) = some (A ++ sel side O B T ++ Z)) := Lib.hid (fun side hs => by
                        rw [List.append_assoc, List.append_assoc]
                        exact choose_back (hold z) side (hold_le z).2 hs no.data.toList nb.data.toList nt.data.toList O B T A Z kO kB kT kA kZ)
                      have HBd : Hid (∀ x ∈ region (hold z) no.data.toList nb.data.toList nt.data.toList O B T, x.length ≤ 1000000) := Lib.hid (by
                        have hh := (hold_le z).1
                        have mk : ∀ c n, n.length ≤ 2000 → (mkr c (hold z) n).length ≤ 1000000 := fun c n hn => by
                          unfold mkr
                          rw [List.length_append, List.length_replicate]
                          split
                          · simp; omega
                          · simp; omega
                        intro x hx
                        simp only [region, List.mem_cons, List.mem_append, List.not_mem_nil, or_false] at hx
                        rcases hx with rfl | hx | rfl | hx | rfl | hx | rfl
                        · exact mk _ _ (by rw [len_data]; omega)
                        · exact Nat.le_trans (pO x hx) (by omega)
                        · exact mk _ _ (by rw [len_data]; omega)
                        · exact Nat.le_trans (pB x hx) (by omega)
                        · exact mk _ _ (by simp)
                        · exact Nat.le_trans (pT x hx) (by omega)
                        · exact mk _ _ (by rw [len_data]; omega))
                      clear kO kB kT kA kZ
                      generalize region (hold z) no.data.toList nb.data.toList nt.data.toList O B T = G at *
                      obtain ⟨X, hX⟩ : ∃ X, A ++ G ++ Z = X := ⟨_, rfl⟩
                      have HXX := Lib.hid hX
                      have hXl : X.length ≤ 204 := by rw [← hX, List.length_append, List.length_append]; omega
                      have HXb : Hid (∀ x ∈ X, x.length ≤ 1000000) := Lib.hid (fun x hx => by
                        rw [← hX, List.mem_append, List.mem_append] at hx
                        rcases hx with (hx | hx) | hx
                        · exact Nat.le_trans (pA x hx) (by omega)
                        · exact HBd.out x hx
                        · exact Nat.le_trans (pZ x hx) (by omega))
                      rw [hX] at HCh
                      clear hX
                      obtain ⟨k0, k1, k2⟩ := HN.out _ (HB7.out.trans (hbA.mono HB7.out.size))
                      obtain ⟨m0, m1, m2⟩ := HN.out _ HB7.out
                      go_upto_region 6 with fail
                      go_cut [16] from 101 (fun l wx => Hid (Rd wx l X) ∧ Hid (Below w7.heap.size w7 wx))
                      case first =>
                        go_region_law (first
                          | (obtain ⟨v9, w9, q9, o9, g9⟩ := run_append_rd oA (RA.out.below (HV.out _ hbA)) hbA.size (by simp; omega)
                             refine step_append_run rfl (.tmp 89) (.tmp 90) _ _ rfl _ _ rfl rfl _ _ q9 ?_
                             have hb9 := hbA.grown g9 hbA.size (fun k hk => (oA.lt k hk).1)
                             obtain ⟨k3, k4, k5⟩ := HN.out _ (HB7.out.trans (hb9.mono HB7.out.size)))
                          | (obtain ⟨v9, w9, q9, o9, g9⟩ := run_append_rd (own_below oA b10) (RA.out.below (HV.out _ hb10)) hb10.size (by simp; omega)
                             refine step_append_run rfl (.tmp 89) (.tmp 90) _ _ rfl _ _ rfl rfl _ _ q9 ?_
                             have hb9 := hb10.grown g9 hb10.size (fun k hk => (oA.lt k hk).1))
                          | (go_simp
                             go_at_call 11
                             first
                               | (refine calls_at rfl (HRg.out w9 hb9) ?_
                                  rintro e w10 ⟨v10, rfl, r10, b10⟩
                                  have hb10 := hb9.trans (b10.mono hb9.size)
                                  have o10 := own_below o9 b10)
                               | (refine calls_at rfl (HRg.out _ hbA) ?_
                                  rintro e w10 ⟨v10, rfl, r10, b10⟩
                                  have hb10 := hbA.trans (b10.mono hbA.size)))
                          | (obtain ⟨v11, w11, q11, o11, g11⟩ := run_append_rd o10 r10 hb10.size (by simp; omega)
                             refine step_append_run rfl (.tmp 91) (.tmp 97) _ _ rfl _ _ rfl rfl _ _ q11 ?_
                             have hb11 := hb10.grown g11 hb10.size (fun k hk => (o10.lt k hk).1))
                          | (obtain ⟨v12, w12, q12, o12, g12⟩ := run_append_rd o11 (RZ.out.below (HV.out _ hb11)) hb11.size (by simp; omega)
                             refine step_append_run rfl (.tmp 98) (.tmp 99) _ _ rfl _ _ rfl rfl _ _ q12 ?_
                             have hb12 := hb11.grown g12 hb11.size (fun k hk => (o11.lt k hk).1)))
                        all_goals (
                          have HR := Lib.hid (Rd.of_own o12)
                          rw [List.nil_append, HXX.out] at HR
                          have HB := Lib.hid hb12
                          clear q9 o9 g9 hb9 o10 q11 o11 g11 hb11 q12 o12 g12 hb12 b10 hb10 r10
                          go_simp
                          go_wp2_with fail
                          go_meet
                          exact ⟨HR, HB⟩)
                      case rest =>
                        obtain ⟨RX, HX⟩ := hcut
                        obtain ⟨aX, cX, rfl⟩ := RX.out.len
                        clear hbA oA HRg k0 k1 k2 m0 m1 m2 HBd HN pO pB pT pA pZ
                        go_wp2_with fail
                        have HB8 := Lib.hid (HX.out.alloc HX.out.size (.cells #[.slice aO O.length cO, .slice aB B.length cB, .slice aT T.length cT] 24))
                        have HD := Lib.hid (alloc_new wc (.cells #[.slice aO O.length cO, .slice aB B.length cB, .slice aT T.length cT] 24))
                        have hal : Below wc.heap.size wc (wc.alloc (.cells #[.slice aO O.length cO, .slice aB B.length cB, .slice aT T.length cT] 24)) := (Below.refl _ _).alloc (Nat.le_refl _) _
                        have RX8 := Lib.hid (RX.out.below hal)
                        have hD : wc.heap.size < (wc.alloc (.cells #[.slice aO O.length cO, .slice aB B.length cB, .slice aT T.length cT] 24)).heap.size := by simp
                        generalize wc.alloc (.cells #[.slice aO O.length cO, .slice aB B.length cB, .slice aT T.length cT] 24) = w8 at *
                        generalize wc.heap.size = D at *
                        clear hal RX HX
                        go_loopw [106] (fun i wr => ∃ k : Nat, k ≤ 3 ∧ i = .int .i64 k ∧ Below w8.heap.size w8 wr) (fun i _ => 3 - (intOf i).toNat)
                        case atStart => exact ⟨0, by omega, rfl, Below.refl _ _⟩
                        case round =>
                          obtain ⟨k, hk, rfl, hb⟩ := hrel
                          have Hb := Lib.hid hb
                          have Hw := Lib.hid (HV.out _ (HB8.out.trans (hb.mono HB8.out.size)))
                          by_cases hlt : k < 3
                          · obtain ⟨a, c, W, kc, rW, hW, lW⟩ : ∃ a c W, wr.cell? ⟨D, k, none⟩ = some (.slice a W.length c) ∧ Rd wr (.slice a W.length c) W ∧ sel (k + 1) O B T = W ∧ W.length ≤ 40 := by
                              match k, hlt with
                              | 0, _ => exact ⟨aO, cO, O, (hb.cell (by exact hD)).trans (cell_at HD.out 0), RO.out.below Hw.out, rfl, qO⟩
                              | 1, _ => exact ⟨aB, cB, B, (hb.cell (by exact hD)).trans (cell_at HD.out 1), RB.out.below Hw.out, rfl, qB⟩
                              | 2, _ => exact ⟨aT, cT, T, (hb.cell (by exact hD)).trans (cell_at HD.out 2), RT.out.below Hw.out, rfl, qT⟩
                            have HCk := choose_any z (k + 1) _ X wr (RX8.out.below hb) (by omega) (by omega) (by omega) HXb.out
                            rw [HCh.out (k + 1) (by omega), hW, show (((k + 1 : Nat)) : Int) = (k : Int) + 1 by omega] at HCk
                            obtain ⟨Y, hY⟩ : ∃ Y, A ++ W ++ Z = Y := ⟨_, rfl⟩
                            have lY : Y.length ≤ 120 := by rw [← hY, List.length_append, List.length_append]; omega
                            rw [hY] at HCk
                            have HY := Lib.hid hY
                            have HC := Lib.hid HCk
                            clear hY
                            have RW := Lib.hid rW
                            clear HCk rW hW hb
                            go_wp2_with fail
                            refine HC.out.mono ?_
                            rintro e w9 ⟨v9, rfl, r9, b9⟩
                            replace r9 : Rd w9 v9 Y := r9
                            have hba : Below w9.heap.size w9 (w9.alloc (.cells #[] 9)) := (Below.refl _ _).alloc (Nat.le_refl _) _
                            have hw9 : Below w8.heap.size w8 w9 := Hb.out.trans (b9.mono Hb.out.size)
                            have up : ∀ w', Below w9.heap.size w9 w' → Below w.heap.size w w' := fun w' h => HV.out _ (HB8.out.trans ((hw9.trans (h.mono hw9.size)).mono HB8.out.size))
                            have oA : (w9.alloc (.cells #[] 9)).ownsRow w9.heap.size 9 1 (.slice (some ⟨w9.heap.size, 0, none⟩) 0 0) ([] : List Tx).length (([] : List Tx).map encStr) := World.ownsRow_lit w9 #[] 0 (Nat.le_refl _) (Nat.zero_le _) rfl
                            obtain ⟨v10, w10, q10, o10, g10⟩ := run_append_rd oA (RA.out.below (up _ hba)) (by simp) (by simp; omega)
                            have hb10 := hba.grown g10 (by simp) (fun k hk => (oA.lt k hk).1)
                            obtain ⟨v11, w11, q11, o11, g11⟩ := run_append_rd o10 (RW.out.below (b9.trans (hb10.mono b9.size))) hb10.size (by simp; omega)
                            have hb11 := hb10.grown g11 hb10.size (fun k hk => (o10.lt k hk).1)
                            obtain ⟨v12, w12, q12, o12, g12⟩ := run_append_rd o11 (RZ.out.below (up _ hb11)) hb11.size (by simp; omega)
                            have hb12 := hb11.grown g12 hb11.size (fun k hk => (o11.lt k hk).1)
                            have R12 := Rd.of_own o12
                            rw [List.nil_append, HY.out] at R12
                            have hsm := same_any v9 v12 _ _ w12 (r9.below hb12) R12 (by omega) (by omega)
                            rw [decide_eq_true rfl] at hsm
                            have HSm := Lib.hid hsm
                            have H12 := Lib.hid (hw9.trans (hb12.mono hw9.size))
                            obtain ⟨a9, c9, rfl⟩ := r9.len
                            obtain ⟨a12, c12, rfl⟩ := R12.len
                            clear r9 hba hw9 up oA o10 g10 hb10 o11 g11 hb11 o12 g12 hb12 R12 hsm b9 HC kc
                            go_wp2_with (first
                              | (at_builtin; refine Lib.wpList_append_run _ rfl (.tmp 119) (.tmp 120) _ _ rfl _ _ rfl rfl _ _ (q10 _) ?_)
                              | (at_builtin; refine Lib.wpList_append_run _ rfl (.tmp 121) (.tmp 122) _ _ rfl _ _ rfl rfl _ _ (q11 _) ?_)
                              | (at_builtin; refine Lib.wpList_append_run _ rfl (.tmp 123) (.tmp 124) _ _ rfl _ _ rfl rfl _ _ (q12 _) ?_))
                            refine HSm.out.mono ?_
                            rintro e w13 ⟨rfl, b13⟩
                            have H13 := Lib.hid (H12.out.trans (b13.mono H12.out.size))
                            clear b13 HSm H12 q10 q11 q12
                            go_wp2_with fail
                            go_roundw
                            case rel => exact ⟨k + 1, by omega, by go_num, H13.out⟩
                            case measure => simp [intOf] <;> omega
                          · obtain rfl : k = 3 := by omega
                            go_wp2_with fail
                            go_ret
                            exact ⟨rfl, Hw.out⟩

end Go.Proofs.Ytipgofglidmffaa.Mk
