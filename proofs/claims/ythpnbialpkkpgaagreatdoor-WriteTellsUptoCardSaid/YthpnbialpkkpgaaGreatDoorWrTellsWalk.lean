import Derived.Test.YthpnbialpkkpgaaGreatDoorWrRefJoin
import Derived.Test.YthpnbialpkkpgaaGreatDoorWrSmall
import Derived.Test.YthpnbialpkkpgaaGreatDoorPkL
namespace Go.Proofs.YthpnbialpkkpgaaGreatDoor.Wr
open Go.RowKit
open Go.Proofs.YthpnbialpkkpgaaGreatDoor.Tk (S S_list S_size S_toList Rd)
open Go.Proofs.YthpnbialpkkpgaaGreatDoor.Sp (ret_bool OkAns)
open Go.Proofs.YthpnbialpkkpgaaGreatDoor.Bt (TrB fitAll ttAll szAll rgB rrightB_any)
open Go.Proofs.YthpnbialpkkpgaaGreatDoor.Bk (Bk Tx wl ticksL)
set_option linter.unusedVariables false
set_option maxHeartbeats 6400000 in
set_option maxRecDepth 100000 in
theorem writeTells_walk (w : World) (va : Value) (a : List Bk) (ra : TrB w va a) (fa : fitAll reachBytes a) (ta : ttAll a ≤ 1048576) (vb : Value) (xs : List Tx) (rb : Rd w vb xs) (hb : xs.length ≤ 9223372036854775807) :
    Calls Tryz.prog 3 #[va, vb] w (OkAns w true) := by
  obtain ⟨aa, ca, rfl⟩ := ra.len
  obtain ⟨ab, cb, rfl⟩ := rb.len
  have HA := Lib.hid awake13_any
  have FA := Lib.hid (fun w' (h : Below w.heap.size w w') => small_any a _ w' (ra.below h) fa)
  have fs := Bt.fitAll_tt a fa ta
  cases hs : smallB a with
  | false =>
    rw [hs] at FA
    clear ra fs fa ta hs rb
    go_enter Tryz.func3, Tryz.ntmps3
    go_wp2_with fail
    refine (HA.out _).mono ?_
    rintro e w2 ⟨rfl, b2⟩
    have H2 := Lib.hid b2
    clear b2
    go_wp2_with fail
    refine (FA.out _ H2.out).mono ?_
    rintro e w3 ⟨rfl, b3⟩
    have H3 := Lib.hid (H2.out.trans (b3.mono H2.out.size))
    clear FA b3
    go_wp2_with fail
    refine (HA.out _).mono ?_
    rintro e w4 ⟨rfl, b4⟩
    have H4 := Lib.hid (H3.out.trans (b4.mono H3.out.size))
    clear b4
    go_wp2_with fail
    go_ret
    exact ⟨rfl, H4.out⟩
  | true =>
    rw [hs] at FA
    have htt := small_tt hs ta
    by_cases h60 : 60 < xs.length
    · have g60 : (60 : Int) < (xs.length : Int) := by omega
      clear ra fs fa ta hs rb htt
      go_enter Tryz.func3, Tryz.ntmps3
      go_wp2_with fail
      refine (HA.out _).mono ?_
      rintro e w2 ⟨rfl, b2⟩
      have H2 := Lib.hid b2
      clear b2
      go_wp2_with fail
      refine (FA.out _ H2.out).mono ?_
      rintro e w3 ⟨rfl, b3⟩
      have H3 := Lib.hid (H2.out.trans (b3.mono H2.out.size))
      clear FA b3
      go_wp2_with fail
      refine (HA.out _).mono ?_
      rintro e w4 ⟨rfl, b4⟩
      have H4 := Lib.hid (H3.out.trans (b4.mono H3.out.size))
      clear b4
      go_wp2_with fail
      go_ret
      exact ⟨rfl, H4.out⟩
    · have g60 : ¬ (60 : Int) < (xs.length : Int) := by omega
      have HL := Lib.hid (fun w' (h : Below w.heap.size w w') => linesW_any _ a w' (ra.below h) fs (by omega))
      have HD := Lib.hid (fun w' (h : Below w.heap.size w w') => documentW_any _ a w' (ra.below h) fs (by omega))
      have HR := Lib.hid (fun w' (h : Below w.heap.size w w') => rrightB_any a _ w' (Bt.fit47 fa) (by omega) (ra.below h))
      have HU := Lib.hid (fun w' (h : Below w.heap.size w w') => Bt.Rd.at (rb.below h))
      have HT := Lib.hid (fun (hx : ∀ x ∈ xs, x.length ≤ 300) w' (h : Below w.heap.size w w') => ticks_any _ xs w' (rb.below h) (by omega) (fun x k => by have := hx x k; omega))
      have HQ := Lib.hid (fun (hx : ∀ x ∈ xs, x.length ≤ 300) w' (h : Below w.heap.size w w') => rticks_any _ xs w' (rb.below h) (by omega) (fun x k => by have := hx x k; omega))
      have HRl := Lib.hid (fun (hr : rgB a = true) w' (h : Below w.heap.size w w') => rlines_any (szAll a) a 0 (Nat.le_refl _) (Bt.rg_parts hr).1 (by omega) _ w' (ra.below h))
      have HRw := Lib.hid (fun w' (h : Below w.heap.size w w') => rwrite_any a _ w' (ra.below h) (Bt.fit47 fa) (by omega))
      have HSm := Lib.hid (fun (hr : rgB a = true) u v w' (hu : Rd w' u (wl a)) (hv : Rd w' v (wl a)) => Ln.same_any u v (wl a) (wl a) w' hu hv (by have := rg_sz hr (by omega); omega) (by have := rg_sz hr (by omega); omega))
      unfold WrLns at HL
      unfold WrDoc at HD
      unfold RowS at HRl
      clear ra fs fa ta hs rb htt h60
      go_enter Tryz.func3, Tryz.ntmps3
      go_wp2_with fail
      refine (HA.out _).mono ?_
      rintro e w2 ⟨rfl, b2⟩
      have H2 := Lib.hid b2
      clear b2
      go_wp2_with fail
      refine (FA.out _ H2.out).mono ?_
      rintro e w3 ⟨rfl, b3⟩
      have H3 := Lib.hid (H2.out.trans (b3.mono H2.out.size))
      clear FA b3
      go_wp2_with fail
      clear HA
      go_loopw [25] (fun iv wr => ∃ j : Nat, j ≤ xs.length ∧ iv = .int .i64 j ∧ Hid (∀ i (hi : i < xs.length), i < j → xs[i].length ≤ 300) ∧ Hid (Below w.heap.size w wr)) (fun iv _ => xs.length - (intOf iv).toNat)
      case atStart => exact ⟨0, Nat.zero_le _, rfl, Lib.hid (fun i hi h => absurd h (Nat.not_lt_zero _)), H3⟩
      case round =>
        obtain ⟨j, hj, rfl, HX, HB⟩ := hrel
        by_cases hlt : j < xs.length
        · have hji : (j : Int) < (xs.length : Int) := by omega
          obtain ⟨b, of, hbo, c0⟩ := HU.out wr HB.out j hlt
          subst hbo
          have hsz : (S xs[j]).size = xs[j].length := S_size _
          by_cases h3 : xs[j].length ≤ 300
          · have g3 : ¬ (300 : Int) < ((S xs[j]).size : Int) := by omega
            have HX2 : Hid (∀ i (hi : i < xs.length), i < j + 1 → xs[i].length ≤ 300) := Lib.hid (fun i hi h => by
              by_cases e : i = j
              · subst e; exact h3
              · exact HX.out i hi (by omega))
            clear HX HL HD HR HT HQ HRl HRw HSm HU h3 hsz
            generalize S xs[j] = sx at *
            go_wp2_with fail
            go_roundw
            case rel => exact ⟨j + 1, by omega, by go_num, HX2, HB⟩
            case measure => simp [intOf] <;> omega
          · have g3 : (300 : Int) < ((S xs[j]).size : Int) := by omega
            clear HX HL HD HR HT HQ HRl HRw HSm HU h3 hsz
            generalize S xs[j] = sx at *
            go_wp2_with fail
            go_ret
            exact ⟨rfl, HB.out⟩
        · obtain rfl : j = xs.length := by omega
          have hx : ∀ x ∈ xs, x.length ≤ 300 := fun x hm => by
            obtain ⟨i, hi, rfl⟩ := List.getElem_of_mem hm
            exact HX.out i hi hi
          have HT2 := Lib.hid (HT.out hx)
          have HQ2 := Lib.hid (HQ.out hx)
          clear HT HQ hx HX HU hlt
          generalize ticksL xs = tk at *
          cases hr : rgB a with
          | false =>
            have e6 : wrE a = 6 := by unfold wrE; rw [if_neg (by rw [hr]; simp)]
            have eL : wrL a = [] := by unfold wrL; rw [if_neg (by rw [hr]; simp)]
            have eS : S (Ln.jn [] true) = ⟨#[]⟩ := rfl
            rw [e6, eL] at HL HD
            rw [eS] at HD
            rw [hr] at HR
            clear hr e6 eL eS HRl HRw HSm
            go_wp2_with fail
            refine (HL.out _ HB.out).mono ?_
            rintro e w5 ⟨u, rfl, ⟨B0, _, ho⟩, b5⟩
            have hu := Pa.OutS.rd ho
            have H5 := Lib.hid (HB.out.trans (b5.mono HB.out.size))
            obtain ⟨ao, co, rfl⟩ := hu.len
            have h0 : ([] : List Tx).length = 0 := rfl
            rw [h0]
            clear HL b5 ho hu h0
            go_wp2_with fail
            refine (HD.out _ H5.out).mono ?_
            rintro e w6 ⟨rfl, b6⟩
            have H6 := Lib.hid (H5.out.trans (b6.mono H5.out.size))
            clear HD b6
            go_wp2_with fail
            refine (HT2.out _ H6.out).mono ?_
            rintro e w7 ⟨rfl, rfl⟩
            clear HT2
            go_wp2_with fail
            refine (HQ2.out _ H6.out).mono ?_
            rintro e w8 ⟨rfl, rfl⟩
            clear HQ2
            go_wp2_with fail
            refine (HR.out _ H6.out).mono ?_
            rintro e w9 ⟨rfl, b9⟩
            have H9 := Lib.hid (H6.out.trans (b9.mono H6.out.size))
            clear HR b9
            go_wp2_with fail
            go_ret
            exact ⟨ret_bool (by simp), H9.out⟩
          | true =>
            have e6 : wrE a = 0 := by unfold wrE; rw [if_pos hr]
            have eL : wrL a = wl a := by unfold wrL; rw [if_pos hr]
            have eW : rwB a = Ln.jn (wl a) true := by unfold rwB; rw [if_pos hr]
            have HRl2 := Lib.hid (HRl.out hr)
            have HSm2 := Lib.hid (HSm.out hr)
            rw [e6, eL] at HL HD
            rw [eW] at HRw
            rw [hr] at HR
            clear hr e6 eL eW HRl HSm
            generalize S (Ln.jn (wl a) true) = y at *
            generalize wl a = L at *
            go_wp2_with fail
            refine (HL.out _ HB.out).mono ?_
            rintro e w5 ⟨u, rfl, ⟨B0, _, ho⟩, b5⟩
            have hu := Lib.hid (Pa.OutS.rd ho)
            have H5 := Lib.hid (HB.out.trans (b5.mono HB.out.size))
            clear HL b5 ho
            go_wp2_with fail
            refine (HD.out _ H5.out).mono ?_
            rintro e w6 ⟨rfl, b6⟩
            have hu6 := Lib.hid (hu.out.below b6)
            have H6 := Lib.hid (H5.out.trans (b6.mono H5.out.size))
            clear HD b6 hu
            go_wp2_with fail
            refine (HT2.out _ H6.out).mono ?_
            rintro e w7 ⟨rfl, rfl⟩
            clear HT2
            go_wp2_with fail
            refine (HQ2.out _ H6.out).mono ?_
            rintro e w8 ⟨rfl, rfl⟩
            clear HQ2
            go_wp2_with fail
            refine (HR.out _ H6.out).mono ?_
            rintro e w9 ⟨rfl, b9⟩
            have hu9 := Lib.hid (hu6.out.below b9)
            have H9 := Lib.hid (H6.out.trans (b9.mono H6.out.size))
            clear HR b9 hu6
            go_wp2_with fail
            refine (HRl2.out _ H9.out).mono ?_
            rintro e w10 ⟨v, rfl, ho, b10⟩
            have hu10 := hu9.out.below b10
            have HC := Lib.hid (HSm2.out _ _ _ hu10 (Pa.OutS.rd ho))
            have H10 := Lib.hid (H9.out.trans (b10.mono H9.out.size))
            clear HRl2 HSm2 ho b10 hu9 hu10
            go_wp2_with fail
            refine HC.out.mono ?_
            rintro e w11 ⟨rfl, b11⟩
            have H11 := Lib.hid (H10.out.trans (b11.mono H10.out.size))
            have hd : decide True = true := rfl
            rw [hd]
            clear HC b11 hd
            go_wp2_with fail
            refine (HRw.out _ H11.out).mono ?_
            rintro e w12 ⟨rfl, b12⟩
            have H12 := Lib.hid (H11.out.trans (b12.mono H11.out.size))
            clear HRw b12
            go_wp2_with fail
            go_ret
            exact ⟨ret_bool (by simp), H12.out⟩
end Go.Proofs.YthpnbialpkkpgaaGreatDoor.Wr
