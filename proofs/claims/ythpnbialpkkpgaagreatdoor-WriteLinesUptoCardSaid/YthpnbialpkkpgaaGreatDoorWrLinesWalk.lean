import Derived.Test.YthpnbialpkkpgaaGreatDoorWrSmall
import Derived.Test.YthpnbialpkkpgaaGreatDoorPkL
namespace Go.Proofs.YthpnbialpkkpgaaGreatDoor.Wr
open Go.RowKit
open Go.Proofs.YthpnbialpkkpgaaGreatDoor.Tk (S S_list S_size S_toList Rd)
open Go.Proofs.YthpnbialpkkpgaaGreatDoor.Sp (ret_bool OkAns)
open Go.Proofs.YthpnbialpkkpgaaGreatDoor.Bt (TrB fitAll ttAll rgB)
open Go.Proofs.YthpnbialpkkpgaaGreatDoor.Bk (Bk Tx wl)
set_option linter.unusedVariables false
theorem ends13 {l : List Bk} (h : rgB l = true) (ht : ttAll l ≤ 9000000) (hne : l ≠ []) : ∃ (c : UInt8) (t s : Tx) (n : Nat), (wl l)[0]? = some (c :: t) ∧ c ≠ 32 ∧ (wl l).length = n + 1 ∧ (wl l)[n]? = some s ∧ s ≠ [] := by
  have ho := (rg_oks h ht).1
  have hE := Bk.endsL Kd.E0 false false l ho
  obtain ⟨b, r, rfl⟩ : ∃ b r, l = b :: r := by cases l with | nil => exact absurd rfl hne | cons b r => exact ⟨b, r, rfl⟩
  obtain ⟨k, lv, i, ls, ss, ks⟩ := b
  have hw := Bk.wl_ne Kd.E0 ho
  obtain ⟨p, s, e, hs⟩ := hE.resolve_left hw
  rw [Bk.oks] at ho
  obtain ⟨s0, q, e0, _, c, t, hs0, hg⟩ := first_kind _ ho.1
  have hwl : wl (Bk.mk k lv i ls ss ks :: r) = s0 :: (q ++ Bk.tl r) := by rw [Bk.wl_tl, e0]; rfl
  refine ⟨c, t, s, p.length, by rw [hwl, hs0]; rfl, fun hc => ?_, by rw [e]; simp, by rw [e]; simp, fun hn => hs (by rw [hn]; rfl)⟩
  subst hc
  exact absurd hg (by decide)
set_option maxHeartbeats 3200000 in
set_option maxRecDepth 100000 in
theorem writeLines_walk (w : World) (va : Value) (a : List Bk) (ra : TrB w va a) (fa : fitAll reachBytes a) (ta : ttAll a ≤ 1048576) :
    Calls Tryz.prog 8 #[va] w (OkAns w true) := by
  obtain ⟨aa, ca, rfl⟩ := ra.len
  have HA := Lib.hid awake13_any
  have FA := Lib.hid (fun w' (h : Below w.heap.size w w') => small_any a _ w' (ra.below h) fa)
  have fs := Bt.fitAll_tt a fa ta
  cases hs : smallB a with
  | false =>
    rw [hs] at FA
    clear ra fs fa ta hs
    go_enter Tryz.func8, Tryz.ntmps8
    go_wp2_with fail
    refine (HA.out _).mono ?_
    rintro e w2 ⟨rfl, b2⟩
    have H2 := Lib.hid b2
    clear b2
    go_wp2_with fail
    refine (FA.out _ H2.out).mono ?_
    rintro e w3 ⟨rfl, b3⟩
    have H3 := Lib.hid (H2.out.trans (b3.mono H2.out.size))
    clear FA b3
    go_wp2_with fail
    refine (HA.out _).mono ?_
    rintro e w4 ⟨rfl, b4⟩
    have H4 := Lib.hid (H3.out.trans (b4.mono H3.out.size))
    clear b4
    go_wp2_with fail
    go_ret
    exact ⟨rfl, H4.out⟩
  | true =>
    rw [hs] at FA
    have htt := small_tt hs ta
    have HL := Lib.hid (fun w' (h : Below w.heap.size w w') => linesW_any _ a w' (ra.below h) fs (by omega))
    unfold WrLns at HL
    cases hr : rgB a with
    | false =>
      have e6 : wrE a = 6 := by unfold wrE; rw [if_neg (by rw [hr]; simp)]
      have eL : wrL a = [] := by unfold wrL; rw [if_neg (by rw [hr]; simp)]
      rw [e6, eL] at HL
      clear ra fs fa ta hs htt hr e6 eL
      go_enter Tryz.func8, Tryz.ntmps8
      go_wp2_with fail
      refine (HA.out _).mono ?_
      rintro e w2 ⟨rfl, b2⟩
      have H2 := Lib.hid b2
      clear b2
      go_wp2_with fail
      refine (FA.out _ H2.out).mono ?_
      rintro e w3 ⟨rfl, b3⟩
      have H3 := Lib.hid (H2.out.trans (b3.mono H2.out.size))
      clear FA b3
      go_wp2_with fail
      refine (HL.out _ H3.out).mono ?_
      rintro e w4 ⟨u, rfl, ⟨B0, _, ho⟩, b4⟩
      have hu := Pa.OutS.rd ho
      have H4 := Lib.hid (H3.out.trans (b4.mono H3.out.size))
      clear ho
      obtain ⟨ao, co, rfl⟩ := hu.len
      have h0 : ([] : List Tx).length = 0 := rfl
      rw [h0]
      clear HL b4 hu h0
      go_wp2_with fail
      go_ret
      exact ⟨rfl, H4.out⟩
    | true =>
      have e6 : wrE a = 0 := by unfold wrE; rw [if_pos hr]
      have eL : wrL a = wl a := by unfold wrL; rw [if_pos hr]
      have hlt := rg_lt hr
      have hsz := rg_sz hr (by omega)
      have HLo : Hid (∀ j (hj : j < (wl a).length) (x : Int) (w' : World), x = 10 ∨ x = 13 → Calls Tryz.prog 24 #[.string (S (wl a)[j]), .int .u8 x] w' fun e w'' => e = .returned (.int .i64 0) ∧ w'' = w') := Lib.hid (fun j hj x w' hx => by
        have hm := hlt _ (List.getElem_mem hj)
        have hl := Pa.tot_mem _ _ (List.getElem_mem hj)
        have z10 : Ln.mx 10 (wl a)[j] = 0 := Ln.mx_none 10 _ hm.2
        have z13 : Ln.mx 13 (wl a)[j] = 0 := Ln.mx_none 13 _ hm.1.2.2
        rcases hx with rfl | rfl
        · have h := Ln.rlongest_any (S (wl a)[j]) (by rw [S_size]; omega) 10 w'
          rw [S_list, z10] at h
          exact h.mono (fun _ _ h => ⟨h.1, h.2.symm⟩)
        · have h := Ln.rlongest_any (S (wl a)[j]) (by rw [S_size]; omega) 13 w'
          rw [S_list, z13] at h
          exact h.mono (fun _ _ h => ⟨h.1, h.2.symm⟩))
      rw [e6, eL] at HL
      have HEnd := Lib.hid (ends13 hr (by omega))
      have HNil : Hid (a = [] → wl a = []) := Lib.hid (fun h => by rw [h, wl])
      have hll : (wl a).length ≤ 100000 := by omega
      have hal : (a.length = 0) ↔ a = [] := List.length_eq_zero_iff
      have HAl := Lib.hid hal
      clear ra fs fa ta hs htt hr e6 eL hlt hsz hal
      generalize wl a = L at *
      have w00 : IntKind.i64.wrap 0 = 0 := rfl
      go_enter Tryz.func8, Tryz.ntmps8
      go_wp2_with fail
      refine (HA.out _).mono ?_
      rintro e w2 ⟨rfl, b2⟩
      have H2 := Lib.hid b2
      clear b2
      go_wp2_with fail
      refine (FA.out _ H2.out).mono ?_
      rintro e w3 ⟨rfl, b3⟩
      have H3 := Lib.hid (H2.out.trans (b3.mono H2.out.size))
      clear FA b3
      go_wp2_with fail
      refine (HL.out _ H3.out).mono ?_
      rintro e w4 ⟨u, rfl, ⟨B0, _, ho⟩, b4⟩
      have hu := Pa.OutS.rd ho
      have H4 := Lib.hid (H3.out.trans (b4.mono H3.out.size))
      clear ho
      obtain ⟨ao, co, rfl⟩ := hu.len
      have HU := Lib.hid (fun w' (h : Below w4.heap.size w4 w') => Bt.Rd.at (hu.below h))
      clear HL b4 hu HA
      go_wp2_with fail
      go_loopw [28] (fun iv wr => ∃ j : Nat, j ≤ L.length ∧ iv = .int .i64 j ∧ Hid (Below w4.heap.size w4 wr)) (fun iv _ => L.length - (intOf iv).toNat)
      case atStart => exact ⟨0, Nat.zero_le _, rfl, Lib.hid (Below.refl _ _)⟩
      case round =>
        obtain ⟨j, hj, rfl, HB⟩ := hrel
        by_cases hlt : j < L.length
        · have hji : (j : Int) < (L.length : Int) := by omega
          obtain ⟨b, of, hbo, c0⟩ := HU.out wr HB.out j hlt
          subst hbo
          have HLs := Lib.hid (HLo.out j hlt)
          clear HLo HEnd HNil HAl HU
          generalize S L[j] = sx at *
          go_wp2_with fail
          go_quiet (first | (go_at_call 24; exact Calls.quiet_of_same (HLs.out _ _ (by decide))))
          go_wp2_with fail
          go_roundw
          case rel => exact ⟨j + 1, by omega, by go_num, Lib.hid (below_drewN HB.out _)⟩
          case measure => simp [intOf] <;> omega
        · obtain rfl : j = L.length := by omega
          clear HLo
          by_cases h0 : L = []
          · have hz : L.length = 0 := by rw [h0]; rfl
            have hla : a.length = 0 := HAl.out.2 (by
              rcases Classical.em (a = []) with h | h
              · exact h
              · obtain ⟨c, t, s, n, hx, _⟩ := HEnd.out h
                rw [h0] at hx
                cases hx)
            have H5 := Lib.hid (H4.out.trans (HB.out.mono H4.out.size))
            have ez : ((L.length : Int) == 0) = true := by rw [hz]; rfl
            have ea : ((a.length : Int) == 0) = true := by rw [hla]; rfl
            clear HEnd HNil HAl h0 hz hla hlt
            go_wp2_with fail
            go_ret
            exact ⟨ret_bool (by simp), H5.out⟩
          · have hane : a ≠ [] := fun h => h0 (HNil.out h)
            have hal : 0 < a.length := List.length_pos_iff.2 hane
            obtain ⟨c, t, s, n, hx0, hc, hn, hxn, hsn⟩ := HEnd.out hane
            have hpos : 0 < L.length := by omega
            have hnl : n < L.length := by omega
            obtain ⟨b, of, hbo, c0⟩ := HU.out wr HB.out 0 hpos
            subst hbo
            obtain ⟨b', of', hbo, c1⟩ := HU.out wr HB.out n hnl
            simp only [Option.some.injEq, Addr.mk.injEq, and_true] at hbo
            obtain ⟨rfl, rfl⟩ := hbo
            rw [List.getElem?_eq_getElem hpos] at hx0
            rw [List.getElem?_eq_getElem hnl] at hxn
            rw [Option.some.inj hx0] at c0
            rw [Option.some.inj hxn] at c1
            rw [Nat.add_zero] at c0
            have H5 := Lib.hid (H4.out.trans (HB.out.mono H4.out.size))
            have ez : ((L.length : Int) == 0) = false := by rw [beq_eq_false_iff_ne]; omega
            have wn : IntKind.i64.wrap ((L.length : Int) - 1) = (n : Int) := by rw [IntKind.wrap_i64]; omega
            have hni : (n : Int) < (L.length : Int) := by omega
            have hpi : (0 : Int) < (L.length : Int) := by omega
            have hai : (0 : Int) < (a.length : Int) := by omega
            have f1 : ((S (c :: t)).toList == []) = false := by rw [S_toList]; rfl
            have f2 : ((S s).toList == []) = false := by rw [S_toList]; simpa using hsn
            have f3 : ((S (c :: t)).toList != []) = true := by rw [S_toList]; rfl
            have f4 : ((S s).toList != []) = true := by rw [S_toList]; simpa using hsn
            have hsz : 0 < (S (c :: t)).size := by rw [S_size]; simp
            have hby : (S (c :: t))[0]'hsz = c := rfl
            have hcn : ((c.toNat : Int) != 32) = true := by rw [bne_iff_ne]; intro h; exact hc (UInt8.toNat_inj.1 (by show c.toNat = 32; omega))
            rw [← hby] at hcn
            clear HEnd HNil HAl h0 hlt hx0 hxn hc hsn hane hby HU
            generalize S (c :: t) = sx at *
            generalize S s = sy at *
            go_wp2_with fail
            go_quiet (fail)
            go_wp2_with fail
            go_ret
            exact ⟨ret_bool (by simp), below_drewN H5.out _⟩
end Go.Proofs.YthpnbialpkkpgaaGreatDoor.Wr
