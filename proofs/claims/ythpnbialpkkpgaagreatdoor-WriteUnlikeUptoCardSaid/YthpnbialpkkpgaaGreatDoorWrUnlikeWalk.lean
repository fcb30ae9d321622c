import Derived.Test.YthpnbialpkkpgaaGreatDoorWrSmall
namespace Go.Proofs.YthpnbialpkkpgaaGreatDoor.Wr
open Go.RowKit
open Go.Proofs.YthpnbialpkkpgaaGreatDoor.Tk (S S_list S_size S_toList)
open Go.Proofs.YthpnbialpkkpgaaGreatDoor.Sp (ret_bool OkAns)
open Go.Proofs.YthpnbialpkkpgaaGreatDoor.Bt (TrB fitAll ttAll rgB smB szAll rsameB_any smB_iff)
open Go.Proofs.YthpnbialpkkpgaaGreatDoor.Bk (Bk Tx wl)
set_option linter.unusedVariables false
set_option maxHeartbeats 3200000 in
theorem writeUnlike_walk (w : World) (va : Value) (a : List Bk) (ra : TrB w va a) (fa : fitAll reachBytes a) (ta : ttAll a ≤ 1048576) (vb : Value) (b : List Bk) (rb : TrB w vb b) (fb : fitAll reachBytes b) (tb : ttAll b ≤ 1048576) :
    Calls Tryz.prog 7 #[va, vb] w (OkAns w true) := by
  obtain ⟨aa, ca, rfl⟩ := ra.len
  obtain ⟨ab, cb, rfl⟩ := rb.len
  have HA := Lib.hid awake13_any
  have FA := Lib.hid (fun w' (h : Below w.heap.size w w') => small_any a _ w' (ra.below h) fa)
  have FB := Lib.hid (fun w' (h : Below w.heap.size w w') => small_any b _ w' (rb.below h) fb)
  have fs := Bt.fitAll_tt a fa ta
  have ft := Bt.fitAll_tt b fb tb
  have no : ∀ (P : Prop), P → P := fun _ h => h
  cases hs : smallB a with
  | false =>
    rw [hs] at FA
    clear ra fs fa ta hs rb fb tb ft FB
    go_enter Tryz.func7, Tryz.ntmps7
    go_wp2_with fail
    refine (HA.out _).mono ?_
    rintro e w2 ⟨rfl, b2⟩
    have H2 := Lib.hid b2
    clear b2
    go_wp2_with fail
    refine (FA.out _ H2.out).mono ?_
    rintro e w3 ⟨rfl, b3⟩
    have H3 := Lib.hid (H2.out.trans (b3.mono H2.out.size))
    clear FA b3
    go_wp2_with fail
    refine (HA.out _).mono ?_
    rintro e w4 ⟨rfl, b4⟩
    have H4 := Lib.hid (H3.out.trans (b4.mono H3.out.size))
    clear b4
    go_wp2_with fail
    go_ret
    exact ⟨rfl, H4.out⟩
  | true =>
    rw [hs] at FA
    have hta := small_tt hs ta
    cases hs2 : smallB b with
    | false =>
      rw [hs2] at FB
      clear ra fs fa ta hs rb fb tb ft hs2 hta
      go_enter Tryz.func7, Tryz.ntmps7
      go_wp2_with fail
      refine (HA.out _).mono ?_
      rintro e w2 ⟨rfl, b2⟩
      have H2 := Lib.hid b2
      clear b2
      go_wp2_with fail
      refine (FA.out _ H2.out).mono ?_
      rintro e w3 ⟨rfl, b3⟩
      have H3 := Lib.hid (H2.out.trans (b3.mono H2.out.size))
      clear FA b3
      go_wp2_with fail
      refine (FB.out _ H3.out).mono ?_
      rintro e w5 ⟨rfl, b5⟩
      have H5 := Lib.hid (H3.out.trans (b5.mono H3.out.size))
      clear FB b5
      go_wp2_with fail
      refine (HA.out _).mono ?_
      rintro e w4 ⟨rfl, b4⟩
      have H4 := Lib.hid (H5.out.trans (b4.mono H5.out.size))
      clear b4
      go_wp2_with fail
      go_ret
      exact ⟨rfl, H4.out⟩
    | true =>
      rw [hs2] at FB
      have htb := small_tt hs2 tb
      have HD := Lib.hid (fun w' (h : Below w.heap.size w w') => documentW_any _ a w' (ra.below h) fs (by omega))
      have HE := Lib.hid (fun w' (h : Below w.heap.size w w') => documentW_any _ b w' (rb.below h) ft (by omega))
      have HS := Lib.hid (fun w' (h : Below w.heap.size w w') => rsameB_any (szAll a) a b _ _ w' (Nat.le_refl _) (ra.below h) (rb.below h))
      have h6 : ∀ l : List Bk, (wrE l = 6) ∨ (wrE l = 0 ∧ rgB l = true ∧ wrL l = wl l) := fun l => by
        unfold wrE wrL
        by_cases h : rgB l = true
        · rw [if_pos h, if_pos h]; exact Or.inr ⟨rfl, h, rfl⟩
        · rw [if_neg h]; exact Or.inl rfl
      have ha6 := h6 a
      have hb6 := h6 b
      have HL := Lib.hid (fun (h1 : rgB a = true) (h2 : rgB b = true) => like h1 h2 (by omega) (by omega))
      unfold WrDoc at HD HE
      clear ra fs fa ta hs rb fb tb ft hs2 hta htb h6
      generalize wrL a = La at *
      generalize wrL b = Lb at *
      generalize wrE a = Ea at *
      generalize wrE b = Eb at *
      go_enter Tryz.func7, Tryz.ntmps7
      go_wp2_with fail
      refine (HA.out _).mono ?_
      rintro e w2 ⟨rfl, b2⟩
      have H2 := Lib.hid b2
      clear b2
      go_wp2_with fail
      refine (FA.out _ H2.out).mono ?_
      rintro e w3 ⟨rfl, b3⟩
      have H3 := Lib.hid (H2.out.trans (b3.mono H2.out.size))
      clear FA b3
      go_wp2_with fail
      refine (FB.out _ H3.out).mono ?_
      rintro e w5 ⟨rfl, b5⟩
      have H5 := Lib.hid (H3.out.trans (b5.mono H3.out.size))
      clear FB b5
      go_wp2_with fail
      refine (HD.out _ H5.out).mono ?_
      rintro e w6 ⟨rfl, b6⟩
      have H6 := Lib.hid (H5.out.trans (b6.mono H5.out.size))
      clear HD b6
      go_wp2_with fail
      refine (HE.out _ H6.out).mono ?_
      rintro e w7 ⟨rfl, b7⟩
      have H7 := Lib.hid (H6.out.trans (b7.mono H6.out.size))
      clear HE b7
      rcases ha6 with ha6 | ⟨ha6, ra1, la1⟩
      · subst ha6
        go_wp2_with fail
        go_ret
        exact ⟨rfl, H7.out⟩
      · rcases hb6 with hb6 | ⟨hb6, rb1, lb1⟩
        · subst ha6
          subst hb6
          go_wp2_with fail
          go_ret
          exact ⟨rfl, H7.out⟩
        · have HL2 := Lib.hid (HL.out ra1 rb1)
          subst ha6
          subst hb6
          subst la1
          subst lb1
          have HQ : Hid (((S (Ln.jn (wl a) true)).toList == (S (Ln.jn (wl b) true)).toList) = smB a b) := Lib.hid (by
            rw [S_toList, S_toList, Bool.eq_iff_iff, beq_iff_eq, smB_iff]
            exact HL2.out)
          have hq := HQ.out
          clear HL HL2 ra1 rb1 HQ
          generalize S (Ln.jn (wl a) true) = y at *
          generalize S (Ln.jn (wl b) true) = z at *
          generalize smB a b = d at *
          go_wp2_with fail
          refine (HS.out _ H7.out).mono ?_
          rintro e w8 ⟨rfl, b8⟩
          have H8 := Lib.hid (H7.out.trans (b8.mono H7.out.size))
          clear HS b8
          go_wp2_with fail
          go_ret
          exact ⟨ret_bool (by simp), H8.out⟩
end Go.Proofs.YthpnbialpkkpgaaGreatDoor.Wr
