/-
  THE WALK of the statement SpanoutJoins.
-/
import Derived.Test.YtjgmfgnfdaeelaaDoorSo9TellW
import Derived.Test.YtjgmfgnfdaeelaaDoorSpRow
namespace Go.Proofs.YtjgmfgnfdaeelaaDoor.Sp
open Go.RowKit
open Go.Proofs.YtjgmfgnfdaeelaaDoor.Tk (S S_of S_list S_size S_toList S_app ret_int)
open Go.Proofs.YtjgmfgnfdaeelaaDoor.Cm (calls_at)
set_option linter.unusedVariables false

theorem fitAll_app {R : Nat} : ∀ {a b : List Sp}, fitAll R a → fitAll R b → fitAll R (a ++ b)
  | [], b, _, h => h
  | x :: a, b, h, h' => by
    unfold fitAll at h
    rw [List.cons_append]
    unfold fitAll
    exact ⟨h.1, fitAll_app h.2 h'⟩
theorem wrs_both : ∀ a b : List Sp, wrs (a ++ b) = wrs a ++ wrs b
  | [], b => by simp [wrs]
  | x :: a, b => by rw [List.cons_append, wrs_cons, wrs_cons, wrs_both a b, List.append_assoc]
theorem fit_wide3 {l : List Sp} (h : fitAll reachBytes l) : fitAll 140737488355328 l := fitAll_wide (by decide) l h

set_option maxHeartbeats 3200000 in
set_option maxRecDepth 100000 in
theorem spanoutJoins_walk (K : Told9w) (w : World) (va : Value) (a : List Sp) (ra : Tr w va a) (fa : fitAll reachBytes a) (vb : Value) (b : List Sp) (rb : Tr w vb b) (fb : fitAll reachBytes b) :
    Calls Tryd.prog 5 #[va, vb] w (OkAns w true) := by
  obtain ⟨aa, ca, rfl⟩ := ra.len
  obtain ⟨ab, cb, rfl⟩ := rb.len
  have HA := Lib.hid (awake9_any K)
  have RA := Lib.hid ra
  have RB := Lib.hid rb
  have FA := Lib.hid (fun w' (h : Below w.heap.size w w') => few9_any a _ w' (RA.out.below h) fa)
  have FB := Lib.hid (fun w' (h : Below w.heap.size w w') => few9_any b _ w' (RB.out.below h) fb)
  clear ra rb
  go_enter Tryd.func5, Tryd.ntmps5
  go_wp2_with fail
  refine (HA.out _).mono ?_
  rintro e w2 ⟨rfl, b2⟩
  have H2 := Lib.hid b2
  clear b2
  go_wp2_with fail
  refine (FA.out _ H2.out).mono ?_
  rintro e w3 ⟨rfl, rfl⟩
  clear FA
  cases ha : fewB9 a with
  | false =>
    go_wp2_with fail
    refine (HA.out _).mono ?_
    rintro e w4 ⟨rfl, b4⟩
    have H4 := Lib.hid (H2.out.trans (b4.mono H2.out.size))
    clear b4
    go_wp2_with fail
    go_ret
    exact ⟨rfl, H4.out⟩
  | true =>
    go_wp2_with fail
    refine (FB.out _ H2.out).mono ?_
    rintro e w3 ⟨rfl, rfl⟩
    clear FB
    cases hb : fewB9 b with
    | false =>
      go_wp2_with fail
      refine (HA.out _).mono ?_
      rintro e w4 ⟨rfl, b4⟩
      have H4 := Lib.hid (H2.out.trans (b4.mono H2.out.size))
      clear b4
      go_wp2_with fail
      go_ret
      exact ⟨rfl, H4.out⟩
    | true =>
      have ta := (few9_of ha).1
      have tb := (few9_of hb).1
      have la := totAll_len a
      have lb := totAll_len b
      obtain ⟨pa, hpa, rka, kka⟩ := RA.out.pairs
      obtain ⟨pb, hpb, rkb, kkb⟩ := RB.out.pairs
      have lpa : pa.length = a.length := by rw [← hpa, List.length_map]
      have lpb : pb.length = b.length := by rw [← hpb, List.length_map]
      have hba : Below w2.heap.size w2 (w2.alloc (.cells #[] 35)) := (Below.refl _ _).alloc (Nat.le_refl _) _
      have Hba := H2.out.trans (hba.mono H2.out.size)
      have oA : (w2.alloc (.cells #[] 35)).ownsRow w2.heap.size 35 3 (.slice (some ⟨w2.heap.size, 0, none⟩) 0 0) ([] : List (Sp × Value)).length (([] : List (Sp × Value)).flatMap encT) := World.ownsRow_lit w2 #[] 0 (Nat.le_refl _) (Nat.zero_le _) rfl
      obtain ⟨v3, w3, q3, o3, g3⟩ := run_append_sp oA (rka.below Hba) (fun p hp => (kka p hp).below Hba) (by simp) (by simp; omega)
      have hb3 := hba.grown g3 (by simp) (fun k hk => (oA.lt k hk).1)
      have H3 := H2.out.trans (hb3.mono H2.out.size)
      obtain ⟨v4, w4, q4, o4, g4⟩ := run_append_sp o3 (rkb.below H3) (fun p hp => (kkb p hp).below H3) hb3.size (by simp; omega)
      have hb4 := hb3.grown g4 hb3.size (fun k hk => (o3.lt k hk).1)
      have H4 := Lib.hid (H2.out.trans (hb4.mono H2.out.size))
      have hT := Tr.of_own o4 (fun p hp => by
        rw [List.nil_append, List.mem_append] at hp
        rcases hp with hp | hp
        · exact (kka p hp).below H4.out
        · exact (kkb p hp).below H4.out)
      rw [List.nil_append, List.map_append, hpa, hpb] at hT
      obtain ⟨l, hl⟩ : ∃ l, a ++ b = l := ⟨_, rfl⟩
      rw [hl] at hT
      have hlt : totAll l ≤ 600 := by rw [← hl, totAll_app]; omega
      have hlf : fitAll 140737488355328 l := by rw [← hl]; exact fitAll_app (fit_wide3 fa) (fit_wide3 fb)
      have HT := Lib.hid hT
      have WA := Lib.hid (fun w' (h : Below w.heap.size w w') => K.write _ a w' (RA.out.below h) (by omega) (fit_wide3 fa))
      have WB := Lib.hid (fun w' (h : Below w.heap.size w w') => K.write _ b w' (RB.out.below h) (by omega) (fit_wide3 fb))
      have WL := Lib.hid (fun w' (h : Below w4.heap.size w4 w') => K.write _ l w' (HT.out.below h) (by omega) hlf)
      have sa := Nat.le_trans (wrs_le a) (Nat.mul_le_mul_left 6 (Nat.le_of_lt ta))
      have sb := Nat.le_trans (wrs_le b) (Nat.mul_le_mul_left 6 (Nat.le_of_lt tb))
      have za : (wrB a).size ≤ 1800 := by
        unfold wrB
        rw [S_size]
        split
        · exact sa
        · simp
      have zb : (wrB b).size ≤ 1800 := by
        unfold wrB
        rw [S_size]
        split
        · exact sb
        · simp
      have gg : ¬ 9223372036854775807 < (wrB a).size + (wrB b).size := by omega
      have HQ : Hid (rtB a = true → rtB b = true → rtB l = true → ((wrB a ++ wrB b).toList == (wrB l).toList) = true) := Lib.hid (fun h1 h2 h3 => by
        unfold wrB
        rw [if_pos h1, if_pos h2, if_pos h3, S_app, ← hl, wrs_both]
        simp)
      have EA : Hid (erB a = if rtB a = true then 0 else 6) := Lib.hid rfl
      have EB : Hid (erB b = if rtB b = true then 0 else 6) := Lib.hid rfl
      have EL : Hid (erB l = if rtB l = true then 0 else 6) := Lib.hid rfl
      obtain ⟨a4, c4, hv4⟩ := hT.len
      have HW := Lib.hid (fun w' (h : Below w4.heap.size w4 w') => H4.out.trans (h.mono H4.out.size))
      subst hv4
      obtain ⟨a3, c3, rfl⟩ : ∃ ao cap, v3 = .slice ao ([] ++ pa).length cap := by
        rcases o3.2 with ⟨rfl, hz⟩ | ⟨g, cap, _, rfl, _⟩
        · exact ⟨none, 0, by rw [hz]⟩
        · exact ⟨_, _, rfl⟩
      clear hT o4 g4 hb4 o3 g3 hb3 oA hba Hba H3 rka rkb kka kkb hpa hpb lpa lpb ha hb ta tb hl HA la lb RA RB hlt hlf sa sb za zb fa fb K
      generalize wrB a = xa at *
      generalize wrB b = xb at *
      generalize wrB l = xl at *
      generalize erB a = na at *
      generalize erB b = nb at *
      generalize erB l = nl at *
      generalize rtB a = ya at *
      generalize rtB b = yb at *
      generalize rtB l = yl at *
      generalize l.length = ln at *
      go_wp2_with (first
        | (at_builtin; refine Lib.wpList_append_run _ rfl (.tmp 25) (.tmp 26) _ _ rfl _ _ rfl rfl _ _ (q3 _) ?_)
        | (at_builtin; refine Lib.wpList_append_run _ rfl (.tmp 27) (.tmp 28) _ _ rfl _ _ rfl rfl _ _ (q4 _) ?_))
      have G4 := Lib.hid (Below.refl w4.heap.size w4)
      refine (WA.out _ H4.out).mono ?_
      rintro e w5 ⟨rfl, b5⟩
      have G5 := Lib.hid (G4.out.trans (b5.mono G4.out.size))
      clear b5 WA q3 q4
      go_wp2_with fail
      refine (WB.out _ (HW.out _ G5.out)).mono ?_
      rintro e w6 ⟨rfl, b6⟩
      have G6 := Lib.hid (G5.out.trans (b6.mono G5.out.size))
      clear b6 WB
      go_wp2_with fail
      refine (WL.out _ G6.out).mono ?_
      rintro e w7 ⟨rfl, b7⟩
      have G7 := Lib.hid (HW.out _ (G6.out.trans (b7.mono G6.out.size)))
      clear b7 WL G6 G5 G4 HW
      cases ya with
      | false =>
        have f1 : (na != 0) = true := by rw [EA.out]; rfl
        clear EA EB EL HQ
        go_wp2_with fail
        go_ret
        exact ⟨rfl, G7.out⟩
      | true =>
        have f1 : (na != 0) = false := by rw [EA.out]; rfl
        cases yb with
        | false =>
          have f2 : (nb != 0) = true := by rw [EB.out]; rfl
          clear EA EB EL HQ
          go_wp2_with fail
          go_ret
          exact ⟨rfl, G7.out⟩
        | true =>
          have f2 : (nb != 0) = false := by rw [EB.out]; rfl
          cases yl with
          | false =>
            have f3 : (nl != 0) = true := by rw [EL.out]; rfl
            clear EA EB EL HQ
            go_wp2_with fail
            go_ret
            exact ⟨rfl, G7.out⟩
          | true =>
            have f3 : (nl != 0) = false := by rw [EL.out]; rfl
            have q := HQ.out rfl rfl rfl
            clear EA EB EL HQ
            go_wp2_with fail
            go_ret
            exact ⟨rfl, G7.out⟩

end Go.Proofs.YtjgmfgnfdaeelaaDoor.Sp
