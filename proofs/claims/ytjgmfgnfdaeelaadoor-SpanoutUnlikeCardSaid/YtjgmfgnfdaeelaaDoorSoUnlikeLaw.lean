/-
  The card of SpanoutUnlike: for every input the law returns true, and each argument reads afterwards as it read before; the package-level variables that the row lists are tied to the program's text (the walk reads none of them). No other condition.
-/
import Derived.Test.YtjgmfgnfdaeelaaDoorSo9TellW
import Derived.Test.YtjgmfgnfdaeelaaDoorSoFits
import Derived.Test.YtjgmfgnfdaeelaaDoorRows
import Derived.Test.YtjgmfgnfdaeelaaDoorCards
import Derived.Test.YtjgmfgnfdaeelaaDoorTie
import Derived.Test.YtjgmfgnfdaeelaaDoorSpFrame
import Derived.Test.YtjgmfgnfdaeelaaDoorSoProgW
import Derived.WalkKit
import Derived.ProofKit
import Derived.OpenShut
import Derived.ShutString
import Derived.SizedLaws
import Derived.Lay
import Derived.SevenTiedAt
import Derived.Laws.AppendOwnNone
namespace Go.Proofs.YtjgmfgnfdaeelaaDoor.Sp
open Go.RowKit
open Go.Proofs.YtjgmfgnfdaeelaaDoor.Tk (S S_of S_list S_size S_toList S_app ret_int eq8 ne8 at_data len_data)
open Go.Proofs.YtjgmfgnfdaeelaaDoor.Cm (calls_at)
set_option linter.unusedVariables false

theorem fit_wide2 {l : List Sp} (h : fitAll reachBytes l) : fitAll 140737488355328 l := fitAll_wide (by decide) l h
theorem unlike_q {a b : List Sp} (ha : rtB a = true) (hb : rtB b = true) : ((wrB a).toList == (wrB b).toList) = smAll a b := by
  unfold wrB
  rw [if_pos ha, if_pos hb, S_toList, S_toList, Bool.eq_iff_iff, beq_iff_eq, smAll_iff]
  exact wrs_like ha hb

set_option maxHeartbeats 3200000 in
set_option maxRecDepth 100000 in
theorem spanoutUnlike_walk (K : Told9w) (w : World) (va : Value) (a : List Sp) (ra : Tr w va a) (fa : fitAll reachBytes a) (vb : Value) (b : List Sp) (rb : Tr w vb b) (fb : fitAll reachBytes b) :
    Calls Tryd.prog 4 #[va, vb] w (OkAns w true) := by
  obtain ⟨al, cl, rfl⟩ := ra.len
  obtain ⟨bl, dl, rfl⟩ := rb.len
  have HA := Lib.hid (awake9_any K)
  have RA := Lib.hid ra
  have RB := Lib.hid rb
  have FA := Lib.hid (fun w' (h : Below w.heap.size w w') => few9_any a _ w' (RA.out.below h) fa)
  have FB := Lib.hid (fun w' (h : Below w.heap.size w w') => few9_any b _ w' (RB.out.below h) fb)
  clear ra rb
  go_enter Tryd.func4, Tryd.ntmps4
  go_wp2_with fail
  refine (HA.out _).mono ?_
  rintro e w2 ⟨rfl, b2⟩
  have H2 := Lib.hid b2
  clear b2
  go_wp2_with fail
  refine (FA.out _ H2.out).mono ?_
  rintro e w3 ⟨rfl, rfl⟩
  clear FA
  cases hfa : fewB9 a with
  | false =>
    go_wp2_with fail
    refine (HA.out _).mono ?_
    rintro e w4 ⟨rfl, b4⟩
    have H4 := Lib.hid (H2.out.trans (b4.mono H2.out.size))
    clear b4
    go_wp2_with fail
    go_ret
    exact ⟨rfl, H4.out⟩
  | true =>
    go_wp2_with fail
    refine (FB.out _ H2.out).mono ?_
    rintro e w3 ⟨rfl, rfl⟩
    clear FB
    cases hfb : fewB9 b with
    | false =>
      go_wp2_with fail
      refine (HA.out _).mono ?_
      rintro e w4 ⟨rfl, b4⟩
      have H4 := Lib.hid (H2.out.trans (b4.mono H2.out.size))
      clear b4
      go_wp2_with fail
      go_ret
      exact ⟨rfl, H4.out⟩
    | true =>
      have ta := (few9_of hfa).1
      have tb := (few9_of hfb).1
      have S1 := Lib.hid (fun w' (h : Below w.heap.size w w') => K.write _ a w' (RA.out.below h) (by omega) (fit_wide2 fa))
      have S2 := Lib.hid (fun w' (h : Below w.heap.size w w') => K.write _ b w' (RB.out.below h) (by omega) (fit_wide2 fb))
      have S3 := Lib.hid (fun w' (h : Below w.heap.size w w') => rsame_any (totAll a) a b _ _ w' (Nat.le_refl _) (RA.out.below h) (RB.out.below h))
      have HQ := Lib.hid (fun ha hb => unlike_q (a := a) (b := b) ha hb)
      unfold erB at S1 S2
      clear ta tb hfa hfb HA RA RB fa fb K
      cases hra : rtB a with
      | false =>
        rw [hra, if_neg (by simp)] at S1
        clear S3 HQ hra
        generalize wrB a = x at *
        generalize wrB b = y at *
        generalize (if rtB b = true then (0 : Int) else 6) = n at *
        go_wp2_with fail
        refine (S1.out _ H2.out).mono ?_
        rintro e w4 ⟨rfl, b4⟩
        have H4 := Lib.hid (H2.out.trans (b4.mono H2.out.size))
        clear b4 S1
        go_wp2_with fail
        refine (S2.out _ H4.out).mono ?_
        rintro e w5 ⟨rfl, b5⟩
        have H5 := Lib.hid (H4.out.trans (b5.mono H4.out.size))
        clear b5 S2
        go_wp2_with fail
        go_ret
        exact ⟨rfl, H5.out⟩
      | true =>
        rw [hra, if_pos rfl] at S1
        cases hrb : rtB b with
        | false =>
          rw [hrb, if_neg (by simp)] at S2
          clear S3 HQ hra hrb
          generalize wrB a = x at *
          generalize wrB b = y at *
          go_wp2_with fail
          refine (S1.out _ H2.out).mono ?_
          rintro e w4 ⟨rfl, b4⟩
          have H4 := Lib.hid (H2.out.trans (b4.mono H2.out.size))
          clear b4 S1
          go_wp2_with fail
          refine (S2.out _ H4.out).mono ?_
          rintro e w5 ⟨rfl, b5⟩
          have H5 := Lib.hid (H4.out.trans (b5.mono H4.out.size))
          clear b5 S2
          go_wp2_with fail
          go_ret
          exact ⟨rfl, H5.out⟩
        | true =>
          rw [hrb, if_pos rfl] at S2
          have q1 := HQ.out hra hrb
          clear HQ hra hrb
          generalize wrB a = x at *
          generalize wrB b = y at *
          generalize smAll a b = d at *
          have q2 : (d == d) = true := by simp
          go_wp2_with fail
          refine (S1.out _ H2.out).mono ?_
          rintro e w4 ⟨rfl, b4⟩
          have H4 := Lib.hid (H2.out.trans (b4.mono H2.out.size))
          clear b4 S1
          go_wp2_with fail
          refine (S2.out _ H4.out).mono ?_
          rintro e w5 ⟨rfl, b5⟩
          have H5 := Lib.hid (H4.out.trans (b5.mono H4.out.size))
          clear b5 S2
          go_wp2_with fail
          refine (S3.out _ H5.out).mono ?_
          rintro e w6 ⟨rfl, n, rfl⟩
          have H6 := Lib.hid (below_drewN H5.out n)
          clear S3
          go_wp2_with fail
          go_ret
          exact ⟨rfl, H6.out⟩

end Go.Proofs.YtjgmfgnfdaeelaaDoor.Sp

namespace Go.Proofs.YtjgmfgnfdaeelaaDoor.spanoutUnlike
open Go.ChangeShapes Go.WideShapes Go.ChangeAt Go.RowKit
open Go.ChangeMaps (open_string shut_string)
open Go.Proofs.YtjgmfgnfdaeelaaDoor.Tk Go.Proofs.YtjgmfgnfdaeelaaDoor.Sp Go.Proofs.YtjgmfgnfdaeelaaDoor.Cm
set_option linter.unusedVariables false

theorem own : ownKnob Tryd.prog.godebug = none := by kernel_rfl

set_option maxRecDepth 100000 in
theorem lifted (os : Os) (started : os.Started) (H : Type) (enc : TypeId × Value → H) :
    ReturnsInHanded {} Tryd.checked os 4 .any (fun w args => (Rows.spanoutUnlikeSpec.pre enc Tryd.prog Tryd.f4 Rows.spanoutUnlikeRow.domain false w args ∧ laidMetH Tryd.prog Rows.spanoutUnlikeRow.laid w) ∧ sizedMet enc Tryd.prog Tryd.f4 (OpenSpec.ofChange Rows.spanoutUnlikeSpec) false w args)
      (Rows.spanoutUnlikeSpec.post enc Tryd.prog Tryd.f4 false true false false) := by
  refine returnsInHanded_of_change_and (C := Tryd.checked) (X := fun w _ => laidMetH Tryd.prog Rows.spanoutUnlikeRow.laid w) (fun _ _ _ hh h => h.of_heap hh) own started (by kernel_rfl) Tryd.func4
    (ChangeSpec.witness_shaped (enc := enc) (C := Tryd.checked) (os := os) (X := fun w _ => laidMetH Tryd.prog Rows.spanoutUnlikeRow.laid w) false (World.laidAll Tryd.prog os Rows.spanoutUnlikeRow.laid) #[.slice none 0 0, .slice none 0 0] 8 (World.laidAll_os _ _ _)
      (World.shaped_of_ZipB (by kernel_rfl) (by kernel_rfl)) (by kernel_rfl) (by kernel_rfl) (by kernel_rfl)
      (by rw [MakeChecks.laidMetH_plain _ _ _ (by kernel_rfl)]; exact laidMet_laidAll _ (by kernel_rfl) (by kernel_rfl))) ?_
  intro W base args ds gs before hval0 hW hcnd hsz0 hL _
  have hval : ∀ (j : Nat) t v, Tryd.f4.params[j]? = some t → args[j]? = some v → Value.okWide Tryd.prog W .any base t v := hval0
  have hsz : (DataW.weightsEach Tryd.prog (Tryd.f4.params.toList ++ Rows.spanoutUnlikeSpec.plain.varTypes Tryd.prog) (ds ++ gs)).all (· ≤ reachBytes) = true := hsz0
  have hW' := hW
  obtain ⟨p, q, hA0, hV, rfl, hfz, hnd⟩ := hW
  have hA : DataW.TrodAll enc Tryd.prog W 0 (fun _ => true) true Tryd.f4.params.toList args.toList ds p := hA0
  rw [Tryd.params4] at hA hval hsz
  obtain ⟨v0, vs0, d0, ds0, p0, q0, hargs, rfl, rfl, h0, r0⟩ := trodAll_cons hA
  obtain ⟨v1, vs1, d1, ds1, p1, q1, rfl, rfl, rfl, h1, r1⟩ := trodAll_cons r0
  obtain ⟨rfl, rfl, rfl⟩ := trodAll_nil r1
  obtain rfl : args = #[v0, v1] := by cases args; simp_all
  obtain ⟨rfl, rfl⟩ := trodVars_none hV
  obtain ⟨s0, l0, c0, rfl⟩ := okWide_slice Tryd.underlying22 (hval 0 22 v0 rfl rfl)
  obtain ⟨s1, l1, c1, rfl⟩ := okWide_slice Tryd.underlying22 (hval 1 22 v1 rfl rfl)
  have hlt0 : ∀ x ∈ p0, x.block < W.heap.size := fun x hx => hW'.lt x (by simp [hx])
  obtain ⟨x0, w0, n0⟩ := spans_of h0 hsz (j := 0) rfl rfl
  have hlt1 : ∀ x ∈ p1, x.block < W.heap.size := fun x hx => hW'.lt x (by simp [hx])
  obtain ⟨x1, w1, n1⟩ := spans_of h1 hsz (j := 1) rfl rfl
  clear hA0 hval0 hsz0
  simp only [List.append_nil] at hW'
  refine (spanoutUnlike_walk told9w W _ x0 w0 n0 _ x1 w1 n1).mono fun e W' ⟨he, bel⟩ => ?_
  subst he
  exact ⟨_, rfl, _, _, _, [], _, [], hW', trodAll_mk1 (shut_bool Tryd.underlying4 _), (trodAll_cons_mk (Below.trod laidOut (by kernel_rfl) (of_decide_eq_true (by kernel_rfl)) h0 bel hlt0) (trodAll_cons_mk (Below.trod laidOut (by kernel_rfl) (of_decide_eq_true (by kernel_rfl)) h1 bel hlt1) trodAll_mk0)), rfl, bel.frame _, fun h => by cases h⟩

theorem over : Rows.spanoutUnlikeRow.holds Tryd.pinned (OpenSpec.ofChange Rows.spanoutUnlikeSpec) :=
  OpenClaim.holds_of_wide 4 Tryd.f4 rfl rfl rfl rfl rfl rfl rfl ⟨rfl, rfl, rfl, rfl, rfl⟩ rfl rfl rfl rfl rfl (by kernel_rfl) Tryd.func4 (by kernel_rfl)
    (of_decide_eq_true (by kernel_rfl)) (by unfold Func.isWrapper; first | (rw [if_pos (by decide +kernel)]; kernel_rfl) | (rw [if_neg (by decide +kernel)]; exact ⟨rfl, rfl⟩))
    (fun os started H enc _ => lifted os started H enc)

theorem card : Rows.SpanoutUnlikeCardSaid :=
  Claim7.holds_tied_plain_at .later [] [.data, .pinned] true _ false over (fun _ h => by cases h) (by kernel_rfl) (fun _ h => by cases h) spanoutUnlike_row_tie rfl ⟨rfl, rfl⟩ (by kernel_rfl) rfl
    (fun f fn hf hfn => by
      obtain rfl : f = 4 := Option.some.inj ((show Tryd.prog.funcNamed Rows.spanoutUnlikeRow.func = some 4 by kernel_rfl).symm.trans hf) |>.symm
      obtain rfl : fn = Tryd.f4 := (Option.some.inj (Tryd.func4.symm.trans hfn)).symm
      exact ⟨by kernel_rfl, fun j t ht => by
        rw [Tryd.params4] at ht
        have hm : t ∈ [22, 22] := by simpa using Array.mem_of_getElem? ht
        have hall : ([22, 22].all fun u => !Tryd.prog.wantsStandIn u) = true := by kernel_rfl
        exact (show Tryd.prog.wantsStandIn t = false by simpa using List.all_eq_true.1 hall t hm)⟩)
    (by kernel_rfl)
end Go.Proofs.YtjgmfgnfdaeelaaDoor.spanoutUnlike
