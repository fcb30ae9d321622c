/-
  The card of LinesRuns: for every input the law returns true, and each argument reads afterwards as it read before; the package-level variables that the row lists are tied to the program's text (the walk reads none of them). No other condition.
-/
import Derived.Test.YtkldndmmjgodbaaDoorRows
import Derived.Test.YtkldndmmjgodbaaDoorCards
import Derived.Test.YtkldndmmjgodbaaDoorTie
import Derived.Test.YtkldndmmjgodbaaDoorLnMore
import Derived.Test.YtkldndmmjgodbaaDoorLnFrame
import Derived.WalkKit
import Derived.ProofKit
import Derived.OpenShut
import Derived.ShutString
import Derived.SizedLaws
import Derived.Lay
import Derived.SevenTiedAt
namespace Go.Proofs.YtkldndmmjgodbaaDoor.linesRuns
open Go.ChangeShapes Go.WideShapes Go.ChangeAt Go.RowKit
open Go.ChangeMaps (open_string shut_string)
open Go.Proofs.YtkldndmmjgodbaaDoor.Ln
set_option linter.unusedVariables false

theorem own : ownKnob Tryd.prog.godebug = none := by kernel_rfl

theorem max3 (w : World) (x y z : Int) : (Builtin.max_ #[3, 3, 3] 3 #[.int .i64 x, .int .i64 y, .int .i64 z]).run Tryd.prog w = .ok (.int .i64 (max (max x y) z)) w := by
  have e : ∀ x y : Int, (if y > x then y else x) = max x y := fun x y => by
    rw [Int.max_def]
    split <;> split <;> omega
  simp [Builtin.max_, Builtin.max2, e]

set_option maxHeartbeats 1600000 in
theorem walk (w : World) (a0 : ByteArray) (w0 : a0.size ≤ maxLen) (r0 : a0.size ≤ reachBytes) (a1 : ByteArray) (w1 : a1.size ≤ maxLen) (r1 : a1.size ≤ reachBytes) (a2 : UInt8) :
    Calls Tryd.prog 8 #[.string a0, .string a1, .int .u8 a2.toNat] w fun e w' => e = .returned (.bool true) ∧ Below w.heap.size w w' := by
  have r0' : a0.size ≤ 140737488355328 := by unfold reachBytes at r0; omega
  have r1' : a1.size ≤ 140737488355328 := by unfold reachBytes at r1; omega
  by_cases hl : 2000 < (a0.size : Int) + (a1.size : Int)
  · go_enter Tryd.func8, Tryd.ntmps8
    go_wp2_with fail
    refine (awake_any _).mono ?_
    rintro e w1 ⟨rfl, hb⟩
    go_wp2_with fail
    refine (awake_any _).mono ?_
    rintro e w2 ⟨rfl, hb2⟩
    go_wp2_with fail
    go_ret
    exact ⟨rfl, hb.trans (hb2.mono hb.size)⟩
  have el : decide (2000 < (a0.size : Int) + (a1.size : Int)) = false := decide_eq_false hl
  have z0 : a0.size ≤ 2000 := by omega
  have z1 : a1.size ≤ 2000 := by omega
  have hsz2 : (a0 ++ a1).size = a0.size + a1.size := ByteArray.size_append
  have Hra := Lib.hid (run_any a0 (by omega) a2)
  have Hrb := Lib.hid (run_any a1 (by omega) a2)
  have Hrc := Lib.hid (run_any (a0 ++ a1) (by omega) a2)
  have Hga := Lib.hid (longest_any a0 (by omega) a2)
  have Hgb := Lib.hid (longest_any a1 (by omega) a2)
  have Hgc := Lib.hid (longest_any (a0 ++ a1) (by omega) a2)
  have hmc : mx a2 (a0 ++ a1).data.toList = max (max (mx a2 a0.data.toList) (mx a2 a1.data.toList)) (run a2 a0.data.toList.reverse + run a2 a1.data.toList) := by
    rw [ByteArray.data_append, Array.toList_append, mx_app]
  have hrc : run a2 (a0 ++ a1).data.toList = if run a2 a0.data.toList = a0.size then run a2 a0.data.toList + run a2 a1.data.toList else run a2 a0.data.toList := by
    rw [ByteArray.data_append, Array.toList_append, run_app, len_data]
  have b1 : run a2 a0.data.toList ≤ 2000 := Nat.le_trans (run_le _ _) (by rw [len_data]; exact z0)
  have b2 : run a2 a1.data.toList ≤ 2000 := Nat.le_trans (run_le _ _) (by rw [len_data]; exact z1)
  have H0 := Lib.hid (show run a2 a0.data.toList.reverse = 0 + run a2 (a0.data.toList.reverse.drop 0) by simp)
  have Hmc := Lib.hid hmc
  have Hrc2 := Lib.hid hrc
  clear hmc hrc
  generalize mx a2 a0.data.toList = ma at *
  generalize mx a2 a1.data.toList = mb at *
  generalize mx a2 (a0 ++ a1).data.toList = mc at *
  generalize run a2 a0.data.toList = ra at *
  generalize run a2 a1.data.toList = rb at *
  generalize run a2 (a0 ++ a1).data.toList = rc at *
  generalize run a2 a0.data.toList.reverse = tl at *
  have hmax : ∀ w, (Builtin.max_ #[3, 3, 3] 3 #[.int .i64 ma, .int .i64 mb, .int .i64 ((tl : Int) + (rb : Int))]).run Tryd.prog w = .ok (.int .i64 (mc : Int)) w := fun w => by
    rw [max3, Hmc.out, show max (max (ma : Int) (mb : Int)) ((tl : Int) + (rb : Int)) = ((max (max ma mb) (tl + rb) : Nat) : Int) by omega]
  go_enter Tryd.func8, Tryd.ntmps8
  go_wp2_with fail
  refine (awake_any _).mono ?_
  rintro e w1 ⟨rfl, hb⟩
  have B1 := Lib.hid hb
  clear hb
  go_wp2_with fail
  go_loop [7] (fun i => ∃ k : Nat, k ≤ a0.size ∧ i = .int .i64 k ∧ tl = k + run a2 (a0.data.toList.reverse.drop k)) (fun i => a0.size - (intOf i).toNat)
  case atStart => exact ⟨0, Nat.zero_le _, rfl, H0.out⟩
  case round =>
    clear H0
    obtain ⟨k, hk, rfl, hr⟩ := hrel
    by_cases hlt : k < a0.size
    · have d1 : decide ((k : Int) < (a0.size : Int)) = true := decide_eq_true (by omega)
      have hj : a0.size - 1 - k < a0.size := by omega
      have hd : a0.data.toList.reverse.drop k = a0[a0.size - 1 - k] :: a0.data.toList.reverse.drop (k + 1) := by
        rw [List.drop_eq_getElem_cons (by simpa using hlt), List.getElem_reverse]
        simp only [len_data]
        rfl
      rw [hd] at hr
      by_cases hc : a0[a0.size - 1 - k] = a2
      · rw [run_yes hc] at hr
        have e1 := eq8 hc
        have Hr := Lib.hid hr
        clear hr hc hd
        go_wp2_with fail
        go_round
        case rel => exact ⟨k + 1, by omega, by go_num, by rw [Hr.out]; omega⟩
        case measure => simp [intOf]; omega
      · rw [run_no hc] at hr
        have e1 := ne8 hc
        obtain rfl : tl = k := by omega
        clear hr hc hd
        go_wp2_with fail
        refine (Hga.out _).mono ?_
        rintro e w4 ⟨rfl, rfl⟩
        go_wp2_with fail
        refine (Hgb.out _).mono ?_
        rintro e w4 ⟨rfl, rfl⟩
        go_wp2_with fail
        refine (Hrb.out _).mono ?_
        rintro e w4 ⟨rfl, rfl⟩
        go_wp2_with fail
        refine (Hra.out _).mono ?_
        rintro e w4 ⟨rfl, rfl⟩
        by_cases hh : ra = a0.size
        · have e5 : ((ra : Int) == (a0.size : Int)) = true := by simp [hh]
          have e6 : ((rc : Int) == (ra : Int) + (rb : Int)) = true := by rw [Hrc2.out, if_pos hh]; simp
          clear hh
          go_wp2_with fail
          refine (Hrb.out _).mono ?_
          rintro e w4 ⟨rfl, rfl⟩
          go_wp2_with fail
          refine (Hgc.out _).mono ?_
          rintro e w4 ⟨rfl, rfl⟩
          go_wp2_with fail
          refine (Hrc.out _).mono ?_
          rintro e w4 ⟨rfl, rfl⟩
          go_wp2_with fail
          go_ret
          exact ⟨rfl, B1.out⟩
        · have e5 : ((ra : Int) == (a0.size : Int)) = false := by simp; omega
          have e6 : ((rc : Int) == (ra : Int)) = true := by rw [Hrc2.out, if_neg hh]; simp
          clear hh
          go_wp2_with fail
          refine (Hgc.out _).mono ?_
          rintro e w4 ⟨rfl, rfl⟩
          go_wp2_with fail
          refine (Hrc.out _).mono ?_
          rintro e w4 ⟨rfl, rfl⟩
          go_wp2_with fail
          go_ret
          exact ⟨rfl, B1.out⟩
    · rw [List.drop_eq_nil_of_le (by rw [List.length_reverse, len_data]; omega)] at hr
      obtain rfl : tl = k := hr
      have d1 : decide ((tl : Int) < (a0.size : Int)) = false := decide_eq_false (by omega)
      go_wp2_with fail
      refine (Hga.out _).mono ?_
      rintro e w4 ⟨rfl, rfl⟩
      go_wp2_with fail
      refine (Hgb.out _).mono ?_
      rintro e w4 ⟨rfl, rfl⟩
      go_wp2_with fail
      refine (Hrb.out _).mono ?_
      rintro e w4 ⟨rfl, rfl⟩
      go_wp2_with fail
      refine (Hra.out _).mono ?_
      rintro e w4 ⟨rfl, rfl⟩
      by_cases hh : ra = a0.size
      · have e5 : ((ra : Int) == (a0.size : Int)) = true := by simp [hh]
        have e6 : ((rc : Int) == (ra : Int) + (rb : Int)) = true := by rw [Hrc2.out, if_pos hh]; simp
        clear hh
        go_wp2_with fail
        refine (Hrb.out _).mono ?_
        rintro e w4 ⟨rfl, rfl⟩
        go_wp2_with fail
        refine (Hgc.out _).mono ?_
        rintro e w4 ⟨rfl, rfl⟩
        go_wp2_with fail
        refine (Hrc.out _).mono ?_
        rintro e w4 ⟨rfl, rfl⟩
        go_wp2_with fail
        go_ret
        exact ⟨rfl, B1.out⟩
      · have e5 : ((ra : Int) == (a0.size : Int)) = false := by simp; omega
        have e6 : ((rc : Int) == (ra : Int)) = true := by rw [Hrc2.out, if_neg hh]; simp
        clear hh
        go_wp2_with fail
        refine (Hgc.out _).mono ?_
        rintro e w4 ⟨rfl, rfl⟩
        go_wp2_with fail
        refine (Hrc.out _).mono ?_
        rintro e w4 ⟨rfl, rfl⟩
        go_wp2_with fail
        go_ret
        exact ⟨rfl, B1.out⟩

set_option maxRecDepth 100000 in
theorem lifted (os : Os) (started : os.Started) (H : Type) (enc : TypeId × Value → H) :
    ReturnsInHanded {} Tryd.checked os 8 .any (fun w args => (Rows.linesRunsSpec.pre enc Tryd.prog Tryd.f8 Rows.linesRunsRow.domain false w args ∧ laidMetH Tryd.prog Rows.linesRunsRow.laid w) ∧ sizedMet enc Tryd.prog Tryd.f8 (OpenSpec.ofChange Rows.linesRunsSpec) false w args)
      (Rows.linesRunsSpec.post enc Tryd.prog Tryd.f8 false true false false) := by
  refine returnsInHanded_of_change_and (C := Tryd.checked) (X := fun w _ => laidMetH Tryd.prog Rows.linesRunsRow.laid w) (fun _ _ _ hh h => h.of_heap hh) own started (by kernel_rfl) Tryd.func8
    (ChangeSpec.witness_shaped (enc := enc) (C := Tryd.checked) (os := os) (X := fun w _ => laidMetH Tryd.prog Rows.linesRunsRow.laid w) false (World.laidAll Tryd.prog os Rows.linesRunsRow.laid) #[.string ByteArray.empty, .string ByteArray.empty, .int .u8 0] 8 (World.laidAll_os _ _ _)
      (World.shaped_of_ZipB (by kernel_rfl) (by kernel_rfl)) (by kernel_rfl) (by kernel_rfl) (by kernel_rfl)
      (by rw [MakeChecks.laidMetH_plain _ _ _ (by kernel_rfl)]; exact laidMet_laidAll _ (by kernel_rfl) (by kernel_rfl))) ?_
  intro W base args ds gs before hval0 hW hcnd hsz0 hL _
  have hval : ∀ (j : Nat) t v, Tryd.f8.params[j]? = some t → args[j]? = some v → Value.okWide Tryd.prog W .any base t v := hval0
  have hsz : (DataW.weightsEach Tryd.prog (Tryd.f8.params.toList ++ Rows.linesRunsSpec.plain.varTypes Tryd.prog) (ds ++ gs)).all (· ≤ reachBytes) = true := hsz0
  have hW' := hW
  obtain ⟨p, q, hA0, hV, rfl, hfz, hnd⟩ := hW
  have hA : DataW.TrodAll enc Tryd.prog W 0 (fun _ => true) true Tryd.f8.params.toList args.toList ds p := hA0
  rw [Tryd.params8] at hA hval hsz
  obtain ⟨v0, vs0, d0, ds0, p0, q0, hargs, rfl, rfl, h0, r0⟩ := trodAll_cons hA
  obtain ⟨v1, vs1, d1, ds1, p1, q1, rfl, rfl, rfl, h1, r1⟩ := trodAll_cons r0
  obtain ⟨v2, vs2, d2, ds2, p2, q2, rfl, rfl, rfl, h2, r2⟩ := trodAll_cons r1
  obtain ⟨rfl, rfl, rfl⟩ := trodAll_nil r2
  obtain rfl : args = #[v0, v1, v2] := by cases args; simp_all
  obtain ⟨rfl, rfl⟩ := trodVars_none hV

  obtain ⟨a0, rfl, rfl, rfl, w0⟩ := open_string Tryd.underlying9 (hval 0 9 v0 rfl rfl) h0
  obtain ⟨a1, rfl, rfl, rfl, w1⟩ := open_string Tryd.underlying9 (hval 1 9 v1 rfl rfl) h1
  obtain ⟨b2, rfl, rfl, rfl, w2⟩ := open_int Tryd.underlying5 (hval 2 5 v2 rfl rfl) h2
  obtain ⟨a2, rfl⟩ := u8_of w2
  clear hA0 hval0 hsz0
  simp only [List.append_nil] at hW'
  refine (walk W a0 w0 (by have := sized_string hsz (j := 0) (t := 9) rfl rfl; simpa using this) a1 w1 (by have := sized_string hsz (j := 1) (t := 9) rfl rfl; simpa using this) a2).mono fun e W' ⟨he, bel⟩ => ?_
  subst he
  exact ⟨_, rfl, _, _, _, [], _, [], hW', trodAll_mk1 (shut_bool Tryd.underlying4 _), (trodAll_cons_mk (shut_string Tryd.underlying9 w0) (trodAll_cons_mk (shut_string Tryd.underlying9 w1) (trodAll_cons_mk (shut_int Tryd.underlying5 w2) trodAll_mk0))), rfl, bel.frame _, fun h => by cases h⟩

theorem over : Rows.linesRunsRow.holds Tryd.pinned (OpenSpec.ofChange Rows.linesRunsSpec) :=
  OpenClaim.holds_of_wide 8 Tryd.f8 rfl rfl rfl rfl rfl rfl rfl ⟨rfl, rfl, rfl, rfl, rfl⟩ rfl rfl rfl rfl rfl (by kernel_rfl) Tryd.func8 (by kernel_rfl)
    (of_decide_eq_true (by kernel_rfl)) (by unfold Func.isWrapper; first | (rw [if_pos (by decide +kernel)]; kernel_rfl) | (rw [if_neg (by decide +kernel)]; exact ⟨rfl, rfl⟩))
    (fun os started H enc _ => lifted os started H enc)

theorem card : Rows.LinesRunsCardSaid :=
  Claim7.holds_tied_plain_at .later [] [.data, .pinned] true _ false over (fun _ h => by cases h) (by kernel_rfl) (fun _ h => by cases h) linesRuns_row_tie rfl ⟨rfl, rfl⟩ (by kernel_rfl) rfl
    (fun f fn hf hfn => by
      obtain rfl : f = 8 := Option.some.inj ((show Tryd.prog.funcNamed Rows.linesRunsRow.func = some 8 by kernel_rfl).symm.trans hf) |>.symm
      obtain rfl : fn = Tryd.f8 := (Option.some.inj (Tryd.func8.symm.trans hfn)).symm
      exact ⟨by kernel_rfl, fun j t ht => by
        rw [Tryd.params8] at ht
        have hm : t ∈ [9, 9, 5] := by simpa using Array.mem_of_getElem? ht
        have hall : ([9, 9, 5].all fun u => !Tryd.prog.wantsStandIn u) = true := by kernel_rfl
        exact (show Tryd.prog.wantsStandIn t = false by simpa using List.all_eq_true.1 hall t hm)⟩)
    (by kernel_rfl)
end Go.Proofs.YtkldndmmjgodbaaDoor.linesRuns
