/-
  The card of LinesTrims: for every input the law returns true, and each argument reads afterwards as it read before; the package-level variables that the row lists are tied to the program's text (the walk reads none of them). No other condition.
-/
import Derived.Test.YtkldndmmjgodbaaDoorRows
import Derived.Test.YtkldndmmjgodbaaDoorCards
import Derived.Test.YtkldndmmjgodbaaDoorTie
import Derived.Test.YtkldndmmjgodbaaDoorLnMore
import Derived.Test.YtkldndmmjgodbaaDoorLnFrame
import Derived.WalkKit
import Derived.ProofKit
import Derived.OpenShut
import Derived.ShutString
import Derived.SizedLaws
import Derived.Lay
import Derived.SevenTiedAt
namespace Go.Proofs.YtkldndmmjgodbaaDoor.linesTrims
open Go.ChangeShapes Go.WideShapes Go.ChangeAt Go.RowKit
open Go.ChangeMaps (open_string shut_string)
open Go.Proofs.YtkldndmmjgodbaaDoor.Ln
set_option linter.unusedVariables false

theorem own : ownKnob Tryd.prog.godebug = none := by kernel_rfl

theorem gap_no {b : UInt8} (h : gapB b = false) : ((b.toNat : Int) == 32) = false ∧ ((b.toNat : Int) == 9) = false := by
  simp only [gapB, Bool.or_eq_false_iff, beq_eq_false_iff_ne] at h
  exact ⟨ne8 h.1, ne8 h.2⟩

set_option maxHeartbeats 1600000 in
theorem walk (w : World) (a0 : ByteArray) (w0 : a0.size ≤ maxLen) (r0 : a0.size ≤ reachBytes) (a1 : UInt8) :
    Calls Tryd.prog 7 #[.string a0, .int .u8 a1.toNat] w fun e w' => e = .returned (.bool true) ∧ Below w.heap.size w w' := by
  have r0' : a0.size ≤ 140737488355328 := by unfold reachBytes at r0; omega
  have hs : a0.size ≤ 9223372036854775806 := by omega
  by_cases hl : 2000 < (a0.size : Int)
  · go_enter Tryd.func7, Tryd.ntmps7
    go_wp2_with fail
    refine (awake_any _).mono ?_
    rintro e w1 ⟨rfl, hb⟩
    go_wp2_with fail
    refine (awake_any _).mono ?_
    rintro e w2 ⟨rfl, hb2⟩
    go_wp2_with fail
    go_ret
    exact ⟨rfl, hb.trans (hb2.mono hb.size)⟩
  have el : decide (2000 < (a0.size : Int)) = false := decide_eq_false hl
  have hsz2 : (a0 ++ a0).size = a0.size + a0.size := ByteArray.size_append
  have Hk := Lib.hid (blank_any a0 hs)
  have Ht := Lib.hid (trim_any a0 hs)
  have hts : (S (trim a0.data.toList)).size ≤ a0.size := by rw [S_size]; exact Nat.le_trans (trim_len _) (by rw [len_data]; exact Nat.le_refl _)
  have htt := trim_any (S (trim a0.data.toList)) (by omega)
  rw [S_list, trim_trim] at htt
  have Htt := Lib.hid htt
  have Hr := Lib.hid (run_any a0 hs a1)
  have Hg := Lib.hid (longest_any a0 hs a1)
  have hg2 := longest_any (a0 ++ a0) (by omega) a1
  have hm2 : mx a1 a0.data.toList ≤ mx a1 (a0 ++ a0).data.toList := by
    rw [ByteArray.data_append, Array.toList_append, mx_app]; omega
  have hrm := run_le_mx a1 a0.data.toList
  have Hg2 := Lib.hid hg2
  have hhd := trim_head a0.data.toList
  have hla := trim_last a0.data.toList
  clear htt hg2
  have ht0 := S_toList (trim a0.data.toList)
  generalize trim a0.data.toList = t at *
  generalize run a1 a0.data.toList = q at *
  generalize mx a1 a0.data.toList = m at *
  generalize mx a1 (a0 ++ a0).data.toList = m2 at *
  have d1 : decide (a0.size < (S t).size) = false := decide_eq_false (by omega)
  have d2 : decide (m < q) = false := decide_eq_false (by omega)
  have d3 : decide (m2 < m) = false := decide_eq_false (by omega)
  by_cases h0 : t = []
  · subst h0
    clear hhd hla hrm hm2
    go_enter Tryd.func7, Tryd.ntmps7
    go_wp2_with fail
    refine (awake_any _).mono ?_
    rintro e w1 ⟨rfl, hb⟩
    have B1 := Lib.hid hb
    clear hb
    go_wp2_with fail
    refine (Ht.out _).mono ?_
    rintro e w2 ⟨rfl, hb⟩
    have B2 := Lib.hid (B1.out.trans (hb.mono B1.out.size))
    clear hb
    go_wp2_with fail
    refine (Htt.out _).mono ?_
    rintro e w3 ⟨rfl, hb⟩
    have B3 := Lib.hid (B2.out.trans (hb.mono B2.out.size))
    clear hb
    go_wp2_with fail
    refine (Hr.out _).mono ?_
    rintro e w4 ⟨rfl, rfl⟩
    go_wp2_with fail
    refine (Hg.out _).mono ?_
    rintro e w4 ⟨rfl, rfl⟩
    go_wp2_with fail
    refine (Hg2.out _).mono ?_
    rintro e w4 ⟨rfl, rfl⟩
    go_wp2_with fail
    refine (Hg.out _).mono ?_
    rintro e w4 ⟨rfl, rfl⟩
    go_wp2_with fail
    refine (Hk.out _).mono ?_
    rintro e w4 ⟨rfl, hb⟩
    have B4 := Lib.hid (B3.out.trans (hb.mono B3.out.size))
    clear hb
    go_wp2_with fail
    go_ret
    exact ⟨rfl, B4.out⟩
  · have hp : 0 < (S t).size := by rw [S_size]; exact List.length_pos_iff.2 h0
    have hp1 : (S t).size - 1 < (S t).size := by omega
    have g1 := gap_no (hhd (S t)[0] (by have := head_at (S t) 0 hp; rw [List.drop_zero, S_list] at this; exact this))
    have g2 := gap_no (hla (S t)[(S t).size - 1] ((congrArg List.getLast? ((S_list t).symm.trans (last_data (S t) hp))).trans List.getLast?_concat))
    have hne : ((S t).toList == ([] : List UInt8)) = false := by rw [S_toList]; simpa using h0
    have hem : t.isEmpty = false := by simpa using h0
    rw [hem] at Hk
    have Hsz := Lib.hid (S_size t)
    clear hhd hla hrm hm2 ht0 h0 hem
    generalize S t = x at *
    obtain ⟨g1, g1'⟩ := g1
    obtain ⟨g2, g2'⟩ := g2
    have m1 := bne_iff_ne.2 (beq_eq_false_iff_ne.1 g1)
    have m1' := bne_iff_ne.2 (beq_eq_false_iff_ne.1 g1')
    have m3 := bne_iff_ne.2 (beq_eq_false_iff_ne.1 g2)
    have m3' := bne_iff_ne.2 (beq_eq_false_iff_ne.1 g2')
    clear g1 g1' g2 g2'
    go_enter Tryd.func7, Tryd.ntmps7
    go_wp2_with fail
    refine (awake_any _).mono ?_
    rintro e w1 ⟨rfl, hb⟩
    have B1 := Lib.hid hb
    clear hb
    go_wp2_with fail
    refine (Ht.out _).mono ?_
    rintro e w2 ⟨rfl, hb⟩
    have B2 := Lib.hid (B1.out.trans (hb.mono B1.out.size))
    clear hb
    go_wp2_with fail
    refine (Htt.out _).mono ?_
    rintro e w3 ⟨rfl, hb⟩
    have B3 := Lib.hid (B2.out.trans (hb.mono B2.out.size))
    clear hb
    go_wp2_with fail
    refine (Hr.out _).mono ?_
    rintro e w4 ⟨rfl, rfl⟩
    go_wp2_with fail
    refine (Hg.out _).mono ?_
    rintro e w4 ⟨rfl, rfl⟩
    go_wp2_with fail
    refine (Hg2.out _).mono ?_
    rintro e w4 ⟨rfl, rfl⟩
    go_wp2_with fail
    refine (Hg.out _).mono ?_
    rintro e w4 ⟨rfl, rfl⟩
    go_wp2_with fail
    refine (Hk.out _).mono ?_
    rintro e w4 ⟨rfl, hb⟩
    have B4 := Lib.hid (B3.out.trans (hb.mono B3.out.size))
    clear hb
    go_wp2_with fail
    go_ret
    exact ⟨rfl, B4.out⟩

set_option maxRecDepth 100000 in
theorem lifted (os : Os) (started : os.Started) (H : Type) (enc : TypeId × Value → H) :
    ReturnsInHanded {} Tryd.checked os 7 .any (fun w args => (Rows.linesTrimsSpec.pre enc Tryd.prog Tryd.f7 Rows.linesTrimsRow.domain false w args ∧ laidMetH Tryd.prog Rows.linesTrimsRow.laid w) ∧ sizedMet enc Tryd.prog Tryd.f7 (OpenSpec.ofChange Rows.linesTrimsSpec) false w args)
      (Rows.linesTrimsSpec.post enc Tryd.prog Tryd.f7 false true false false) := by
  refine returnsInHanded_of_change_and (C := Tryd.checked) (X := fun w _ => laidMetH Tryd.prog Rows.linesTrimsRow.laid w) (fun _ _ _ hh h => h.of_heap hh) own started (by kernel_rfl) Tryd.func7
    (ChangeSpec.witness_shaped (enc := enc) (C := Tryd.checked) (os := os) (X := fun w _ => laidMetH Tryd.prog Rows.linesTrimsRow.laid w) false (World.laidAll Tryd.prog os Rows.linesTrimsRow.laid) #[.string ByteArray.empty, .int .u8 0] 8 (World.laidAll_os _ _ _)
      (World.shaped_of_ZipB (by kernel_rfl) (by kernel_rfl)) (by kernel_rfl) (by kernel_rfl) (by kernel_rfl)
      (by rw [MakeChecks.laidMetH_plain _ _ _ (by kernel_rfl)]; exact laidMet_laidAll _ (by kernel_rfl) (by kernel_rfl))) ?_
  intro W base args ds gs before hval0 hW hcnd hsz0 hL _
  have hval : ∀ (j : Nat) t v, Tryd.f7.params[j]? = some t → args[j]? = some v → Value.okWide Tryd.prog W .any base t v := hval0
  have hsz : (DataW.weightsEach Tryd.prog (Tryd.f7.params.toList ++ Rows.linesTrimsSpec.plain.varTypes Tryd.prog) (ds ++ gs)).all (· ≤ reachBytes) = true := hsz0
  have hW' := hW
  obtain ⟨p, q, hA0, hV, rfl, hfz, hnd⟩ := hW
  have hA : DataW.TrodAll enc Tryd.prog W 0 (fun _ => true) true Tryd.f7.params.toList args.toList ds p := hA0
  rw [Tryd.params7] at hA hval hsz
  obtain ⟨v0, vs0, d0, ds0, p0, q0, hargs, rfl, rfl, h0, r0⟩ := trodAll_cons hA
  obtain ⟨v1, vs1, d1, ds1, p1, q1, rfl, rfl, rfl, h1, r1⟩ := trodAll_cons r0
  obtain ⟨rfl, rfl, rfl⟩ := trodAll_nil r1
  obtain rfl : args = #[v0, v1] := by cases args; simp_all
  obtain ⟨rfl, rfl⟩ := trodVars_none hV

  obtain ⟨a0, rfl, rfl, rfl, w0⟩ := open_string Tryd.underlying9 (hval 0 9 v0 rfl rfl) h0
  obtain ⟨b1, rfl, rfl, rfl, w1⟩ := open_int Tryd.underlying5 (hval 1 5 v1 rfl rfl) h1
  obtain ⟨a1, rfl⟩ := u8_of w1
  clear hA0 hval0 hsz0
  simp only [List.append_nil] at hW'
  refine (walk W a0 w0 (by have := sized_string hsz (j := 0) (t := 9) rfl rfl; simpa using this) a1).mono fun e W' ⟨he, bel⟩ => ?_
  subst he
  exact ⟨_, rfl, _, _, _, [], _, [], hW', trodAll_mk1 (shut_bool Tryd.underlying4 _), (trodAll_cons_mk (shut_string Tryd.underlying9 w0) (trodAll_cons_mk (shut_int Tryd.underlying5 w1) trodAll_mk0)), rfl, bel.frame _, fun h => by cases h⟩

theorem over : Rows.linesTrimsRow.holds Tryd.pinned (OpenSpec.ofChange Rows.linesTrimsSpec) :=
  OpenClaim.holds_of_wide 7 Tryd.f7 rfl rfl rfl rfl rfl rfl rfl ⟨rfl, rfl, rfl, rfl, rfl⟩ rfl rfl rfl rfl rfl (by kernel_rfl) Tryd.func7 (by kernel_rfl)
    (of_decide_eq_true (by kernel_rfl)) (by unfold Func.isWrapper; first | (rw [if_pos (by decide +kernel)]; kernel_rfl) | (rw [if_neg (by decide +kernel)]; exact ⟨rfl, rfl⟩))
    (fun os started H enc _ => lifted os started H enc)

theorem card : Rows.LinesTrimsCardSaid :=
  Claim7.holds_tied_plain_at .later [] [.data, .pinned] true _ false over (fun _ h => by cases h) (by kernel_rfl) (fun _ h => by cases h) linesTrims_row_tie rfl ⟨rfl, rfl⟩ (by kernel_rfl) rfl
    (fun f fn hf hfn => by
      obtain rfl : f = 7 := Option.some.inj ((show Tryd.prog.funcNamed Rows.linesTrimsRow.func = some 7 by kernel_rfl).symm.trans hf) |>.symm
      obtain rfl : fn = Tryd.f7 := (Option.some.inj (Tryd.func7.symm.trans hfn)).symm
      exact ⟨by kernel_rfl, fun j t ht => by
        rw [Tryd.params7] at ht
        have hm : t ∈ [9, 5] := by simpa using Array.mem_of_getElem? ht
        have hall : ([9, 5].all fun u => !Tryd.prog.wantsStandIn u) = true := by kernel_rfl
        exact (show Tryd.prog.wantsStandIn t = false by simpa using List.all_eq_true.1 hall t hm)⟩)
    (by kernel_rfl)
end Go.Proofs.YtkldndmmjgodbaaDoor.linesTrims
