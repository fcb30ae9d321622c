/-
  The statement about UtfClasses: for every input the law returns true, and each argument reads afterwards as it read before. No condition.
-/
import Derived.Test.YtlnagfpkhojcmaaRows
import Derived.Test.YtlnagfpkhojcmaaUtfCheck
import Derived.Test.YtlnagfpkhojcmaaUtfFold
import Derived.Test.YtlnagfpkhojcmaaUtfRefFold
import Derived.WalkKit
import Derived.ProofKit
import Derived.OpenShut
import Derived.ShutString
import Derived.SizedLaws
namespace Go.Proofs.Ytlnagfpkhojcmaa.utfClasses
open Go.ChangeShapes Go.WideShapes Go.ChangeAt Go.RowKit
open Go.ChangeMaps (open_string shut_string)
open Go.Proofs.Ytlnagfpkhojcmaa.Utf
set_option linter.unusedVariables false

theorem own : ownKnob Try.prog.godebug = none := by kernel_rfl

theorem foldS (t : ByteArray) (hs : t.size ≤ 20000) (w : World) :
    Calls Try.prog 15 #[.string t] w fun e w' => e = .returned (.string (S (fold t.data.toList))) ∧ Below w.heap.size w w' := fold_any t hs w
theorem fold_len (l : List UInt8) : (fold l).length ≤ 2 * l.length := st_len l
theorem list_len (t : ByteArray) : t.data.toList.length = t.size := by simp
set_option maxRecDepth 100000 in
set_option maxHeartbeats 400000 in
theorem walk (a0 : Int) (a1 : Int) (a2 : ByteArray) (w0 : (Lit.int .i64 a0).wf = true) (w1 : (Lit.int .u8 a1).wf = true) (w2 : a2.size ≤ maxLen) (r2 : a2.size ≤ reachBytes) (w : World) :
    Calls Try.prog 5 #[.int .i64 a0, .int .u8 a1, .string a2] w fun e w' => e = .returned (.bool true) ∧ Below w.heap.size w w' := by
  have hy : 0 ≤ a1 ∧ a1 ≤ 255 := by simpa [Lit.wf, IntKind.min, IntKind.max, IntKind.signed, IntKind.bits] using w1
  by_cases hl : 5000 < (a2.size : Int)
  · go_enter Try.func5, Try.ntmps5
    go_wp2_with fail
    refine (awake_any _).mono ?_
    rintro e W1 ⟨rfl, hb⟩
    go_wp2_with fail
    refine (awake_any _).mono ?_
    rintro e W2 ⟨rfl, hb2⟩
    go_wp2_with fail
    go_ret
    exact ⟨rfl, hb.trans (hb2.mono hb.size)⟩
  have el : decide (5000 < (a2.size : Int)) = false := by simpa using hl
  have hsz : a2.size ≤ 20000 := by omega
  have hsz2 : (S (fold a2.data.toList)).size ≤ 20000 := by rw [S_size]; have := fold_len a2.data.toList; rw [list_len] at this; omega
  have Hag : Hid (fold (S (fold a2.data.toList)).data.toList = fold a2.data.toList) := Lib.hid (by rw [S_list, fold_fold])
  generalize hff : fold a2.data.toList = ff at *
  have Hff := Lib.hid hff
  clear hff
  go_enter Try.func5, Try.ntmps5
  go_wp2_with fail
  refine (awake_any _).mono ?_
  rintro e W1 ⟨rfl, hb⟩
  go_wp2_with fail
  refine (foldS a2 hsz _).mono ?_
  rintro e W2 ⟨rfl, hb2⟩
  rw [Hff.out]
  have hb3 := hb.trans (hb2.mono hb.size)
  clear hb hb2
  go_wp2_with fail
  refine (class_any a0 _).mono ?_
  rintro e W3 ⟨rfl, rfl⟩
  go_wp2_with fail
  refine (rclass_any a0 _).mono ?_
  rintro e W3 ⟨rfl, rfl⟩
  generalize cls a0 = c0 at *
  have e0 : (c0 == c0) = true := by simp
  go_wp2_with fail
  refine (escapes_any a1 hy.1 hy.2 _).mono ?_
  rintro e W3 ⟨rfl, rfl⟩
  go_wp2_with fail
  refine (rclass_any a1 _).mono ?_
  rintro e W3 ⟨rfl, rfl⟩
  generalize cls a1 = c1 at *
  have e2 : ((S ff).toList == (S ff).toList) = true := by simp
  cases hc4 : (c1 == 4)
  all_goals
    go_wp2_with fail
    refine (rfold_any a2 hsz _).mono ?_
    rintro e W3 ⟨rfl, hb2⟩
    rw [Hff.out]
    have hb4 := hb3.trans (hb2.mono hb3.size)
    clear hb2
    go_wp2_with fail
    refine (foldS (S ff) hsz2 _).mono ?_
    rintro e W4 ⟨rfl, hb2⟩
    rw [Hag.out]
    have hb5 := hb4.trans (hb2.mono hb4.size)
    clear hb2
    go_wp2_with fail
    go_ret
    exact ⟨rfl, hb5⟩

set_option maxRecDepth 100000 in
theorem lifted (os : Os) (started : os.Started) (H : Type) (enc : TypeId × Value → H) :
    ReturnsInHanded {} Try.checked os 5 .any (Rows.utfClassesSpec.pre6 enc Try.prog Try.f5 Rows.utfClassesRow.domain false) (Rows.utfClassesSpec.post enc Try.prog Try.f5 false true false false) := by
  refine returnsInHanded_of_change_sized (C := Try.checked) own started (by kernel_rfl) Try.func5
    (ChangeSpec.witness6 (enc := enc) (C := Try.checked) false ⟨#[], #[.int .i64 0, .int .u8 0, .string ByteArray.empty], []⟩ 8 (by kernel_rfl) (by kernel_rfl) (by kernel_rfl) (by kernel_rfl)) ?_
  intro W base args ds gs before hval0 hW hcnd hsz0 _
  have hval : ∀ (j : Nat) t v, Try.f5.params[j]? = some t → args[j]? = some v → Value.okWide Try.prog W .any base t v := hval0
  have hsz : (DataW.weightsEach Try.prog (Try.f5.params.toList ++ Rows.utfClassesSpec.plain.varTypes Try.prog) (ds ++ gs)).all (· ≤ reachBytes) = true := hsz0
  have hW' := hW
  obtain ⟨p, q, hA0, hV, rfl, hfz, hnd⟩ := hW
  have hA : DataW.TrodAll enc Try.prog W 0 (fun _ => true) true Try.f5.params.toList args.toList ds p := hA0
  rw [Try.params5] at hA hval hsz
  obtain ⟨v0, vs0, d0, ds0, p0, q0, hargs, rfl, rfl, h0, r0⟩ := trodAll_cons hA
  obtain ⟨v1, vs1, d1, ds1, p1, q1, rfl, rfl, rfl, h1, r1⟩ := trodAll_cons r0
  obtain ⟨v2, vs2, d2, ds2, p2, q2, rfl, rfl, rfl, h2, r2⟩ := trodAll_cons r1
  obtain ⟨rfl, rfl, rfl⟩ := trodAll_nil r2
  obtain rfl : args = #[v0, v1, v2] := by cases args; simp_all
  obtain ⟨rfl, rfl⟩ := trodVars_none hV
  obtain ⟨a0, rfl, rfl, rfl, w0⟩ := open_int Try.underlying3 (hval 0 3 v0 rfl rfl) h0
  obtain ⟨a1, rfl, rfl, rfl, w1⟩ := open_int Try.underlying5 (hval 1 5 v1 rfl rfl) h1
  obtain ⟨a2, rfl, rfl, rfl, w2⟩ := open_string Try.underlying9 (hval 2 9 v2 rfl rfl) h2
  clear hA0 hval0 hsz0
  simp only [List.append_nil] at hW'
  refine (walk a0 a1 a2 w0 w1 w2 (by have := sized_string hsz (j := 2) (t := 9) rfl rfl; simpa using this) W).mono fun e W' ⟨he, bel⟩ => ?_
  subst he
  exact ⟨_, rfl, _, _, _, [], _, [], hW', trodAll_mk1 (shut_bool Try.underlying4 _), (trodAll_cons_mk (shut_int Try.underlying3 w0) (trodAll_cons_mk (shut_int Try.underlying5 w1) (trodAll_cons_mk (shut_string Try.underlying9 w2) trodAll_mk0))), rfl, bel.frame _, fun h => by cases h⟩

theorem over : Rows.utfClassesRow.holds Try.pinned (OpenSpec.ofChange Rows.utfClassesSpec) :=
  OpenClaim.holds_of_wide 5 Try.f5 rfl rfl rfl rfl rfl rfl rfl ⟨rfl, rfl, rfl, rfl, rfl⟩ rfl rfl rfl rfl rfl (by kernel_rfl) Try.func5 (by kernel_rfl)
    (of_decide_eq_true (by kernel_rfl)) (by unfold Func.isWrapper; first | (rw [if_pos (by decide +kernel)]; kernel_rfl) | (rw [if_neg (by decide +kernel)]; exact ⟨rfl, rfl⟩))
    (fun os started H enc _ => lifted os started H enc)

theorem proved : Rows.UtfClassesSaid :=
  over
end Go.Proofs.Ytlnagfpkhojcmaa.utfClasses
