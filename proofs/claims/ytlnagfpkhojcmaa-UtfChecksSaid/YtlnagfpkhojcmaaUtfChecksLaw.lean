/-
  The statement about UtfChecks: for every input the law returns true, and each argument reads afterwards as it read before. No condition.
-/
import Derived.Test.YtlnagfpkhojcmaaRows
import Derived.Test.YtlnagfpkhojcmaaUtfRefCheck
import Derived.WalkKit
import Derived.ProofKit
import Derived.OpenShut
import Derived.ShutString
import Derived.SizedLaws
namespace Go.Proofs.Ytlnagfpkhojcmaa.utfChecks
open Go.ChangeShapes Go.WideShapes Go.ChangeAt Go.RowKit
open Go.ChangeMaps (open_string shut_string)
open Go.Proofs.Ytlnagfpkhojcmaa.Utf
set_option linter.unusedVariables false

theorem own : ownKnob Try.prog.godebug = none := by kernel_rfl

set_option maxHeartbeats 400000 in
theorem walk (a0 : ByteArray) (w0 : a0.size ≤ maxLen) (r0 : a0.size ≤ reachBytes) (w : World) :
    Calls Try.prog 3 #[.string a0] w fun e w' => e = .returned (.bool true) ∧ Below w.heap.size w w' := by
  have hr : a0.size ≤ 140737488355328 := by unfold reachBytes at r0; omega
  have hcv := fun (w : World) => run_bytes_of_string (P := Try.prog) w 9 25 5 a0 Try.underlying9 Try.underlying25 Try.underlying5
  by_cases hl : 5000 < (a0.size : Int)
  · go_enter Try.func3, Try.ntmps3
    go_wp2_with fail
    refine (awake_any _).mono ?_
    rintro e w1 ⟨rfl, hb⟩
    go_wp2_with fail
    refine (awake_any _).mono ?_
    rintro e w2 ⟨rfl, hb2⟩
    go_wp2_with fail
    go_ret
    exact ⟨rfl, hb.trans (hb2.mono hb.size)⟩
  have el : decide (5000 < (a0.size : Int)) = false := by simpa using hl
  go_enter Try.func3, Try.ntmps3
  go_wp2_with fail
  refine (awake_any _).mono ?_
  rintro e w1 ⟨rfl, hb⟩
  go_wp2_with fail
  clear hcv
  have hb2 : Below w.heap.size w (w1.alloc (Obj.cells (bytesRow a0 (grownCap w1 a0.size 0 5)) 5 ((bytesRow a0 (grownCap w1 a0.size 0 5)).size, (bytesRow a0 (grownCap w1 a0.size 0 5)).size + 1))).drew := (hb.alloc hb.size _).drew
  have hB : Lib.Bytes (w1.alloc (Obj.cells (bytesRow a0 (grownCap w1 a0.size 0 5)) 5 ((bytesRow a0 (grownCap w1 a0.size 0 5)).size, (bytesRow a0 (grownCap w1 a0.size 0 5)).size + 1))).drew w1.heap.size 0 a0 := bytes_row w1 a0 _ _ _
  generalize (w1.alloc (Obj.cells (bytesRow a0 (grownCap w1 a0.size 0 5)) 5 ((bytesRow a0 (grownCap w1 a0.size 0 5)).size, (bytesRow a0 (grownCap w1 a0.size 0 5)).size + 1))).drew = w2 at *
  refine (check_any a0 _ _ _ hB w0).mono ?_
  rintro e w3 ⟨rfl, rfl⟩
  clear hB
  go_wp2_with fail
  refine (rcheck_any a0 hr _).mono ?_
  rintro e w3 ⟨rfl, rfl⟩
  go_wp2_with fail
  go_ret
  exact ⟨ret_bool (by simp), hb2⟩

set_option maxRecDepth 100000 in
theorem lifted (os : Os) (started : os.Started) (H : Type) (enc : TypeId × Value → H) :
    ReturnsInHanded {} Try.checked os 3 .any (Rows.utfChecksSpec.pre6 enc Try.prog Try.f3 Rows.utfChecksRow.domain false) (Rows.utfChecksSpec.post enc Try.prog Try.f3 false true false false) := by
  refine returnsInHanded_of_change_sized (C := Try.checked) own started (by kernel_rfl) Try.func3
    (ChangeSpec.witness6 (enc := enc) (C := Try.checked) false ⟨#[], #[.string ByteArray.empty], []⟩ 8 (by kernel_rfl) (by kernel_rfl) (by kernel_rfl) (by kernel_rfl)) ?_
  intro W base args ds gs before hval0 hW hcnd hsz0 _
  have hval : ∀ (j : Nat) t v, Try.f3.params[j]? = some t → args[j]? = some v → Value.okWide Try.prog W .any base t v := hval0
  have hsz : (DataW.weightsEach Try.prog (Try.f3.params.toList ++ Rows.utfChecksSpec.plain.varTypes Try.prog) (ds ++ gs)).all (· ≤ reachBytes) = true := hsz0
  have hW' := hW
  obtain ⟨p, q, hA0, hV, rfl, hfz, hnd⟩ := hW
  have hA : DataW.TrodAll enc Try.prog W 0 (fun _ => true) true Try.f3.params.toList args.toList ds p := hA0
  rw [Try.params3] at hA hval hsz
  obtain ⟨v0, vs0, d0, ds0, p0, q0, hargs, rfl, rfl, h0, r0⟩ := trodAll_cons hA
  obtain ⟨rfl, rfl, rfl⟩ := trodAll_nil r0
  obtain rfl : args = #[v0] := by cases args; simp_all
  obtain ⟨rfl, rfl⟩ := trodVars_none hV
  obtain ⟨a0, rfl, rfl, rfl, w0⟩ := open_string Try.underlying9 (hval 0 9 v0 rfl rfl) h0
  clear hA0 hval0 hsz0
  simp only [List.append_nil] at hW'
  refine (walk a0 w0 (by have := sized_string hsz (j := 0) (t := 9) rfl rfl; simpa using this) W).mono fun e W' ⟨he, bel⟩ => ?_
  subst he
  exact ⟨_, rfl, _, _, _, [], _, [], hW', trodAll_mk1 (shut_bool Try.underlying4 _), (trodAll_cons_mk (shut_string Try.underlying9 w0) trodAll_mk0), rfl, bel.frame _, fun h => by cases h⟩

theorem over : Rows.utfChecksRow.holds Try.pinned (OpenSpec.ofChange Rows.utfChecksSpec) :=
  OpenClaim.holds_of_wide 3 Try.f3 rfl rfl rfl rfl rfl rfl rfl ⟨rfl, rfl, rfl, rfl, rfl⟩ rfl rfl rfl rfl rfl (by kernel_rfl) Try.func3 (by kernel_rfl)
    (of_decide_eq_true (by kernel_rfl)) (by unfold Func.isWrapper; first | (rw [if_pos (by decide +kernel)]; kernel_rfl) | (rw [if_neg (by decide +kernel)]; exact ⟨rfl, rfl⟩))
    (fun os started H enc _ => lifted os started H enc)

theorem proved : Rows.UtfChecksSaid :=
  over
end Go.Proofs.Ytlnagfpkhojcmaa.utfChecks
