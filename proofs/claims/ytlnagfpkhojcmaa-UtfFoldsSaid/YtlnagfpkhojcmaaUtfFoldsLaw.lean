/-
  The statement about UtfFolds: for every input the law returns true, and each argument reads afterwards as it read before. No condition.
-/
import Derived.Test.YtlnagfpkhojcmaaRows
import Derived.Test.YtlnagfpkhojcmaaUtfCheck
import Derived.Test.YtlnagfpkhojcmaaUtfFold
import Derived.Test.YtlnagfpkhojcmaaUtfRefFold
import Derived.WalkKit
import Derived.ProofKit
import Derived.OpenShut
import Derived.ShutString
import Derived.SizedLaws
namespace Go.Proofs.Ytlnagfpkhojcmaa.utfFolds
open Go.ChangeShapes Go.WideShapes Go.ChangeAt Go.RowKit
open Go.ChangeMaps (open_string shut_string)
open Go.Proofs.Ytlnagfpkhojcmaa.Utf
set_option linter.unusedVariables false

theorem own : ownKnob Try.prog.godebug = none := by kernel_rfl

theorem foldS (t : ByteArray) (hs : t.size ≤ 20000) (w : World) :
    Calls Try.prog 15 #[.string t] w fun e w' => e = .returned (.string (S (fold t.data.toList))) ∧ Below w.heap.size w w' := fold_any t hs w
theorem fold_len (l : List UInt8) : (fold l).length ≤ 2 * l.length := st_len l
theorem list_len (t : ByteArray) : t.data.toList.length = t.size := by simp
theorem cat2 (a b : ByteArray) : (a ++ ⟨#[32, 10]⟩ ++ b).data.toList = a.data.toList ++ [32, 10] ++ b.data.toList := by
  rw [ByteArray.data_append, ByteArray.data_append, Array.toList_append, Array.toList_append]
theorem cat1 (a b : ByteArray) : (a ++ ⟨#[9]⟩ ++ b).data.toList = a.data.toList ++ [9] ++ b.data.toList := by
  rw [ByteArray.data_append, ByteArray.data_append, Array.toList_append, Array.toList_append]
theorem S_mid (x y : List UInt8) : S (x ++ 32 :: y) = S x ++ ⟨#[32]⟩ ++ S y := by
  rw [show x ++ 32 :: y = x ++ [32] ++ y by simp, ← S_app, ← S_app]; rfl
theorem S_empty (l : List UInt8) : (S l).toList.isEmpty = l.isEmpty := by rw [S_toList]
set_option maxRecDepth 100000 in
set_option maxHeartbeats 400000 in
theorem walk (a0 : ByteArray) (a1 : ByteArray) (w0 : a0.size ≤ maxLen) (r0 : a0.size ≤ reachBytes) (w1 : a1.size ≤ maxLen) (r1 : a1.size ≤ reachBytes) (w : World) :
    Calls Try.prog 9 #[.string a0, .string a1] w fun e w' => e = .returned (.bool true) ∧ Below w.heap.size w w' := by
  have r0' : a0.size ≤ 140737488355328 := by unfold reachBytes at r0; omega
  have r1' : a1.size ≤ 140737488355328 := by unfold reachBytes at r1; omega
  by_cases hl : 2000 < (a0.size : Int) + (a1.size : Int)
  · go_enter Try.func9, Try.ntmps9
    go_wp2_with fail
    refine (awake_any _).mono ?_
    rintro e W1 ⟨rfl, hb⟩
    go_wp2_with fail
    refine (awake_any _).mono ?_
    rintro e W2 ⟨rfl, hb2⟩
    go_wp2_with fail
    go_ret
    exact ⟨rfl, hb.trans (hb2.mono hb.size)⟩
  have el : decide (2000 < (a0.size : Int) + (a1.size : Int)) = false := by simpa using hl
  have hs0 : a0.size ≤ 20000 := by omega
  have hs1 : a1.size ≤ 20000 := by omega
  have hz2 : (⟨#[32, 10]⟩ : ByteArray).size = 2 := rfl
  have hz1 : (⟨#[9]⟩ : ByteArray).size = 1 := rfl
  have Hs2 : Hid ((a0 ++ ⟨#[32, 10]⟩ ++ a1).size ≤ 20000) := Lib.hid (by rw [ByteArray.size_append, ByteArray.size_append, hz2]; omega)
  have Hs3 : Hid ((a1 ++ ⟨#[9]⟩ ++ a0).size ≤ 20000) := Lib.hid (by rw [ByteArray.size_append, ByteArray.size_append, hz1]; omega)
  have hj2 := fold_join2 a0.data.toList a1.data.toList
  have hj1 := fold_join1 a1.data.toList a0.data.toList
  rw [← cat2] at hj2
  rw [← cat1] at hj1
  have hx := fold_len a0.data.toList
  have hy := fold_len a1.data.toList
  rw [list_len] at hx hy
  have hx2 : (S (fold a0.data.toList)).size ≤ 4000 := by rw [S_size]; omega
  have hy2 : (S (fold a1.data.toList)).size ≤ 4000 := by rw [S_size]; omega
  clear hx hy hz1 hz2
  generalize hxx : fold a0.data.toList = x at *
  generalize hyy : fold a1.data.toList = y at *
  have Hx := Lib.hid hxx
  have Hy := Lib.hid hyy
  have Hj2 := Lib.hid hj2
  have Hj1 := Lib.hid hj1
  clear hxx hyy hj2 hj1
  go_enter Try.func9, Try.ntmps9
  go_wp2_with fail
  refine (awake_any _).mono ?_
  rintro e W1 ⟨rfl, hb⟩
  go_wp2_with fail
  refine (foldS a0 hs0 _).mono ?_
  rintro e W2 ⟨rfl, hb2⟩
  rw [Hx.out]
  have hb3 := hb.trans (hb2.mono hb.size)
  clear hb hb2
  go_wp2_with fail
  refine (foldS a1 hs1 _).mono ?_
  rintro e W3 ⟨rfl, hb2⟩
  rw [Hy.out]
  have hb4 := hb3.trans (hb2.mono hb3.size)
  clear hb3 hb2
  go_wp2_with fail
  refine (foldS _ Hs2.out _).mono ?_
  rintro e W4 ⟨rfl, hb2⟩
  have hb5 := hb4.trans (hb2.mono hb4.size)
  clear hb4 hb2
  cases hex : x.isEmpty with
  | true =>
    have e1 : (S x).toList.isEmpty = true := by rw [S_empty]; exact hex
    have Hz : Hid (fold (a0 ++ ⟨#[32, 10]⟩ ++ a1).data.toList = x ++ y) := Lib.hid (by rw [Hj2.out, if_pos hex, List.isEmpty_iff.1 hex]; rfl)
    rw [Hz.out]
    have e2 : ((S (x ++ y)).toList == (S x ++ S y).toList) = true := by rw [S_app]; simp
    go_wp2_with fail
    go_ret
    exact ⟨rfl, hb5⟩
  | false =>
    have hex' : ¬ x.isEmpty = true := by rw [hex]; decide
    have e1 : (S x).toList.isEmpty = false := by rw [S_empty]; exact hex
    cases hey : y.isEmpty with
    | true =>
      have e3 : (S y).toList.isEmpty = true := by rw [S_empty]; exact hey
      have Hz : Hid (fold (a0 ++ ⟨#[32, 10]⟩ ++ a1).data.toList = x ++ y) := Lib.hid (by rw [Hj2.out, if_neg hex', if_pos hey, List.isEmpty_iff.1 hey, List.append_nil])
      rw [Hz.out]
      have e2 : ((S (x ++ y)).toList == (S x ++ S y).toList) = true := by rw [S_app]; simp
      clear hex'
      go_wp2_with fail
      go_ret
      exact ⟨rfl, hb5⟩
    | false =>
      have hey' : ¬ y.isEmpty = true := by rw [hey]; decide
      have e3 : (S y).toList.isEmpty = false := by rw [S_empty]; exact hey
      have Hz : Hid (fold (a0 ++ ⟨#[32, 10]⟩ ++ a1).data.toList = x ++ 32 :: y) := Lib.hid (by rw [Hj2.out, if_neg hex', if_neg hey'])
      have Hz2 : Hid (fold (a1 ++ ⟨#[9]⟩ ++ a0).data.toList = y ++ 32 :: x) := Lib.hid (by rw [Hj1.out, if_neg hey', if_neg hex'])
      rw [Hz.out]
      have e2 : ((S (x ++ 32 :: y)).toList == (S x ++ ⟨#[32]⟩ ++ S y).toList) = true := by rw [S_mid]; simp
      have e4 : ((S (y ++ 32 :: x)).toList == (S y ++ ⟨#[32]⟩ ++ S x).toList) = true := by rw [S_mid]; simp
      clear hex' hey'
      go_wp2_with fail
      refine (foldS _ Hs3.out _).mono ?_
      rintro e W5 ⟨rfl, hb2⟩
      have hb6 := hb5.trans (hb2.mono hb5.size)
      clear hb5 hb2
      rw [Hz2.out]
      go_wp2_with fail
      go_ret
      exact ⟨rfl, hb6⟩

set_option maxRecDepth 100000 in
theorem lifted (os : Os) (started : os.Started) (H : Type) (enc : TypeId × Value → H) :
    ReturnsInHanded {} Try.checked os 9 .any (Rows.utfFoldsSpec.pre6 enc Try.prog Try.f9 Rows.utfFoldsRow.domain false) (Rows.utfFoldsSpec.post enc Try.prog Try.f9 false true false false) := by
  refine returnsInHanded_of_change_sized (C := Try.checked) own started (by kernel_rfl) Try.func9
    (ChangeSpec.witness6 (enc := enc) (C := Try.checked) false ⟨#[], #[.string ByteArray.empty, .string ByteArray.empty], []⟩ 8 (by kernel_rfl) (by kernel_rfl) (by kernel_rfl) (by kernel_rfl)) ?_
  intro W base args ds gs before hval0 hW hcnd hsz0 _
  have hval : ∀ (j : Nat) t v, Try.f9.params[j]? = some t → args[j]? = some v → Value.okWide Try.prog W .any base t v := hval0
  have hsz : (DataW.weightsEach Try.prog (Try.f9.params.toList ++ Rows.utfFoldsSpec.plain.varTypes Try.prog) (ds ++ gs)).all (· ≤ reachBytes) = true := hsz0
  have hW' := hW
  obtain ⟨p, q, hA0, hV, rfl, hfz, hnd⟩ := hW
  have hA : DataW.TrodAll enc Try.prog W 0 (fun _ => true) true Try.f9.params.toList args.toList ds p := hA0
  rw [Try.params9] at hA hval hsz
  obtain ⟨v0, vs0, d0, ds0, p0, q0, hargs, rfl, rfl, h0, r0⟩ := trodAll_cons hA
  obtain ⟨v1, vs1, d1, ds1, p1, q1, rfl, rfl, rfl, h1, r1⟩ := trodAll_cons r0
  obtain ⟨rfl, rfl, rfl⟩ := trodAll_nil r1
  obtain rfl : args = #[v0, v1] := by cases args; simp_all
  obtain ⟨rfl, rfl⟩ := trodVars_none hV
  obtain ⟨a0, rfl, rfl, rfl, w0⟩ := open_string Try.underlying9 (hval 0 9 v0 rfl rfl) h0
  obtain ⟨a1, rfl, rfl, rfl, w1⟩ := open_string Try.underlying9 (hval 1 9 v1 rfl rfl) h1
  clear hA0 hval0 hsz0
  simp only [List.append_nil] at hW'
  refine (walk a0 a1 w0 (by have := sized_string hsz (j := 0) (t := 9) rfl rfl; simpa using this) w1 (by have := sized_string hsz (j := 1) (t := 9) rfl rfl; simpa using this) W).mono fun e W' ⟨he, bel⟩ => ?_
  subst he
  exact ⟨_, rfl, _, _, _, [], _, [], hW', trodAll_mk1 (shut_bool Try.underlying4 _), (trodAll_cons_mk (shut_string Try.underlying9 w0) (trodAll_cons_mk (shut_string Try.underlying9 w1) trodAll_mk0)), rfl, bel.frame _, fun h => by cases h⟩

theorem over : Rows.utfFoldsRow.holds Try.pinned (OpenSpec.ofChange Rows.utfFoldsSpec) :=
  OpenClaim.holds_of_wide 9 Try.f9 rfl rfl rfl rfl rfl rfl rfl ⟨rfl, rfl, rfl, rfl, rfl⟩ rfl rfl rfl rfl rfl (by kernel_rfl) Try.func9 (by kernel_rfl)
    (of_decide_eq_true (by kernel_rfl)) (by unfold Func.isWrapper; first | (rw [if_pos (by decide +kernel)]; kernel_rfl) | (rw [if_neg (by decide +kernel)]; exact ⟨rfl, rfl⟩))
    (fun os started H enc _ => lifted os started H enc)

theorem proved : Rows.UtfFoldsSaid :=
  over
end Go.Proofs.Ytlnagfpkhojcmaa.utfFolds
