/-
  The statement about UtfGoes: for every input the law returns true, and each argument reads afterwards as it read before. No condition.
-/
import Derived.Test.YtlnagfpkhojcmaaRows
import Derived.Test.YtlnagfpkhojcmaaUtfCheck
import Derived.Test.YtlnagfpkhojcmaaUtfEnc
import Derived.WalkKit
import Derived.ProofKit
import Derived.OpenShut
import Derived.ShutString
import Derived.SizedLaws
namespace Go.Proofs.Ytlnagfpkhojcmaa.utfGoes
open Go.ChangeShapes Go.WideShapes Go.ChangeAt Go.RowKit
open Go.ChangeMaps (open_string shut_string)
open Go.Proofs.Ytlnagfpkhojcmaa.Utf
set_option linter.unusedVariables false

theorem own : ownKnob Try.prog.godebug = none := by kernel_rfl

theorem chk_bad (t : ByteArray) (h : goesAt t 0 = false) : (chk t != 0) = true := by
  unfold chk
  rw [h]
  split
  · decide
  · split
    · decide
    · decide
theorem chk_good (t : ByteArray) (h : goesAt t 0 = true) (hs : t.size ≤ 5000) : chk t = 0 ∨ chk t = 3 := by
  unfold chk
  rw [h, if_neg (by omega)]
  split
  · exact Or.inr rfl
  · exact Or.inl rfl
theorem ext_zero (t : ByteArray) : (⟨#[]⟩ : ByteArray) = t.extract 0 0 := by apply ByteArray.ext; simp
set_option maxRecDepth 100000 in
set_option maxHeartbeats 400000 in
theorem walk (a0 : ByteArray) (w0 : a0.size ≤ maxLen) (r0 : a0.size ≤ reachBytes) (w : World) :
    Calls Try.prog 6 #[.string a0] w fun e w' => e = .returned (.bool true) ∧ Below w.heap.size w w' := by
  have hcv := fun (w : World) => run_bytes_of_string (P := Try.prog) w 9 25 5 a0 Try.underlying9 Try.underlying25 Try.underlying5
  by_cases hl : 5000 < (a0.size : Int)
  · go_enter Try.func6, Try.ntmps6
    go_wp2_with fail
    refine (awake_any _).mono ?_
    rintro e w1 ⟨rfl, hb⟩
    go_wp2_with fail
    refine (awake_any _).mono ?_
    rintro e w2 ⟨rfl, hb2⟩
    go_wp2_with fail
    go_ret
    exact ⟨rfl, hb.trans (hb2.mono hb.size)⟩
  have el : decide (5000 < (a0.size : Int)) = false := by simpa using hl
  go_enter Try.func6, Try.ntmps6
  go_wp2_with fail
  refine (awake_any _).mono ?_
  rintro e w1 ⟨rfl, hb⟩
  go_wp2_with fail
  have hb2 : Below w.heap.size w (w1.alloc (Obj.cells (bytesRow a0 (grownCap w1 a0.size 0 5)) 5 ((bytesRow a0 (grownCap w1 a0.size 0 5)).size, (bytesRow a0 (grownCap w1 a0.size 0 5)).size + 1))).drew := (hb.alloc hb.size _).drew
  have hB : Lib.Bytes (w1.alloc (Obj.cells (bytesRow a0 (grownCap w1 a0.size 0 5)) 5 ((bytesRow a0 (grownCap w1 a0.size 0 5)).size, (bytesRow a0 (grownCap w1 a0.size 0 5)).size + 1))).drew w1.heap.size 0 a0 := bytes_row w1 a0 _ _ _
  go_loop [3, 4] (fun i o => ∃ k : Nat, k ≤ a0.size ∧ i = .int .i64 k ∧ o = .string (a0.extract 0 k) ∧ Hid (goesAt a0 k = goesAt a0 0)) (fun i _ => a0.size - (intOf i).toNat)
  case atStart => exact ⟨0, Nat.zero_le _, rfl, by rw [ext_zero a0], rfl⟩
  case round =>
    obtain ⟨k, hk, rfl, rfl, Hg⟩ := hrel
    by_cases hlt : k < a0.size
    · have hn := nxt_le a0 k
      have hlt2 := nxt_lt a0 k
      have hin := nxtI_in a0 k
      have hbad := fun h0 => goesAt_bad a0 k hlt h0
      have hstep := fun h0 => goesAt_step a0 k hlt h0
      have henc := fun h0 => enc_nxt a0 k h0
      generalize nxt a0 k = p at *
      obtain ⟨c, n⟩ := p
      simp only at hn hbad hstep henc hlt2
      obtain ⟨ci, hci⟩ : ∃ ci : Int, ((c : Nat) : Int) = ci := ⟨_, rfl⟩
      have hc1 : 0 ≤ ci := by omega
      have hc2 : ci < 2097152 := by omega
      rw [hci] at henc
      have Hin : Hid ((((nxtI a0 k).1 : Nat) : Int) = ci ∧ (((nxtI a0 k).2 : Nat) : Int) = n) := Lib.hid (by rw [hin]; exact ⟨hci, rfl⟩)
      clear hin hlt2 hci
      by_cases h0 : n = 0
      · have Hfin := Lib.hid (chk_bad a0 (by rw [← Hg.out]; exact hbad h0))
        clear hbad hstep henc
        subst h0
        go_wp2_with (go_at_call 13; refine (next_any a0 k w0 _).mono ?_; rintro e w' ⟨rfl, rfl⟩; rw [Hin.out.1, Hin.out.2])
        clear hcv
        generalize (w1.alloc (Obj.cells (bytesRow a0 (grownCap w1 a0.size 0 5)) 5 ((bytesRow a0 (grownCap w1 a0.size 0 5)).size, (bytesRow a0 (grownCap w1 a0.size 0 5)).size + 1))).drew = w2 at *
        refine (check_any a0 _ _ _ hB w0).mono ?_
        rintro e w3 ⟨rfl, rfl⟩
        go_wp2_with fail
        go_ret
        exact ⟨ret_bool Hfin.out, hb2⟩
      · have Hst := Lib.hid (hstep h0)
        have Henc := Lib.hid (henc h0)
        clear hbad hstep henc hB hb2 hcv
        have e0 : ((n : Int) == 0) = false := by simp [h0]
        have hes : (Utf8.encode ci).size ≤ 5000 := by rw [Henc.out, ByteArray.size_extract]; omega
        go_wp2_with (go_at_call 13; refine (next_any a0 k w0 _).mono ?_; rintro e w' ⟨rfl, rfl⟩; rw [Hin.out.1, Hin.out.2])
        go_round
        case rel => exact ⟨k + n, by omega, by go_num, by rw [Henc.out, ext_app], Hst.out.trans Hg.out⟩
        case measure => simp [intOf]; omega
    · obtain rfl : k = a0.size := by omega
      rw [ext_all]
      have Hfin := Lib.hid (chk_good a0 (by rw [← Hg.out]; exact goesAt_end a0 _ (Nat.le_refl _)) (by omega))
      go_wp2_with fail
      clear hcv
      generalize (w1.alloc (Obj.cells (bytesRow a0 (grownCap w1 a0.size 0 5)) 5 ((bytesRow a0 (grownCap w1 a0.size 0 5)).size, (bytesRow a0 (grownCap w1 a0.size 0 5)).size + 1))).drew = w2 at *
      refine (check_any a0 _ _ _ hB w0).mono ?_
      rintro e w3 ⟨rfl, rfl⟩
      rcases Hfin.out with hz | hz
      · rw [hz]
        go_wp2_with fail
        go_ret
        exact ⟨rfl, hb2⟩
      · rw [hz]
        go_wp2_with fail
        go_ret
        exact ⟨rfl, hb2⟩

set_option maxRecDepth 100000 in
theorem lifted (os : Os) (started : os.Started) (H : Type) (enc : TypeId × Value → H) :
    ReturnsInHanded {} Try.checked os 6 .any (Rows.utfGoesSpec.pre6 enc Try.prog Try.f6 Rows.utfGoesRow.domain false) (Rows.utfGoesSpec.post enc Try.prog Try.f6 false true false false) := by
  refine returnsInHanded_of_change_sized (C := Try.checked) own started (by kernel_rfl) Try.func6
    (ChangeSpec.witness6 (enc := enc) (C := Try.checked) false ⟨#[], #[.string ByteArray.empty], []⟩ 8 (by kernel_rfl) (by kernel_rfl) (by kernel_rfl) (by kernel_rfl)) ?_
  intro W base args ds gs before hval0 hW hcnd hsz0 _
  have hval : ∀ (j : Nat) t v, Try.f6.params[j]? = some t → args[j]? = some v → Value.okWide Try.prog W .any base t v := hval0
  have hsz : (DataW.weightsEach Try.prog (Try.f6.params.toList ++ Rows.utfGoesSpec.plain.varTypes Try.prog) (ds ++ gs)).all (· ≤ reachBytes) = true := hsz0
  have hW' := hW
  obtain ⟨p, q, hA0, hV, rfl, hfz, hnd⟩ := hW
  have hA : DataW.TrodAll enc Try.prog W 0 (fun _ => true) true Try.f6.params.toList args.toList ds p := hA0
  rw [Try.params6] at hA hval hsz
  obtain ⟨v0, vs0, d0, ds0, p0, q0, hargs, rfl, rfl, h0, r0⟩ := trodAll_cons hA
  obtain ⟨rfl, rfl, rfl⟩ := trodAll_nil r0
  obtain rfl : args = #[v0] := by cases args; simp_all
  obtain ⟨rfl, rfl⟩ := trodVars_none hV
  obtain ⟨a0, rfl, rfl, rfl, w0⟩ := open_string Try.underlying9 (hval 0 9 v0 rfl rfl) h0
  clear hA0 hval0 hsz0
  simp only [List.append_nil] at hW'
  refine (walk a0 w0 (by have := sized_string hsz (j := 0) (t := 9) rfl rfl; simpa using this) W).mono fun e W' ⟨he, bel⟩ => ?_
  subst he
  exact ⟨_, rfl, _, _, _, [], _, [], hW', trodAll_mk1 (shut_bool Try.underlying4 _), (trodAll_cons_mk (shut_string Try.underlying9 w0) trodAll_mk0), rfl, bel.frame _, fun h => by cases h⟩

theorem over : Rows.utfGoesRow.holds Try.pinned (OpenSpec.ofChange Rows.utfGoesSpec) :=
  OpenClaim.holds_of_wide 6 Try.f6 rfl rfl rfl rfl rfl rfl rfl ⟨rfl, rfl, rfl, rfl, rfl⟩ rfl rfl rfl rfl rfl (by kernel_rfl) Try.func6 (by kernel_rfl)
    (of_decide_eq_true (by kernel_rfl)) (by unfold Func.isWrapper; first | (rw [if_pos (by decide +kernel)]; kernel_rfl) | (rw [if_neg (by decide +kernel)]; exact ⟨rfl, rfl⟩))
    (fun os started H enc _ => lifted os started H enc)

theorem proved : Rows.UtfGoesSaid :=
  over
end Go.Proofs.Ytlnagfpkhojcmaa.utfGoes
