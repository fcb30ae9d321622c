/-
  The statement about UtfJoins: for every input the law returns true, and each argument reads afterwards as it read before. No condition.
-/
import Derived.Test.YtlnagfpkhojcmaaRows
import Derived.Test.YtlnagfpkhojcmaaUtfCheck
import Derived.Test.YtlnagfpkhojcmaaUtfJoin
import Derived.WalkKit
import Derived.ProofKit
import Derived.OpenShut
import Derived.ShutString
import Derived.SizedLaws
namespace Go.Proofs.Ytlnagfpkhojcmaa.utfJoins
open Go.ChangeShapes Go.WideShapes Go.ChangeAt Go.RowKit
open Go.ChangeMaps (open_string shut_string)
open Go.Proofs.Ytlnagfpkhojcmaa.Utf
set_option linter.unusedVariables false

theorem own : ownKnob Try.prog.godebug = none := by kernel_rfl

theorem check_conv (t : ByteArray) (w : World) (hs : t.size ≤ maxLen) :
    Calls Try.prog 11 #[.slice (some ⟨w.heap.size, 0, none⟩) t.size (grownCap w t.size 0 5)] (w.alloc (Obj.cells (bytesRow t (grownCap w t.size 0 5)) 5 ((bytesRow t (grownCap w t.size 0 5)).size, (bytesRow t (grownCap w t.size 0 5)).size + 1))).drew
      fun e w' => e = .returned (.int .i64 (chk t)) ∧ Below w.heap.size w w' := by
  have hB : Lib.Bytes (w.alloc (Obj.cells (bytesRow t (grownCap w t.size 0 5)) 5 ((bytesRow t (grownCap w t.size 0 5)).size, (bytesRow t (grownCap w t.size 0 5)).size + 1))).drew w.heap.size 0 t := bytes_row w t _ _ _
  refine (check_any t _ _ _ hB hs).mono ?_
  rintro e w3 ⟨rfl, rfl⟩
  exact ⟨rfl, ((Below.refl _ _).alloc (Nat.le_refl _) _).drew⟩
theorem check_conv_n (t : ByteArray) (n : Nat) (w : World) (hn : t.size = n) (hs : t.size ≤ maxLen) :
    Calls Try.prog 11 #[.slice (some ⟨w.heap.size, 0, none⟩) n (grownCap w n 0 5)] (w.alloc (Obj.cells (bytesRow t (grownCap w n 0 5)) 5 ((bytesRow t (grownCap w n 0 5)).size, (bytesRow t (grownCap w n 0 5)).size + 1))).drew
      fun e w' => e = .returned (.int .i64 (chk t)) ∧ Below w.heap.size w w' := by
  subst hn; exact check_conv t w hs
set_option maxRecDepth 100000 in
set_option maxHeartbeats 400000 in
theorem walk (a0 : ByteArray) (a1 : ByteArray) (a2 : Int) (w0 : a0.size ≤ maxLen) (r0 : a0.size ≤ reachBytes) (w1 : a1.size ≤ maxLen) (r1 : a1.size ≤ reachBytes) (w2 : (Lit.int .u64 a2).wf = true) (w : World) :
    Calls Try.prog 7 #[.string a0, .string a1, .int .u64 a2] w fun e w' => e = .returned (.bool true) ∧ Below w.heap.size w w' := by
  have hca := fun (w : World) (t : ByteArray) => run_bytes_of_string (P := Try.prog) w 9 25 5 t Try.underlying9 Try.underlying25 Try.underlying5
  have hu : 0 ≤ a2 := by have h := w2; simp [Lit.wf, IntKind.min, IntKind.max, IntKind.signed, IntKind.bits] at h; omega
  have r0' : a0.size ≤ 140737488355328 := by unfold reachBytes at r0; omega
  have r1' : a1.size ≤ 140737488355328 := by unfold reachBytes at r1; omega
  by_cases hl : 5000 < (a0.size : Int) + (a1.size : Int)
  · go_enter Try.func7, Try.ntmps7
    go_wp2_with fail
    refine (awake_any _).mono ?_
    rintro e W1 ⟨rfl, hb⟩
    go_wp2_with fail
    refine (awake_any _).mono ?_
    rintro e w2 ⟨rfl, hb2⟩
    go_wp2_with fail
    go_ret
    exact ⟨rfl, hb.trans (hb2.mono hb.size)⟩
  have el : decide (5000 < (a0.size : Int) + (a1.size : Int)) = false := by simpa using hl
  have hla : a0.size ≤ 5000 := by omega
  have hlb : a1.size ≤ 5000 := by omega
  by_cases ha : chk a0 = 0
  · by_cases hbb : chk a1 = 0
    · have Ha := Lib.hid ((chk_zero_iff a0).1 ha)
      have Hb := Lib.hid ((chk_zero_iff a1).1 hbb)
      have Ha0 := Lib.hid ha
      have Hb0 := Lib.hid hbb
      clear ha hbb
      obtain ⟨k, hk, hk2⟩ : ∃ k : Nat, a2 % ((a0.size : Int) + (a1.size : Int) + 1) = (k : Int) ∧ k ≤ a0.size + a1.size := by
        have h1 := Int.emod_nonneg a2 (show (a0.size : Int) + (a1.size : Int) + 1 ≠ 0 by omega)
        have h2 := Int.emod_lt_of_pos a2 (show 0 < (a0.size : Int) + (a1.size : Int) + 1 by omega)
        exact ⟨(a2 % ((a0.size : Int) + (a1.size : Int) + 1)).toNat, by omega, by omega⟩
      go_enter Try.func7, Try.ntmps7
      go_wp2_with fail
      refine (awake_any _).mono ?_
      rintro e W1 ⟨rfl, hb⟩
      go_wp2_with fail
      refine (check_conv a0 _ w0).mono ?_
      rintro e w2 ⟨rfl, hb1⟩
      have hb2 := hb.trans (hb1.mono hb.size)
      clear hb1
      rw [Ha0.out]
      go_wp2_with fail
      refine (check_conv a1 _ w1).mono ?_
      rintro e w3 ⟨rfl, hb1⟩
      have hb3 := hb2.trans (hb1.mono hb2.size)
      clear hb1 hb2
      rw [Hb0.out]
      go_wp2_with fail
      clear hk
      have hg : goesAt (a0 ++ a1) 0 = true := goes_join a0 a1 Ha.out.2.2 Hb.out.2.2
      have hz : zeroB (a0 ++ a1) = false := zero_join a0 a1 Ha.out.2.1 Hb.out.2.1
      have hsz : (a0 ++ a1).size = a0.size + a1.size := ByteArray.size_append
      have hs5 : (a0 ++ a1).size ≤ 5000 := by omega
      have hks : k ≤ (a0 ++ a1).size := by omega
      clear hsz Ha Hb Ha0 Hb0
      generalize a0 ++ a1 = s at *
      have Hz := Lib.hid hz
      have Hc := Lib.hid ((chk_zero_iff s).2 ⟨by omega, hz, hg⟩)
      have hB0 := Bnd.start s hg
      have hsm : s.size ≤ maxLen := by unfold maxLen; omega
      have Hsm := Lib.hid hsm
      clear hz hg hsm
      go_loop [9] (fun i => ∃ p : Nat, i = .int .i64 p ∧ Bnd s p ∧ (p ≤ k ∨ Cut s k)) (fun i => k - (intOf i).toNat)
      case atStart => exact ⟨0, rfl, hB0, Or.inl (Nat.zero_le _)⟩
      case round =>
        obtain ⟨p, rfl, hbd, hpc⟩ := hrel
        have hp2 : p ≤ s.size := hbd.2.1
        by_cases hlt : p < k
        · have h0 := hbd.nonzero (by omega)
          have hst := hbd.step (by omega)
          have hle := nxt_le s p
          have hcut : p + (nxt s p).2 ≤ k ∨ Cut s k := by
            by_cases h : p + (nxt s p).2 ≤ k
            · exact Or.inl h
            · exact Or.inr ⟨p, hbd, hlt, by omega⟩
          have hin := nxtI_in s p
          generalize nxt s p = q at *
          obtain ⟨c, n⟩ := q
          have Hin := Lib.hid hin
          simp only at h0 hst hle hcut
          have e0 : ((n : Int) == 0) = false := by simp [h0]
          have Hst := Lib.hid (And.intro hst hcut)
          clear hin hst hcut hbd hpc hB0
          go_wp2_with (go_at_call 13; refine (next_any s p Hsm.out _).mono ?_; rintro e w' ⟨rfl, rfl⟩; rw [Hin.out])
          go_round
          case rel => exact ⟨p + n, by go_num, Hst.out.1, Hst.out.2⟩
          case measure => simp [intOf]; omega
        · obtain ⟨whole, hw1, hw2⟩ : ∃ whole : Bool, ((p : Int) == (k : Int)) = whole ∧ (goesAt (s.extract 0 k) 0 = whole ∧ goesAt (s.extract k s.size) 0 = whole) := by
            by_cases h : p = k
            · subst h; exact ⟨true, by simp, hbd.parts⟩
            · exact ⟨false, by simp; omega, (hpc.resolve_left (by omega)).parts hks⟩
          have Hp := Lib.hid (chk_parts hs5 Hz.out hw2)
          clear hw2 hbd hpc hB0
          cases whole with
          | true =>
            go_wp2_with fail
            refine (check_conv s _ Hsm.out).mono ?_
            rintro e w4 ⟨rfl, hb1⟩
            have hb4 := hb3.trans (hb1.mono hb3.size)
            clear hb1 hb3
            rw [Hc.out]
            go_wp2_with fail
            refine (check_conv_n (s.extract 0 k) k _ (by rw [ByteArray.size_extract]; omega) (by rw [ByteArray.size_extract]; unfold maxLen; omega)).mono ?_
            rintro e w5 ⟨rfl, hb1⟩
            have hb5 := hb4.trans (hb1.mono hb4.size)
            clear hb1 hb4
            obtain ⟨e1, e2⟩ := Hp.out
            generalize chk (s.extract 0 k) = c1 at *
            generalize hc2 : chk (s.extract k s.size) = c2 at *
            have Hc2 := Lib.hid hc2
            clear hc2 Hp
            go_wp2_with fail
            refine (check_conv_n (s.extract k s.size) (s.size - k) _ (by rw [ByteArray.size_extract]; omega) (by rw [ByteArray.size_extract]; unfold maxLen; omega)).mono ?_
            rintro e w6 ⟨rfl, hb1⟩
            have hb6 := hb5.trans (hb1.mono hb5.size)
            clear hb1 hb5
            rw [Hc2.out]
            go_wp2_with fail
            go_ret
            exact ⟨rfl, hb6⟩
          | false =>
            go_wp2_with fail
            refine (check_conv s _ Hsm.out).mono ?_
            rintro e w4 ⟨rfl, hb1⟩
            have hb4 := hb3.trans (hb1.mono hb3.size)
            clear hb1 hb3
            rw [Hc.out]
            go_wp2_with fail
            refine (check_conv_n (s.extract 0 k) k _ (by rw [ByteArray.size_extract]; omega) (by rw [ByteArray.size_extract]; unfold maxLen; omega)).mono ?_
            rintro e w5 ⟨rfl, hb1⟩
            have hb5 := hb4.trans (hb1.mono hb4.size)
            clear hb1 hb4
            obtain ⟨e1, e2⟩ := Hp.out
            generalize chk (s.extract 0 k) = c1 at *
            generalize hc2 : chk (s.extract k s.size) = c2 at *
            have Hc2 := Lib.hid hc2
            clear hc2 Hp
            go_wp2_with fail
            refine (check_conv_n (s.extract k s.size) (s.size - k) _ (by rw [ByteArray.size_extract]; omega) (by rw [ByteArray.size_extract]; unfold maxLen; omega)).mono ?_
            rintro e w6 ⟨rfl, hb1⟩
            have hb6 := hb5.trans (hb1.mono hb5.size)
            clear hb1 hb5
            rw [Hc2.out]
            go_wp2_with fail
            go_ret
            exact ⟨rfl, hb6⟩
    · have eb : (chk a1 != 0) = true := by simpa using hbb
      have Ha0 := Lib.hid ha
      clear ha hbb
      go_enter Try.func7, Try.ntmps7
      go_wp2_with fail
      refine (awake_any _).mono ?_
      rintro e W1 ⟨rfl, hb⟩
      go_wp2_with fail
      refine (check_conv a0 _ w0).mono ?_
      rintro e w2 ⟨rfl, hb1⟩
      have hb2 := hb.trans (hb1.mono hb.size)
      clear hb1
      rw [Ha0.out]
      go_wp2_with fail
      refine (check_conv a1 _ w1).mono ?_
      rintro e w3 ⟨rfl, hb1⟩
      have hb3 := hb2.trans (hb1.mono hb2.size)
      clear hb1 hb2
      generalize chk a1 = ca at *
      go_wp2_with fail
      refine (awake_any _).mono ?_
      rintro e w4 ⟨rfl, hb4⟩
      go_wp2_with fail
      go_ret
      exact ⟨rfl, hb3.trans (hb4.mono hb3.size)⟩
  have ea : (chk a0 != 0) = true := by simpa using ha
  go_enter Try.func7, Try.ntmps7
  go_wp2_with fail
  refine (awake_any _).mono ?_
  rintro e W1 ⟨rfl, hb⟩
  go_wp2_with fail
  clear hca
  refine (check_conv a0 _ w0).mono ?_
  rintro e w2 ⟨rfl, hb1⟩
  have hb2 := hb.trans (hb1.mono hb.size)
  generalize chk a0 = ca at *
  go_wp2_with fail
  refine (awake_any _).mono ?_
  rintro e w3 ⟨rfl, hb3⟩
  go_wp2_with fail
  go_ret
  exact ⟨rfl, hb2.trans (hb3.mono hb2.size)⟩

set_option maxRecDepth 100000 in
theorem lifted (os : Os) (started : os.Started) (H : Type) (enc : TypeId × Value → H) :
    ReturnsInHanded {} Try.checked os 7 .any (Rows.utfJoinsSpec.pre6 enc Try.prog Try.f7 Rows.utfJoinsRow.domain false) (Rows.utfJoinsSpec.post enc Try.prog Try.f7 false true false false) := by
  refine returnsInHanded_of_change_sized (C := Try.checked) own started (by kernel_rfl) Try.func7
    (ChangeSpec.witness6 (enc := enc) (C := Try.checked) false ⟨#[], #[.string ByteArray.empty, .string ByteArray.empty, .int .u64 0], []⟩ 8 (by kernel_rfl) (by kernel_rfl) (by kernel_rfl) (by kernel_rfl)) ?_
  intro W base args ds gs before hval0 hW hcnd hsz0 _
  have hval : ∀ (j : Nat) t v, Try.f7.params[j]? = some t → args[j]? = some v → Value.okWide Try.prog W .any base t v := hval0
  have hsz : (DataW.weightsEach Try.prog (Try.f7.params.toList ++ Rows.utfJoinsSpec.plain.varTypes Try.prog) (ds ++ gs)).all (· ≤ reachBytes) = true := hsz0
  have hW' := hW
  obtain ⟨p, q, hA0, hV, rfl, hfz, hnd⟩ := hW
  have hA : DataW.TrodAll enc Try.prog W 0 (fun _ => true) true Try.f7.params.toList args.toList ds p := hA0
  rw [Try.params7] at hA hval hsz
  obtain ⟨v0, vs0, d0, ds0, p0, q0, hargs, rfl, rfl, h0, r0⟩ := trodAll_cons hA
  obtain ⟨v1, vs1, d1, ds1, p1, q1, rfl, rfl, rfl, h1, r1⟩ := trodAll_cons r0
  obtain ⟨v2, vs2, d2, ds2, p2, q2, rfl, rfl, rfl, h2, r2⟩ := trodAll_cons r1
  obtain ⟨rfl, rfl, rfl⟩ := trodAll_nil r2
  obtain rfl : args = #[v0, v1, v2] := by cases args; simp_all
  obtain ⟨rfl, rfl⟩ := trodVars_none hV
  obtain ⟨a0, rfl, rfl, rfl, w0⟩ := open_string Try.underlying9 (hval 0 9 v0 rfl rfl) h0
  obtain ⟨a1, rfl, rfl, rfl, w1⟩ := open_string Try.underlying9 (hval 1 9 v1 rfl rfl) h1
  obtain ⟨a2, rfl, rfl, rfl, w2⟩ := open_int Try.underlying35 (hval 2 35 v2 rfl rfl) h2
  clear hA0 hval0 hsz0
  simp only [List.append_nil] at hW'
  refine (walk a0 a1 a2 w0 (by have := sized_string hsz (j := 0) (t := 9) rfl rfl; simpa using this) w1 (by have := sized_string hsz (j := 1) (t := 9) rfl rfl; simpa using this) w2 W).mono fun e W' ⟨he, bel⟩ => ?_
  subst he
  exact ⟨_, rfl, _, _, _, [], _, [], hW', trodAll_mk1 (shut_bool Try.underlying4 _), (trodAll_cons_mk (shut_string Try.underlying9 w0) (trodAll_cons_mk (shut_string Try.underlying9 w1) (trodAll_cons_mk (shut_int Try.underlying35 w2) trodAll_mk0))), rfl, bel.frame _, fun h => by cases h⟩

theorem over : Rows.utfJoinsRow.holds Try.pinned (OpenSpec.ofChange Rows.utfJoinsSpec) :=
  OpenClaim.holds_of_wide 7 Try.f7 rfl rfl rfl rfl rfl rfl rfl ⟨rfl, rfl, rfl, rfl, rfl⟩ rfl rfl rfl rfl rfl (by kernel_rfl) Try.func7 (by kernel_rfl)
    (of_decide_eq_true (by kernel_rfl)) (by unfold Func.isWrapper; first | (rw [if_pos (by decide +kernel)]; kernel_rfl) | (rw [if_neg (by decide +kernel)]; exact ⟨rfl, rfl⟩))
    (fun os started H enc _ => lifted os started H enc)

theorem proved : Rows.UtfJoinsSaid :=
  over
end Go.Proofs.Ytlnagfpkhojcmaa.utfJoins
