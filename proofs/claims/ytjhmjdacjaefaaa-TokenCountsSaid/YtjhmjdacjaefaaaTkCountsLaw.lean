/-
  The statement about TokenCounts: for every input the law returns true, and each argument reads afterwards as it read before. No condition.
-/
import Derived.Test.YtjhmjdacjaefaaaRows
import Derived.Test.YtjhmjdacjaefaaaTkFrame
import Derived.WalkKit
import Derived.ProofKit
import Derived.OpenShut
import Derived.ShutString
import Derived.SizedLaws
import Derived.Laws.AppendOwnNone
namespace Go.Proofs.Ytjhmjdacjaefaaa.tokenCounts
open Go.ChangeShapes Go.WideShapes Go.ChangeAt Go.RowKit
open Go.ChangeMaps (open_string shut_string)
open Go.Proofs.Ytjhmjdacjaefaaa.Tk
set_option linter.unusedVariables false

theorem own : ownKnob Try.prog.godebug = none := by kernel_rfl

theorem one_byte (w : World) (c : UInt8) :
    (convert 37 9 (.slice (some ⟨w.heap.size, 0, none⟩) 1 1)).run Try.prog (w.alloc (.cells #[.int .u8 c.toNat] 5)) = .ok (.string (S [c])) (w.alloc (.cells #[.int .u8 c.toNat] 5)) := by
  refine Lib.run_convert_whole (P := Try.prog) _ 37 5 9 Try.underlying37 Try.underlying5 Try.underlying9 w.heap.size 0 (S [c]) ?_ 1
  intro i hi
  obtain rfl : i = 0 := by have : i < 1 := hi; omega
  rw [Nat.zero_add, World.cell?_alloc_new]
  rfl
theorem S_rep (k : Nat) (c : UInt8) : S (List.replicate k c) ++ S [c] = S (List.replicate (k + 1) c) := by
  rw [S_app, List.replicate_succ', ]
/-- The classes as the statement writes them. -/
def mk (x : Int) : Prop := (32 < x ∧ x < 48) ∨ (57 < x ∧ x < 65) ∨ (90 < x ∧ x < 97) ∨ (122 < x ∧ x < 127) ∨ x = 10 ∨ x = 13
theorem mk_cls (c : UInt8) : (mk c.toNat → ¬ cls c < 3) ∧ (¬ mk c.toNat → cls c < 3) := by
  have h := cls_nat c
  have hx : (0 : Int) ≤ c.toNat := by omega
  generalize (c.toNat : Int) = x at *
  unfold mk
  constructor
  · intro hm hc
    have h3 : clsI x < 3 := by omega
    rcases hm with hm | hm | hm | hm | hm | hm
    · rw [clsI4 x (by omega)] at h3; omega
    · rw [clsI4 x (by omega)] at h3; omega
    · rw [clsI4 x (by omega)] at h3; omega
    · rw [clsI4 x (by omega)] at h3; omega
    · rw [clsI3 x (by omega)] at h3; omega
    · rw [clsI3 x (by omega)] at h3; omega
  · intro hm
    by_cases h2 : x = 9 ∨ x = 32
    · rw [clsI2 x h2] at h; omega
    · rw [clsI1 x (by omega) h2 (by omega)] at h; omega
theorem rep_len (c : UInt8) (n : Nat) : (mk c.toNat → (toks (List.replicate n c)).length = n) ∧ (¬ mk c.toNat → (toks (List.replicate n c)).length = min n 1) :=
  ⟨fun h => toks_rep_mark c ((mk_cls c).1 h) n, fun h => toks_rep_run c ((mk_cls c).2 h) n⟩
theorem mk_cases (x : Int) : ((32 < x ∧ x < 48) ∨ (57 < x ∧ x < 65) ∨ (90 < x ∧ x < 97) ∨ (122 < x ∧ x < 127) ∨ x = 10 ∨ x = 13) ∨ (x < 10 ∨ (10 < x ∧ x < 13) ∨ (13 < x ∧ x ≤ 32) ∨ (48 ≤ x ∧ x ≤ 57) ∨ (65 ≤ x ∧ x ≤ 90) ∨ (97 ≤ x ∧ x ≤ 122) ∨ 127 ≤ x) := by omega

set_option maxHeartbeats 3200000 in
theorem walk (w : World) (a0 : ByteArray) (w0 : a0.size ≤ maxLen) (r0 : a0.size ≤ reachBytes) (a1 : UInt8) (a2 : UInt8) :
    Calls Try.prog 8 #[.string a0, .int .u8 a1.toNat, .int .u8 a2.toNat] w fun e w' => e = .returned (.bool true) ∧ Below w.heap.size w w' := by
  by_cases hl : 2000 < a0.size
  · go_enter Try.func8, Try.ntmps8
    go_wp2_with fail
    refine (awake_any _).mono ?_
    rintro e w1 ⟨rfl, hb⟩
    go_wp2_with fail
    refine (awake_any _).mono ?_
    rintro e w2 ⟨rfl, hb2⟩
    go_wp2_with fail
    go_ret
    exact ⟨rfl, hb.trans (hb2.mono hb.size)⟩
  have z0 : a0.size ≤ 2000 := by omega
  have h255 : a2.toNat ≤ 255 := by have := a2.toNat_lt; omega
  have g255 : (a1.toNat : Int) ≤ 255 := by have := a1.toNat_lt; omega
  have g0 : (0 : Int) ≤ a1.toNat := by omega
  have Hb := Lib.hid (cut_any a0 (by omega))
  have hlb : (toks a0.data.toList).length ≤ a0.size := by have := toks_len a0.data.toList; rwa [len_data] at this
  have Hr := Lib.hid (rep_len a1 a2.toNat)
  have ha := cut_any (S (List.replicate a2.toNat a1)) (by rw [S_size, List.length_replicate]; omega)
  rw [S_list] at ha
  have Ha := Lib.hid ha
  have hob := fun w => one_byte w a1
  clear ha
  generalize a2.toNat = n at *
  generalize (toks a0.data.toList).map encStr = ys at *
  generalize (toks a0.data.toList).length = m at *
  generalize (toks (List.replicate n a1)).length = q at *
  have hq : q ≤ 255 := by
    by_cases h : mk a1.toNat
    · rw [Hr.out.1 h]; exact h255
    · rw [Hr.out.2 h]; omega
  generalize (a1.toNat : Int) = x at *
  go_enter Try.func8, Try.ntmps8
  go_wp2_with fail
  refine (awake_any _).mono ?_
  rintro e w1 ⟨rfl, hb⟩
  have B1 := Lib.hid hb
  clear hb
  go_wp2_with fail
  go_loopw [7, 20] (fun o i wr => ∃ k : Nat, k ≤ n ∧ i = .int .u8 k ∧ o = .string (S (List.replicate k a1)) ∧ Hid (Below w.heap.size w wr)) (fun _ i _ => n - (intOf i).toNat)
  case atStart => exact ⟨0, Nat.zero_le _, rfl, rfl, B1⟩
  case round =>
    obtain ⟨k, hk, rfl, rfl, HB⟩ := hrel
    by_cases hlt : k < n
    · have hs1 : (S (List.replicate k a1)).size ≤ 255 := by rw [S_size, List.length_replicate]; omega
      have hs2 : (S [a1]).size ≤ 1 := by rw [S_size]; exact Nat.le_refl _
      have HS := Lib.hid (S_rep k a1)
      have ho := hob wr
      have HB2 := Lib.hid (HB.out.alloc HB.out.size (.cells #[.int .u8 x] 5))
      clear hob
      generalize S (List.replicate k a1) = acc at *
      generalize S [a1] = one at *
      go_wp2_with fail
      go_roundw
      case rel => exact ⟨k + 1, by omega, by go_num, by rw [← HS.out], HB2⟩
      case measure => simp [intOf]; omega
    · obtain rfl : k = n := by omega
      clear hob
      go_wp2_with fail
      refine (Ha.out _).mono ?_
      rintro e w3 ⟨vx, rfl, hown, hb⟩
      obtain ⟨vo, vc, rfl⟩ := own_len hown
      have B3 := Lib.hid (HB.out.trans (hb.mono HB.out.size))
      clear hown hb
      have Hq1 : Hid (mk x → q = k) := Lib.hid Hr.out.1
      have Hq2 : Hid (¬ mk x → q = min k 1) := Lib.hid Hr.out.2
      clear Hr
      rcases mk_cases x with h | h
      · have E := Hq1.out h
        clear Hq1 Hq2
        subst E
        have eq1 : ((q : Int) == (q : Int)) = true := by simp
        rcases h with h | h | h | h | h | h
        all_goals (
          first | subst h | skip
          go_wp2_with fail
          refine (Hb.out _).mono ?_
          rintro e w4 ⟨vy, rfl, hown, hb⟩
          obtain ⟨wo, wc, rfl⟩ := own_len hown
          have B4 := Lib.hid (B3.out.trans (hb.mono B3.out.size))
          clear hown hb
          go_wp2_with fail
          go_ret
          exact ⟨rfl, B4.out⟩)
      · have E := Hq2.out (by unfold mk; omega)
        clear Hq1 Hq2
        have eq1 : ((q : Int) == min (k : Int) 1) = true := by rw [beq_iff_eq]; omega
        rcases h with h | h | h | h | h | h | h
        all_goals (
          have e10 : (x == 10) = false := beq_eq_false_iff_ne.2 (by omega)
          have e13 : (x == 13) = false := beq_eq_false_iff_ne.2 (by omega)
          go_wp2_with fail
          refine (Hb.out _).mono ?_
          rintro e w4 ⟨vy, rfl, hown, hb⟩
          obtain ⟨wo, wc, rfl⟩ := own_len hown
          have B4 := Lib.hid (B3.out.trans (hb.mono B3.out.size))
          clear hown hb
          go_wp2_with fail
          go_ret
          exact ⟨rfl, B4.out⟩)

set_option maxRecDepth 100000 in
theorem lifted (os : Os) (started : os.Started) (H : Type) (enc : TypeId × Value → H) :
    ReturnsInHanded {} Try.checked os 8 .any (Rows.tokenCountsSpec.pre6 enc Try.prog Try.f8 Rows.tokenCountsRow.domain false) (Rows.tokenCountsSpec.post enc Try.prog Try.f8 false true false false) := by
  refine returnsInHanded_of_change_sized (C := Try.checked) own started (by kernel_rfl) Try.func8
    (ChangeSpec.witness6 (enc := enc) (C := Try.checked) false ⟨#[], #[.string ByteArray.empty, .int .u8 0, .int .u8 0], []⟩ 8 (by kernel_rfl) (by kernel_rfl) (by kernel_rfl) (by kernel_rfl)) ?_
  intro W base args ds gs before hval0 hW hcnd hsz0 _
  have hval : ∀ (j : Nat) t v, Try.f8.params[j]? = some t → args[j]? = some v → Value.okWide Try.prog W .any base t v := hval0
  have hsz : (DataW.weightsEach Try.prog (Try.f8.params.toList ++ Rows.tokenCountsSpec.plain.varTypes Try.prog) (ds ++ gs)).all (· ≤ reachBytes) = true := hsz0
  have hW' := hW
  obtain ⟨p, q, hA0, hV, rfl, hfz, hnd⟩ := hW
  have hA : DataW.TrodAll enc Try.prog W 0 (fun _ => true) true Try.f8.params.toList args.toList ds p := hA0
  rw [Try.params8] at hA hval hsz
  obtain ⟨v0, vs0, d0, ds0, p0, q0, hargs, rfl, rfl, h0, r0⟩ := trodAll_cons hA
  obtain ⟨v1, vs1, d1, ds1, p1, q1, rfl, rfl, rfl, h1, r1⟩ := trodAll_cons r0
  obtain ⟨v2, vs2, d2, ds2, p2, q2, rfl, rfl, rfl, h2, r2⟩ := trodAll_cons r1
  obtain ⟨rfl, rfl, rfl⟩ := trodAll_nil r2
  obtain rfl : args = #[v0, v1, v2] := by cases args; simp_all
  obtain ⟨rfl, rfl⟩ := trodVars_none hV

  obtain ⟨a0, rfl, rfl, rfl, w0⟩ := open_string Try.underlying9 (hval 0 9 v0 rfl rfl) h0
  obtain ⟨b1, rfl, rfl, rfl, w1⟩ := open_int Try.underlying5 (hval 1 5 v1 rfl rfl) h1
  obtain ⟨a1, rfl⟩ := u8_of w1
  obtain ⟨b2, rfl, rfl, rfl, w2⟩ := open_int Try.underlying5 (hval 2 5 v2 rfl rfl) h2
  obtain ⟨a2, rfl⟩ := u8_of w2
  clear hA0 hval0 hsz0
  simp only [List.append_nil] at hW'
  refine (walk W a0 w0 (by have := sized_string hsz (j := 0) (t := 9) rfl rfl; simpa using this) a1 a2).mono fun e W' ⟨he, bel⟩ => ?_
  subst he
  exact ⟨_, rfl, _, _, _, [], _, [], hW', trodAll_mk1 (shut_bool Try.underlying4 _), (trodAll_cons_mk (shut_string Try.underlying9 w0) (trodAll_cons_mk (shut_int Try.underlying5 w1) (trodAll_cons_mk (shut_int Try.underlying5 w2) trodAll_mk0))), rfl, bel.frame _, fun h => by cases h⟩

theorem over : Rows.tokenCountsRow.holds Try.pinned (OpenSpec.ofChange Rows.tokenCountsSpec) :=
  OpenClaim.holds_of_wide 8 Try.f8 rfl rfl rfl rfl rfl rfl rfl ⟨rfl, rfl, rfl, rfl, rfl⟩ rfl rfl rfl rfl rfl (by kernel_rfl) Try.func8 (by kernel_rfl)
    (of_decide_eq_true (by kernel_rfl)) (by unfold Func.isWrapper; first | (rw [if_pos (by decide +kernel)]; kernel_rfl) | (rw [if_neg (by decide +kernel)]; exact ⟨rfl, rfl⟩))
    (fun os started H enc _ => lifted os started H enc)

theorem proved : Rows.TokenCountsSaid :=
  over
end Go.Proofs.Ytjhmjdacjaefaaa.tokenCounts
