/-
  CONTRACT of the document's define (emendationref11).
-/
import Derived.Test.YtpenjdnbnacebaaDoorKdPlain
import Derived.Test.YtpenjdnbnacebaaDoorBtLabel
import Derived.Test.YtpenjdnbnacebaaDoorPkB
import Derived.BigQuiet
import Derived.Deep.QuietTactic
import Derived.OwnWalk
namespace Go.Proofs.YtpenjdnbnacebaaDoor.Kd
open Go.RowKit
open Go.Proofs.YtpenjdnbnacebaaDoor.Tk (S S_of S_list S_size S_toList S_app ret_int eq8 ne8 at_data len_data)
open Go.Proofs.YtpenjdnbnacebaaDoor.Sp (dsB dest_any)
open Go.Proofs.YtpenjdnbnacebaaDoor.Bt (labB label_any)
open Go.Proofs.YtpenjdnbnacebaaDoor.Bk (Tx define)
set_option linter.unusedVariables false

theorem ext_mid (s : ByteArray) (a b : Nat) : (s.extract a b).data.toList = (s.data.toList.drop a).take (b - a) := by
  rw [ByteArray.data_extract]
  simp only [Array.toList_extract, List.extract_eq_take_drop]
theorem ext_end (s : ByteArray) (k : Nat) : (s.extract k s.size).data.toList = s.data.toList.drop k := by
  rw [ext_mid]
  exact List.take_of_length_le (by rw [List.length_drop, len_data]; exact Nat.le_refl _)
theorem ext_sz (s : ByteArray) (a b : Nat) : (s.extract a b).size ≤ s.size := by rw [ByteArray.size_extract]; omega
theorem mid_S (s : ByteArray) (a b : Nat) : s.extract a b = S ((s.data.toList.drop a).take (b - a)) := by rw [← ext_mid, S_of]
theorem end_S (s : ByteArray) (k : Nat) : s.extract k s.size = S (s.data.toList.drop k) := by rw [← ext_end, S_of]
theorem slice_mid (x : ByteArray) (m k : Nat) (h1 : m ≤ k) (h2 : k ≤ x.size) (w : World) :
    (Instr.slice 9 (.string x) (some (.int .i64 (m : Int))) (some (.int .i64 (k : Int))) none).run Tryd.prog w = .ok (.string (x.extract m k)) w := by
  have h3 : (m : Int) ≤ (k : Int) := by omega
  have h4 : (k : Int) ≤ (x.size : Int) := by omega
  have h5 : 0 ≤ (m : Int) := by omega
  go_simp
theorem slice_end (x : ByteArray) (m : Nat) (h1 : m ≤ x.size) (w : World) :
    (Instr.slice 9 (.string x) (some (.int .i64 (m : Int))) none none).run Tryd.prog w = .ok (.string (x.extract m x.size)) w := by
  have h4 : (m : Int) ≤ (x.size : Int) := by omega
  have h5 : 0 ≤ (m : Int) := by omega
  go_simp
theorem slice_to (x : ByteArray) (k : Nat) (h2 : k ≤ x.size) (w : World) :
    (Instr.slice 9 (.string x) none (some (.int .i64 (k : Int))) none).run Tryd.prog w = .ok (.string (x.extract 0 k)) w := by
  have h4 : (k : Int) ≤ (x.size : Int) := by omega
  have h5 : 0 ≤ (k : Int) := by omega
  go_simp
theorem data_at (s : ByteArray) (i : Nat) (h : i < s.size) : s.data.toList[i]'(by rw [len_data]; exact h) = s[i] := by rw [Array.getElem_toList]; rfl

/-- What is told of a definition. -/
def dfV (o : Option (Tx × Tx)) : Value := .tuple #[.string (S (o.getD ([], [])).1), .string (S (o.getD ([], [])).2), .bool o.isSome]
def DefAns (w : World) (o : Option (Tx × Tx)) (e : Ending) (w' : World) : Prop := e = .returned (dfV o) ∧ ∃ n, w' = w.drewN n
theorem dfV_none : dfV none = .tuple #[.string ⟨#[]⟩, .string ⟨#[]⟩, .bool false] := rfl
theorem ret_dfV {o p : Option (Tx × Tx)} (h : o = p) : Ending.returned (dfV o) = Ending.returned (dfV p) := by rw [h]

set_option maxHeartbeats 6400000 in
set_option maxRecDepth 100000 in
theorem define_any (s : ByteArray) (hs : s.size ≤ 140737488355328) (w : World) :
    Calls Tryd.prog 39 #[.string s] w (DefAns w (define E0 s.data.toList)) := by
  have H0 : Hid (define E0 s.data.toList = dfAt s.data.toList 1) := Lib.hid (dfAt_one _)
  have HEnd : Hid (∀ k, s.size ≤ k + 3 → dfAt s.data.toList k = none) := Lib.hid (fun k h => dfAt_end _ k (by rw [len_data]; exact h))
  have HNo : Hid (∀ k q1 q2 (h0 : 0 < s.size) (hk : k < s.size) (h1 : q1 < s.size) (h2 : q2 < s.size), 1 ≤ k → k + 3 < s.size → q1 = k + 1 → q2 = k + 2 → ¬ (s[0] = 91 ∧ s[k] = 93 ∧ s[q1] = 58 ∧ s[q2] = 32) → dfAt s.data.toList k = dfAt s.data.toList q1) := Lib.hid (fun k q1 q2 h0 hk h1 h2 k1 h e1 e2 hx => by
    subst e1; subst e2
    exact dfAt_no _ k k1 (by rw [len_data]; exact h) (by rw [data_at, data_at, data_at, data_at]; exact hx))
  have HYes : Hid (∀ k q1 q2 q3 (h0 : 0 < s.size) (hk : k < s.size) (h1 : q1 < s.size) (h2 : q2 < s.size), 1 ≤ k → k + 3 < s.size → q1 = k + 1 → q2 = k + 2 → q3 = k + 3 → s[0] = 91 → s[k] = 93 → s[q1] = 58 → s[q2] = 32 → dfAt s.data.toList k = if labB (s.extract 1 k).data.toList && dsB (s.extract q3 s.size).data.toList then some ((s.extract 1 k).data.toList, (s.extract q3 s.size).data.toList) else dfAt s.data.toList q1) := Lib.hid (fun k q1 q2 q3 h0 hk h1 h2 k1 h d1 d2 d3 e0 e1 e2 e3 => by
    subst d1; subst d2; subst d3
    rw [ext_mid, ext_end]
    exact dfAt_yes _ k k1 (by rw [len_data]; exact h) (by rw [data_at]; exact e0) (by rw [data_at]; exact e1) (by rw [data_at]; exact e2) (by rw [data_at]; exact e3))
  have HL := Lib.hid (fun k => label_any (s.extract 1 k) (Nat.le_trans (ext_sz _ _ _) hs) w)
  have HD := Lib.hid (fun k => dest_any (s.extract k s.size) (Nat.le_trans (ext_sz _ _ _) hs) w)
  have HS1 := Lib.hid (fun k (h1 : 1 ≤ k) (h : k ≤ s.size) w' => slice_mid s 1 k h1 h w')
  have HS2 := Lib.hid (fun k (h : k ≤ s.size) w' => slice_end s k h w')
  obtain ⟨X, hX⟩ : ∃ X, define E0 s.data.toList = X := ⟨_, rfl⟩
  rw [hX] at H0 ⊢
  clear hX
  go_enter Tryd.func39, Tryd.ntmps39
  go_wp2_with fail
  go_loop [5] (fun i => ∃ k : Nat, 1 ≤ k ∧ k ≤ s.size + 1 ∧ i = .int .i64 k ∧ Hid (X = dfAt s.data.toList k)) (fun i => s.size + 1 - (intOf i).toNat)
  case atStart => exact ⟨1, Nat.le_refl _, by omega, rfl, H0⟩
  case round =>
    clear H0
    obtain ⟨k, hk1, hk, rfl, HN⟩ := hrel
    obtain ⟨q1, hq1⟩ : ∃ q, q = k + 1 := ⟨_, rfl⟩
    obtain ⟨q2, hq2⟩ : ∃ q, q = k + 2 := ⟨_, rfl⟩
    obtain ⟨q3, hq3⟩ : ∃ q, q = k + 3 := ⟨_, rfl⟩
    have w1 : IntKind.i64.wrap ((k : Int) + 1) = (q1 : Int) := by rw [IntKind.wrap_i64]; omega
    have w2 : IntKind.i64.wrap ((k : Int) + 2) = (q2 : Int) := by rw [IntKind.wrap_i64]; omega
    have w3 : IntKind.i64.wrap ((k : Int) + 3) = (q3 : Int) := by rw [IntKind.wrap_i64]; omega
    have HQ : Hid (q1 = k + 1 ∧ q2 = k + 2 ∧ q3 = k + 3) := Lib.hid ⟨hq1, hq2, hq3⟩
    by_cases hlt : k + 3 < s.size
    · have g3 : (q3 : Int) < (s.size : Int) := by omega
      have g0 : 0 < s.size := by omega
      have gk : k < s.size := by omega
      have g1 : q1 < s.size := by omega
      have g2 : q2 < s.size := by omega
      have g4 : q3 ≤ s.size := by omega
      have gki : (k : Int) < (s.size : Int) := by omega
      have g1i : (q1 : Int) < (s.size : Int) := by omega
      have g2i : (q2 : Int) < (s.size : Int) := by omega
      have hno := Lib.hid (fun h => HN.out.trans (HNo.out k q1 q2 g0 gk g1 g2 hk1 hlt hq1 hq2 h))
      have hyes := Lib.hid (fun c0 c1 c2 c3 => HN.out.trans (HYes.out k q1 q2 q3 g0 gk g1 g2 hk1 hlt hq1 hq2 hq3 c0 c1 c2 c3))
      have HLk := Lib.hid (HL.out k)
      have HDk := Lib.hid (HD.out q3)
      have hs1 := HS1.out k hk1 (by omega)
      have hs2 := HS2.out q3 g4
      have hone : ((1 : Nat) : Int) = 1 := rfl
      rw [hone] at hs1
      clear HNo HYes HEnd HL HD HS1 HS2 HN hone hq1 hq2 hq3 hlt
      obtain ⟨x0, hx0⟩ : ∃ x, s[0] = x := ⟨_, rfl⟩
      obtain ⟨xk, hxk⟩ : ∃ x, s[k] = x := ⟨_, rfl⟩
      obtain ⟨x1, hx1⟩ : ∃ x, s[q1] = x := ⟨_, rfl⟩
      obtain ⟨x2, hx2⟩ : ∃ x, s[q2] = x := ⟨_, rfl⟩
      rw [hx0, hxk, hx1, hx2] at hno hyes
      obtain ⟨sa, hsa⟩ : ∃ x, s.extract 1 k = x := ⟨_, rfl⟩
      obtain ⟨sb, hsb⟩ : ∃ x, s.extract q3 s.size = x := ⟨_, rfl⟩
      rw [hsa, hsb] at hyes
      rw [hsa] at HLk hs1
      rw [hsb] at HDk hs2
      clear hsa hsb
      have HA : Hid (S sa.data.toList = sa) := Lib.hid (S_of _)
      have HB : Hid (S sb.data.toList = sb) := Lib.hid (S_of _)
      generalize sa.data.toList = la at *
      generalize sb.data.toList = lb at *
      by_cases c0 : x0 = 91
      · have e0 : ((x0.toNat : Int) == 91) = true := eq8 (b := 91) c0
        by_cases c1 : xk = 93
        · have e1 : ((xk.toNat : Int) == 93) = true := eq8 (b := 93) c1
          by_cases c2 : x1 = 58
          · have e2 : ((x1.toNat : Int) == 58) = true := eq8 (b := 58) c2
            by_cases c3 : x2 = 32
            · have e3 : ((x2.toNat : Int) == 32) = true := eq8 (b := 32) c3
              have HY := Lib.hid (hyes.out c0 c1 c2 c3)
              clear hno hyes c0 c1 c2 c3
              cases hl : labB la with
              | false =>
                rw [hl] at HLk HY
                have HR : Hid (X = dfAt s.data.toList q1) := Lib.hid (by rw [HY.out]; rfl)
                clear HY hl HDk
                go_wp2_with fail
                refine HLk.out.mono ?_
                rintro e w5 ⟨rfl, rfl⟩
                go_wp2_with fail
                go_round
                case rel => exact ⟨q1, by have := HQ.out; omega, by have := HQ.out; omega, rfl, HR⟩
                case measure => have := HQ.out; simp [intOf] <;> omega
              | true =>
                rw [hl] at HLk HY
                clear hl
                cases hd : dsB lb with
                | false =>
                  rw [hd] at HDk HY
                  have HR : Hid (X = dfAt s.data.toList q1) := Lib.hid (by rw [HY.out]; rfl)
                  clear HY hd
                  go_wp2_with fail
                  refine HLk.out.mono ?_
                  rintro e w5 ⟨rfl, rfl⟩
                  go_wp2_with fail
                  refine HDk.out.mono ?_
                  rintro e w6 ⟨rfl, rfl⟩
                  go_wp2_with fail
                  go_round
                  case rel => exact ⟨q1, by have := HQ.out; omega, by have := HQ.out; omega, rfl, HR⟩
                  case measure => have := HQ.out; simp [intOf] <;> omega
                | true =>
                  rw [hd] at HDk HY
                  have HR : Hid (X = some (la, lb)) := Lib.hid (by rw [HY.out]; rfl)
                  clear HY hd
                  go_wp2_with fail
                  refine HLk.out.mono ?_
                  rintro e w5 ⟨rfl, rfl⟩
                  go_wp2_with fail
                  refine HDk.out.mono ?_
                  rintro e w6 ⟨rfl, rfl⟩
                  go_wp2_with fail
                  go_quiet (fail)
                  go_wp2_with fail
                  go_ret3
                  exact ⟨by rw [HR.out, ← HA.out, ← HB.out]; rfl, _, rfl⟩
            · have e3 : ((x2.toNat : Int) == 32) = false := ne8 (b := 32) c3
              have HR : Hid (X = dfAt s.data.toList q1) := Lib.hid (hno.out (fun h => c3 h.2.2.2))
              clear hno hyes HLk HDk hs1 hs2 c0 c1 c2 c3
              go_wp2_with fail
              go_round
              case rel => exact ⟨q1, by have := HQ.out; omega, by have := HQ.out; omega, rfl, HR⟩
              case measure => have := HQ.out; simp [intOf] <;> omega
          · have e2 : ((x1.toNat : Int) == 58) = false := ne8 (b := 58) c2
            have HR : Hid (X = dfAt s.data.toList q1) := Lib.hid (hno.out (fun h => c2 h.2.2.1))
            clear hno hyes HLk HDk hs1 hs2 c0 c1 c2
            go_wp2_with fail
            go_round
            case rel => exact ⟨q1, by have := HQ.out; omega, by have := HQ.out; omega, rfl, HR⟩
            case measure => have := HQ.out; simp [intOf] <;> omega
        · have e1 : ((xk.toNat : Int) == 93) = false := ne8 (b := 93) c1
          have HR : Hid (X = dfAt s.data.toList q1) := Lib.hid (hno.out (fun h => c1 h.2.1))
          clear hno hyes HLk HDk hs1 hs2 c0 c1
          go_wp2_with fail
          go_round
          case rel => exact ⟨q1, by have := HQ.out; omega, by have := HQ.out; omega, rfl, HR⟩
          case measure => have := HQ.out; simp [intOf] <;> omega
      · have e0 : ((x0.toNat : Int) == 91) = false := ne8 (b := 91) c0
        have HR : Hid (X = dfAt s.data.toList q1) := Lib.hid (hno.out (fun h => c0 h.1))
        clear hno hyes HLk HDk hs1 hs2 c0
        go_wp2_with fail
        go_round
        case rel => exact ⟨q1, by have := HQ.out; omega, by have := HQ.out; omega, rfl, HR⟩
        case measure => have := HQ.out; simp [intOf] <;> omega
    · have g3 : ¬ (q3 : Int) < (s.size : Int) := by omega
      have HR : Hid (X = none) := Lib.hid (HN.out.trans (HEnd.out k (by omega)))
      clear HNo HYes HEnd HL HD HS1 HS2 HN hq1 hq2 hq3 hlt
      go_wp2_with fail
      go_ret3
      exact ⟨by rw [HR.out]; rfl, 0, rfl⟩

end Go.Proofs.YtpenjdnbnacebaaDoor.Kd
