/-
  CONTRACT of the document's Of (emendationref11).
-/
import Derived.Test.YtpenjdnbnacebaaDoorKdDef
import Derived.Test.YtpenjdnbnacebaaDoorPkL
import Derived.Deep.Cut
namespace Go.Proofs.YtpenjdnbnacebaaDoor.Kd
open Go.RowKit
open Go.Proofs.YtpenjdnbnacebaaDoor.Tk (S S_of S_list S_size S_toList S_app ret_int eq8 ne8 at_data len_data)
open Go.Proofs.YtpenjdnbnacebaaDoor.Bk (Tx define kindOf)
open Go.Proofs.YtpenjdnbnacebaaDoor.Ln (run mx trim run_le rrun_any rlongest_any rtrim_any)
set_option linter.unusedVariables false

theorem lnS (l : Tx) : Ln.S l = S l := rfl
/-- Kinds by their tests. -/
def kdB (t1 t2 t3 t4 t5 t6 t7 : Bool) : Nat := if t1 then 1 else if t2 then 2 else if t3 then 3 else if t4 then 4 else if t5 then 5 else if t6 then 6 else if t7 then 7 else 8
def T2 (l : Tx) : Bool := decide ((1 ≤ run 35 l ∧ run 35 l ≤ 6) ∧ (l.length = run 35 l ∨ l[run 35 l]? = some 32))
def T3 (l : Tx) : Bool := decide (3 ≤ run 45 l ∧ run 45 l = l.length)
def T4 (l : Tx) : Bool := decide (3 ≤ run 96 l ∧ mx 96 (l.drop (run 96 l)) = 0)
def T6 (l : Tx) : Bool := decide (l = [45] ∨ l.take 2 = [45, 32])
theorem kd_eq (l : Tx) : kindOf E0 l = kdB (decide (trim l = [])) (T2 l) (T3 l) (T4 l) (decide (l.head? = some 62)) (T6 l) (define E0 l).isSome := by
  unfold kindOf kdB T2 T3 T4 T6
  simp only [decide_eq_true_eq]
theorem data_get (s : ByteArray) (i : Nat) (h : i < s.size) : s.data.toList[i]? = some s[i] := by
  rw [List.getElem?_eq_getElem (by rw [len_data]; exact h), data_at s i h]
theorem ret_nat {a b : Nat} (h : a = b) : Ending.returned (.int .i64 (a : Nat)) = Ending.returned (.int .i64 (b : Nat)) := by rw [h]
def NumD (w : World) (n : Int) (e : Ending) (w' : World) : Prop := e = .returned (.int .i64 n) ∧ ∃ q, w' = w.drewN q

set_option maxHeartbeats 6400000 in
set_option maxRecDepth 100000 in
theorem of_any (s : ByteArray) (hs : s.size ≤ 140737488355328) (w : World) :
    Calls Tryd.prog 16 #[.string s] w (NumD w (kindOf E0 s.data.toList : Nat)) := by
  have HT := Lib.hid (rtrim_any s (by omega) w)
  have H35 := Lib.hid (rrun_any s (by omega) 35 w)
  have H45 := Lib.hid (rrun_any s (by omega) 45 w)
  have H96 := Lib.hid (rrun_any s (by omega) 96 w)
  have HLo := Lib.hid (fun k => rlongest_any (s.extract k s.size) (by have := ext_sz s k s.size; omega) 96 w)
  simp only [ext_end] at HLo
  have HDf := Lib.hid (define_any s hs w)
  have HK := Lib.hid (kd_eq s.data.toList)
  have l35 := run_le 35 s.data.toList
  have l45 := run_le 45 s.data.toList
  have l96 := run_le 96 s.data.toList
  rw [len_data] at l35 l45 l96
  have h2 : Hid (T2 s.data.toList = decide ((1 ≤ run 35 s.data.toList ∧ run 35 s.data.toList ≤ 6) ∧ (s.size = run 35 s.data.toList ∨ s.data.toList[run 35 s.data.toList]? = some 32))) := Lib.hid (by unfold T2; rw [len_data])
  have h3 : Hid (T3 s.data.toList = decide (3 ≤ run 45 s.data.toList ∧ run 45 s.data.toList = s.size)) := Lib.hid (by unfold T3; rw [len_data])
  have h4 : Hid (T4 s.data.toList = decide (3 ≤ run 96 s.data.toList ∧ mx 96 (s.data.toList.drop (run 96 s.data.toList)) = 0)) := Lib.hid rfl
  have h5 : Hid (∀ h : 0 < s.size, decide (s.data.toList.head? = some 62) = decide (s[0] = 62)) := Lib.hid (fun h => by rw [List.head?_eq_getElem?, data_get s 0 h]; simp)
  have h6 : Hid (T6 s.data.toList = ((s.toList == [45]) || ((S (s.data.toList.take 2)).toList == [45, 32]))) := Lib.hid (by unfold T6; rw [Lib.toList_data, S_toList, Bool.eq_iff_iff]; simp)
  have HG := Lib.hid (fun i h => data_get s i h)
  have ht1 : ((Ln.S (trim s.data.toList)).toList == ([] : List UInt8)) = decide (trim s.data.toList = []) := by rw [Ln.S_toList, Bool.eq_iff_iff]; simp
  have hpos : trim s.data.toList ≠ [] → 0 < s.size := fun h => by
    rcases Nat.eq_zero_or_pos s.size with h0 | h0
    · exact absurd (by rw [List.eq_nil_of_length_eq_zero (show s.data.toList.length = 0 by rw [len_data]; exact h0)]; rfl) h
    · exact h0
  have HS2 := Lib.hid (fun (h : 2 ≤ s.size) w' => slice_to s 2 h w')
  have hS2 : s.extract 0 2 = S (s.data.toList.take 2) := by rw [mid_S]; rfl
  rw [hS2] at HS2
  have HS3 := Lib.hid (fun k (h : k ≤ s.size) w' => slice_end s k h w')
  have HP2 : Hid (s.size ≤ 1 → ((S (s.data.toList.take 2)).toList == [45, 32]) = false) := Lib.hid (fun h => by
    rw [S_toList, beq_eq_false_iff_ne]
    intro e
    have e2 := congrArg List.length e
    rw [List.length_take, len_data] at e2
    simp at e2
    omega)
  obtain ⟨K, hK⟩ : ∃ K, kindOf E0 s.data.toList = K := ⟨_, rfl⟩
  rw [hK] at HK ⊢
  clear hK hS2
  generalize Ln.S (trim s.data.toList) = st at *
  generalize decide (s.data.toList.head? = some 62) = t5 at *
  generalize define E0 s.data.toList = D at *
  generalize T2 s.data.toList = t2 at *
  generalize T3 s.data.toList = t3 at *
  generalize T4 s.data.toList = t4 at *
  generalize T6 s.data.toList = t6 at *
  generalize run 35 s.data.toList = n35 at *
  generalize run 45 s.data.toList = n45 at *
  generalize run 96 s.data.toList = n96 at *
  have HLo := Lib.hid (HLo.out n96)
  generalize mx 96 (s.data.toList.drop n96) = m96 at *
  generalize S (s.data.toList.take 2) = s2 at *
  by_cases z1 : trim s.data.toList = []
  · rw [decide_eq_true z1] at ht1 HK
    clear hpos z1 H35 H45 H96 HLo HDf
    go_enter Tryd.func16, Tryd.ntmps16
    go_wp2_with fail
    refine HT.out.mono ?_
    rintro e w1 ⟨rfl, rfl⟩
    go_wp2_with fail
    go_ret
    exact ⟨by rw [HK.out]; rfl, 0, rfl⟩
  · have hp := hpos z1
    have h5' := Lib.hid (h5.out hp)
    rw [decide_eq_false z1] at ht1 HK
    have hpi : (0 : Int) < (s.size : Int) := by omega
    clear hpos z1 h5
    obtain ⟨x0, hx0⟩ : ∃ x, s[0] = x := ⟨_, rfl⟩
    rw [hx0] at h5'
    go_enter Tryd.func16, Tryd.ntmps16
    go_wp2_with fail
    refine HT.out.mono ?_
    rintro e w1 ⟨rfl, rfl⟩
    clear HT
    go_wp2_with fail
    refine H35.out.mono ?_
    rintro e w1 ⟨rfl, rfl⟩
    clear H35
    go_upto_region 4 with fail
    go_cut [29] from 7 to 72 (fun c wx => c = .bool t2 ∧ w = wx)
    case first =>
      clear H45 H96 HLo HDf HK h3 h4 h5' h6 HS2 HS3 HP2
      by_cases a1 : 1 ≤ n35
      · have g1a : decide ((n35 : Int) ≥ 1) = true := decide_eq_true (by omega)
        have g1b : decide ((1 : Int) ≤ (n35 : Int)) = true := decide_eq_true (by omega)
        have g1c : decide (1 ≤ n35) = true := decide_eq_true (by omega)
        have g1d : ((1 : Int) ≤ (n35 : Int)) := by omega
        by_cases a2 : n35 ≤ 6
        · have g2a : decide ((n35 : Int) ≤ 6) = true := decide_eq_true (by omega)
          have g2c : decide (n35 ≤ 6) = true := decide_eq_true (by omega)
          have g2d : ((n35 : Int) ≤ 6) := by omega
          by_cases a3 : s.size = n35
          · have e3 : ((s.size : Int) == (n35 : Int)) = true := by rw [a3]; simp
            have HR : Hid (t2 = true) := Lib.hid (by rw [h2.out]; exact decide_eq_true ⟨⟨a1, a2⟩, Or.inl a3⟩)
            clear a3 h2
            go_wp2_with fail
            go_meet
            exact ⟨by rw [HR.out], rfl⟩
          · have e3 : ((s.size : Int) == (n35 : Int)) = false := by rw [beq_eq_false_iff_ne]; omega
            have hn : n35 < s.size := by omega
            have hni : (n35 : Int) < (s.size : Int) := by omega
            have hg := HG.out n35 hn
            by_cases a4 : s[n35] = 32
            · have e4 : ((s[n35].toNat : Int) == 32) = true := eq8 (b := 32) a4
              have HR : Hid (t2 = true) := Lib.hid (by rw [h2.out]; exact decide_eq_true ⟨⟨a1, a2⟩, Or.inr (by rw [hg, a4])⟩)
              clear a4 a3 h2 hg
              go_wp2_with fail
              go_meet
              exact ⟨by rw [HR.out], rfl⟩
            · have e4 : ((s[n35].toNat : Int) == 32) = false := ne8 (b := 32) a4
              have HR : Hid (t2 = false) := Lib.hid (by rw [h2.out]; exact decide_eq_false (fun h => by
                rcases h.2 with h | h
                · exact a3 h
                · rw [hg] at h; exact a4 (Option.some.inj h)))
              clear a4 a3 h2 hg
              go_wp2_with fail
              go_meet
              exact ⟨by rw [HR.out], rfl⟩
        · have g2a : decide ((n35 : Int) ≤ 6) = false := decide_eq_false (by omega)
          have g2c : decide (n35 ≤ 6) = false := decide_eq_false (by omega)
          have g2d : ¬ ((n35 : Int) ≤ 6) := by omega
          have HR : Hid (t2 = false) := Lib.hid (by rw [h2.out]; exact decide_eq_false (fun h => a2 h.1.2))
          clear h2
          go_wp2_with fail
          go_meet
          exact ⟨by rw [HR.out], rfl⟩
      · have g1a : decide ((n35 : Int) ≥ 1) = false := decide_eq_false (by omega)
        have g1b : decide ((1 : Int) ≤ (n35 : Int)) = false := decide_eq_false (by omega)
        have g1c : decide (1 ≤ n35) = false := decide_eq_false (by omega)
        have g1d : ¬ ((1 : Int) ≤ (n35 : Int)) := by omega
        have HR : Hid (t2 = false) := Lib.hid (by rw [h2.out]; exact decide_eq_false (fun h => a1 h.1.1))
        clear h2
        go_wp2_with fail
        go_meet
        exact ⟨by rw [HR.out], rfl⟩
    case rest =>
      obtain ⟨rfl, rfl⟩ := hcut
      clear h2
      cases t2 with
      | true =>
        go_wp2_with fail
        go_ret
        exact ⟨by rw [HK.out]; rfl, 0, rfl⟩
      | false =>
        go_wp2_with fail
        refine H45.out.mono ?_
        rintro e w1 ⟨rfl, rfl⟩
        clear H45
        go_upto_region 7 with fail
        go_cut [39] from 7 to 72 (fun c wx => c = .bool t3 ∧ w = wx)
        case first =>
          clear H96 HLo HDf HK h4 h5' h6 HS2 HS3 HP2
          by_cases a1 : 3 ≤ n45
          · have g1a : decide ((n45 : Int) ≥ 3) = true := decide_eq_true (by omega)
            have g1b : decide ((3 : Int) ≤ (n45 : Int)) = true := decide_eq_true (by omega)
            have g1c : decide (3 ≤ n45) = true := decide_eq_true (by omega)
            have g1d : ((3 : Int) ≤ (n45 : Int)) := by omega
            by_cases a2 : n45 = s.size
            · have e2 : ((n45 : Int) == (s.size : Int)) = true := by rw [a2]; simp
              have HR : Hid (t3 = true) := Lib.hid (by rw [h3.out]; exact decide_eq_true ⟨a1, a2⟩)
              clear a2 h3
              go_wp2_with fail
              go_meet
              exact ⟨by rw [HR.out], rfl⟩
            · have e2 : ((n45 : Int) == (s.size : Int)) = false := by rw [beq_eq_false_iff_ne]; omega
              have HR : Hid (t3 = false) := Lib.hid (by rw [h3.out]; exact decide_eq_false (fun h => a2 h.2))
              clear a2 h3
              go_wp2_with fail
              go_meet
              exact ⟨by rw [HR.out], rfl⟩
          · have g1a : decide ((n45 : Int) ≥ 3) = false := decide_eq_false (by omega)
            have g1b : decide ((3 : Int) ≤ (n45 : Int)) = false := decide_eq_false (by omega)
            have g1c : decide (3 ≤ n45) = false := decide_eq_false (by omega)
            have g1d : ¬ ((3 : Int) ≤ (n45 : Int)) := by omega
            have HR : Hid (t3 = false) := Lib.hid (by rw [h3.out]; exact decide_eq_false (fun h => a1 h.1))
            clear h3
            go_wp2_with fail
            go_meet
            exact ⟨by rw [HR.out], rfl⟩
        case rest =>
          obtain ⟨rfl, rfl⟩ := hcut
          clear h3
          cases t3 with
          | true =>
            go_wp2_with fail
            go_ret
            exact ⟨by rw [HK.out]; rfl, 0, rfl⟩
          | false =>
            go_wp2_with fail
            refine H96.out.mono ?_
            rintro e w1 ⟨rfl, rfl⟩
            clear H96
            go_upto_region 10 with fail
            go_cut [50] from 7 to 72 (fun c wx => c = .bool t4 ∧ w = wx)
            case first =>
              clear HDf HK h5' h6 HS2 HP2
              by_cases a1 : 3 ≤ n96
              · have g1a : decide ((n96 : Int) ≥ 3) = true := decide_eq_true (by omega)
                have g1b : decide ((3 : Int) ≤ (n96 : Int)) = true := decide_eq_true (by omega)
                have g1c : decide (3 ≤ n96) = true := decide_eq_true (by omega)
                have g1d : ((3 : Int) ≤ (n96 : Int)) := by omega
                have hsl := HS3.out n96 l96
                clear HS3
                generalize s.extract n96 s.size = sx at *
                by_cases a2 : m96 = 0
                · have e2 : ((m96 : Int) == 0) = true := by rw [a2]; rfl
                  have HR : Hid (t4 = true) := Lib.hid (by rw [h4.out]; exact decide_eq_true ⟨a1, a2⟩)
                  clear a2 h4
                  go_wp2_with fail
                  refine HLo.out.mono ?_
                  rintro e w1 ⟨rfl, rfl⟩
                  go_wp2_with fail
                  go_meet
                  exact ⟨by rw [HR.out], rfl⟩
                · have e2 : ((m96 : Int) == 0) = false := by rw [beq_eq_false_iff_ne]; omega
                  have HR : Hid (t4 = false) := Lib.hid (by rw [h4.out]; exact decide_eq_false (fun h => a2 h.2))
                  clear a2 h4
                  go_wp2_with fail
                  refine HLo.out.mono ?_
                  rintro e w1 ⟨rfl, rfl⟩
                  go_wp2_with fail
                  go_meet
                  exact ⟨by rw [HR.out], rfl⟩
              · have g1a : decide ((n96 : Int) ≥ 3) = false := decide_eq_false (by omega)
                have g1b : decide ((3 : Int) ≤ (n96 : Int)) = false := decide_eq_false (by omega)
                have g1c : decide (3 ≤ n96) = false := decide_eq_false (by omega)
                have g1d : ¬ ((3 : Int) ≤ (n96 : Int)) := by omega
                have HR : Hid (t4 = false) := Lib.hid (by rw [h4.out]; exact decide_eq_false (fun h => a1 h.1))
                clear h4 HS3 HLo
                go_wp2_with fail
                go_meet
                exact ⟨by rw [HR.out], rfl⟩
            case rest =>
              obtain ⟨rfl, rfl⟩ := hcut
              clear h4 HLo HS3
              cases t4 with
              | true =>
                go_wp2_with fail
                go_ret
                exact ⟨by rw [HK.out]; rfl, 0, rfl⟩
              | false =>
                by_cases x62 : x0 = 62
                · have e5 : ((x0.toNat : Int) == 62) = true := eq8 (b := 62) x62
                  have HR : Hid (K = 5) := Lib.hid (by rw [HK.out, h5'.out, decide_eq_true x62]; rfl)
                  clear x62 h5' HDf HS2 HP2
                  go_wp2_with fail
                  go_ret
                  exact ⟨by rw [HR.out]; rfl, 0, rfl⟩
                · have e5 : ((x0.toNat : Int) == 62) = false := ne8 (b := 62) x62
                  rw [h5'.out, decide_eq_false x62] at HK
                  clear x62 h5'
                  go_upto_region 14 with fail
                  go_cut [65] from 7 to 72 (fun c wx => c = .bool t6 ∧ w = wx)
                  case first =>
                    clear HDf HK
                    obtain ⟨q1, hq1⟩ : ∃ b, (s.toList == [45]) = b := ⟨_, rfl⟩
                    obtain ⟨q2, hq2⟩ : ∃ b, (s2.toList == [45, 32]) = b := ⟨_, rfl⟩
                    rw [hq1, hq2] at h6
                    rw [hq2] at HP2
                    cases q1 with
                    | true =>
                      go_wp2_with fail
                      go_meet
                      exact ⟨by rw [h6.out]; rfl, rfl⟩
                    | false =>
                      by_cases a1 : 1 < s.size
                      · have g1a : decide ((s.size : Int) > 1) = true := decide_eq_true (by omega)
                        have g1b : decide ((1 : Int) < (s.size : Int)) = true := decide_eq_true (by omega)
                        have g1c : decide (1 < s.size) = true := decide_eq_true (by omega)
                        have g1d : ((1 : Int) < (s.size : Int)) := by omega
                        have hsl := HS2.out (by omega)
                        have h2' : ((2 : Nat) : Int) = 2 := rfl
                        rw [h2'] at hsl
                        go_wp2_with fail
                        go_meet
                        exact ⟨by rw [h6.out]; rfl, rfl⟩
                      · have g1a : decide ((s.size : Int) > 1) = false := decide_eq_false (by omega)
                        have g1b : decide ((1 : Int) < (s.size : Int)) = false := decide_eq_false (by omega)
                        have g1c : decide (1 < s.size) = false := decide_eq_false (by omega)
                        have g1d : ¬ ((1 : Int) < (s.size : Int)) := by omega
                        have HR : Hid (t6 = false) := Lib.hid (by rw [h6.out, HP2.out (by omega)]; rfl)
                        go_wp2_with fail
                        go_meet
                        exact ⟨by rw [HR.out], rfl⟩
                  case rest =>
                    obtain ⟨rfl, rfl⟩ := hcut
                    clear h6 HS2 HP2
                    cases t6 with
                    | true =>
                      go_wp2_with fail
                      go_ret
                      exact ⟨by rw [HK.out]; rfl, 0, rfl⟩
                    | false =>
                      go_wp2_with fail
                      refine HDf.out.mono ?_
                      rintro e w1 ⟨rfl, nq, hnq⟩
                      have HW := Lib.hid hnq
                      clear HDf hnq
                      have HR : Hid (K = if D.isSome then 7 else 8) := Lib.hid (by rw [HK.out]; rfl)
                      unfold dfV
                      generalize S (D.getD ([], [])).1 = sa at *
                      generalize S (D.getD ([], [])).2 = sb at *
                      clear HK
                      generalize D.isSome = dk at *
                      cases dk with
                      | true =>
                        go_wp2_with fail
                        go_ret
                        exact ⟨by rw [HR.out]; rfl, nq, HW.out⟩
                      | false =>
                        go_wp2_with fail
                        go_ret
                        exact ⟨by rw [HR.out]; rfl, nq, HW.out⟩

end Go.Proofs.YtpenjdnbnacebaaDoor.Kd
