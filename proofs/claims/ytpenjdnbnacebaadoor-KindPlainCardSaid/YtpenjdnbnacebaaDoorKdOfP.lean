/-
  CONTRACTS of the program's endsOrSpace, isHeading, isRule, isFence, isQuote, isItem, isDef and Of (kind).
-/
import Derived.Test.YtpenjdnbnacebaaDoorKdLineP
namespace Go.Proofs.YtpenjdnbnacebaaDoor.Kd
open Go.RowKit
open Go.Proofs.YtpenjdnbnacebaaDoor.Tk (S S_of S_list S_size S_toList S_app ret_int eq8 ne8 at_data len_data)
open Go.Proofs.YtpenjdnbnacebaaDoor.Sp (hsB dsB ctB ret_bool OkAns destP_any ckB_S)
open Go.Proofs.YtpenjdnbnacebaaDoor.Bt (labB labelP_any)
open Go.Proofs.YtpenjdnbnacebaaDoor.Bk (Tx define kindOf)
open Go.Proofs.YtpenjdnbnacebaaDoor.Ln (run mx trim run_le run_any)
set_option linter.unusedVariables false

theorem endsOr_any (s : ByteArray) (w : World) :
    Calls Tryd.prog 50 #[.string s] w fun e w' => e = .returned (.bool (esB s.data.toList)) ∧ w' = w := by
  have HX : Hid (esB s.data.toList = (s.data.toList.isEmpty || decide (s.data.toList.head? = some 32))) := Lib.hid rfl
  have HEm : Hid ((s.toList == ([] : List UInt8)) = s.data.toList.isEmpty) := Lib.hid (by rw [Lib.toList_data]; cases s.data.toList <;> rfl)
  generalize esB s.data.toList = X at *
  rcases Nat.eq_zero_or_pos s.size with h0 | h0
  · have hn : s.data.toList = [] := List.eq_nil_of_length_eq_zero (by rw [len_data]; exact h0)
    have em := HEm.out
    have HR : Hid (X = true) := Lib.hid (by rw [HX.out, hn]; rfl)
    rw [hn] at em
    have em' : (s.toList == ([] : List UInt8)) = true := em
    clear HX HEm hn em h0
    go_enter Tryd.func50, Tryd.ntmps50
    go_wp2_with fail
    go_ret
    exact ⟨ret_bool HR.out.symm, rfl⟩
  · have hh : s.data.toList.head? = some s[0] := by rw [List.head?_eq_getElem?, data_get s 0 h0]
    have hne : s.data.toList.isEmpty = false := by
      cases hd : s.data.toList with
      | nil => rw [hd] at hh; simp at hh
      | cons b r => rfl
    have em := HEm.out
    rw [hne] at em
    have HR : Hid (X = decide (s[0] = 32)) := Lib.hid (by rw [HX.out, hne, hh]; simp)
    have hi : (0 : Int) < (s.size : Int) := by omega
    clear HX HEm hh hne
    obtain ⟨x, hx⟩ : ∃ x, s[0] = x := ⟨_, rfl⟩
    rw [hx] at HR
    have e1 : ((x.toNat : Int) == 32) = decide (x = 32) := by
      by_cases h : x = 32
      · rw [decide_eq_true h]; exact eq8 (b := 32) h
      · rw [decide_eq_false h]; exact ne8 (b := 32) h
    generalize decide (x = 32) = y at *
    go_enter Tryd.func50, Tryd.ntmps50
    go_wp2_with fail
    go_ret
    exact ⟨ret_bool HR.out.symm, rfl⟩

theorem isHeading_any (s : ByteArray) (hs : s.size ≤ 140737488355328) (w : World) :
    Calls Tryd.prog 32 #[.string s] w fun e w' => e = .returned (.bool (T2 s.data.toList)) ∧ w' = w := by
  have HR0 := Lib.hid (run_any s (by omega) 35 w)
  have HX := Lib.hid (es_T2 s.data.toList)
  have hl := run_le 35 s.data.toList
  rw [len_data] at hl
  have HE := Lib.hid (endsOr_any (S (s.data.toList.drop (run 35 s.data.toList))) w)
  rw [S_list] at HE
  have HS := Lib.hid (fun w' => slice_end s (run 35 s.data.toList) hl w')
  rw [end_S] at HS
  have s1 := HS.out
  clear HS
  generalize T2 s.data.toList = X at *
  generalize esB (s.data.toList.drop (run 35 s.data.toList)) = y at *
  generalize S (s.data.toList.drop (run 35 s.data.toList)) = sr at *
  generalize run 35 s.data.toList = n at *
  by_cases a1 : 1 ≤ n
  · have g1 : decide ((n : Int) ≥ 1) = true := decide_eq_true (by omega)
    have g1b : decide ((1 : Int) ≤ (n : Int)) = true := decide_eq_true (by omega)
    have g1c : decide (1 ≤ n) = true := decide_eq_true a1
    by_cases a2 : n ≤ 6
    · have g2 : decide ((n : Int) ≤ 6) = true := decide_eq_true (by omega)
      have g2c : decide (n ≤ 6) = true := decide_eq_true a2
      have HR : Hid (X = y) := Lib.hid (by rw [HX.out, g1c, g2c]; rfl)
      clear HX a1 a2 hl
      go_enter Tryd.func32, Tryd.ntmps32
      go_wp2_with fail
      refine HR0.out.mono ?_
      rintro e w2 ⟨rfl, rfl⟩
      go_wp2_with fail
      refine HE.out.mono ?_
      rintro e w2 ⟨rfl, rfl⟩
      go_wp2_with fail
      go_ret
      exact ⟨ret_bool HR.out.symm, rfl⟩
    · have g2 : decide ((n : Int) ≤ 6) = false := decide_eq_false (by omega)
      have g2c : decide (n ≤ 6) = false := decide_eq_false a2
      have HR : Hid (X = false) := Lib.hid (by rw [HX.out, g2c]; simp)
      clear HX a1 a2 hl HE
      go_enter Tryd.func32, Tryd.ntmps32
      go_wp2_with fail
      refine HR0.out.mono ?_
      rintro e w2 ⟨rfl, rfl⟩
      go_wp2_with fail
      go_ret
      exact ⟨ret_bool HR.out.symm, rfl⟩
  · have g1 : decide ((n : Int) ≥ 1) = false := decide_eq_false (by omega)
    have g1b : decide ((1 : Int) ≤ (n : Int)) = false := decide_eq_false (by omega)
    have g1c : decide (1 ≤ n) = false := decide_eq_false a1
    have HR : Hid (X = false) := Lib.hid (by rw [HX.out, g1c]; simp)
    clear HX a1 hl HE
    go_enter Tryd.func32, Tryd.ntmps32
    go_wp2_with fail
    refine HR0.out.mono ?_
    rintro e w2 ⟨rfl, rfl⟩
    go_wp2_with fail
    go_ret
    exact ⟨ret_bool HR.out.symm, rfl⟩

theorem isRule_any (s : ByteArray) (hs : s.size ≤ 140737488355328) (w : World) :
    Calls Tryd.prog 33 #[.string s] w fun e w' => e = .returned (.bool (T3 s.data.toList)) ∧ w' = w := by
  have HR0 := Lib.hid (run_any s (by omega) 45 w)
  have HX := Lib.hid (es_T3 s.data.toList)
  rw [len_data] at HX
  generalize T3 s.data.toList = X at *
  generalize run 45 s.data.toList = n at *
  by_cases a1 : 3 ≤ s.size
  · have g1 : decide ((s.size : Int) ≥ 3) = true := decide_eq_true (by omega)
    have g1b : decide ((3 : Int) ≤ (s.size : Int)) = true := decide_eq_true (by omega)
    have g1c : decide (3 ≤ s.size) = true := decide_eq_true a1
    have HR : Hid (X = decide (n = s.size)) := Lib.hid (by rw [HX.out, g1c, Bool.true_and])
    have e1 : ((n : Int) == (s.size : Int)) = decide (n = s.size) := by
      rw [Bool.eq_iff_iff, beq_iff_eq, decide_eq_true_iff]; omega
    clear HX a1
    generalize decide (n = s.size) = y at *
    go_enter Tryd.func33, Tryd.ntmps33
    go_wp2_with fail
    refine HR0.out.mono ?_
    rintro e w2 ⟨rfl, rfl⟩
    go_wp2_with fail
    go_ret
    exact ⟨ret_bool HR.out.symm, rfl⟩
  · have g1 : decide ((s.size : Int) ≥ 3) = false := decide_eq_false (by omega)
    have g1b : decide ((3 : Int) ≤ (s.size : Int)) = false := decide_eq_false (by omega)
    have g1c : decide (3 ≤ s.size) = false := decide_eq_false a1
    have HR : Hid (X = false) := Lib.hid (by rw [HX.out, g1c]; simp)
    clear HX a1 HR0
    go_enter Tryd.func33, Tryd.ntmps33
    go_wp2_with fail
    go_ret
    exact ⟨ret_bool HR.out.symm, rfl⟩

theorem isFence_any (s : ByteArray) (hs : s.size ≤ 140737488355328) (w : World) :
    Calls Tryd.prog 34 #[.string s] w fun e w' => e = .returned (.bool (T4 s.data.toList)) ∧ w' = w := by
  have HR0 := Lib.hid (run_any s (by omega) 96 w)
  have HX := Lib.hid (es_T4 s.data.toList)
  have hl := run_le 96 s.data.toList
  rw [len_data] at hl
  have HI := Lib.hid (Tryd.strings_IndexByte (S (s.data.toList.drop (run 96 s.data.toList))) 96 w)
  have h96 : (96 : Int).toNat.toUInt8 = 96 := rfl
  rw [S_list, h96] at HI
  have HS := Lib.hid (fun w' => slice_end s (run 96 s.data.toList) hl w')
  rw [end_S] at HS
  have s1 := HS.out
  clear HS h96
  generalize T4 s.data.toList = X at *
  generalize Lib.indexByte (s.data.toList.drop (run 96 s.data.toList)) 96 = ix at *
  generalize S (s.data.toList.drop (run 96 s.data.toList)) = sr at *
  generalize run 96 s.data.toList = n at *
  by_cases a1 : 3 ≤ n
  · have g1 : decide ((n : Int) ≥ 3) = true := decide_eq_true (by omega)
    have g1b : decide ((3 : Int) ≤ (n : Int)) = true := decide_eq_true (by omega)
    have g1c : decide (3 ≤ n) = true := decide_eq_true a1
    have HR : Hid (X = decide (ix < 0)) := Lib.hid (by rw [HX.out, g1c, Bool.true_and])
    clear HX a1 hl
    go_enter Tryd.func34, Tryd.ntmps34
    go_wp2_with fail
    refine HR0.out.mono ?_
    rintro e w2 ⟨rfl, rfl⟩
    go_wp2_with fail
    refine HI.out.mono ?_
    rintro e w2 ⟨rfl, rfl⟩
    go_wp2_with fail
    go_ret
    exact ⟨ret_bool HR.out.symm, rfl⟩
  · have g1 : decide ((n : Int) ≥ 3) = false := decide_eq_false (by omega)
    have g1b : decide ((3 : Int) ≤ (n : Int)) = false := decide_eq_false (by omega)
    have g1c : decide (3 ≤ n) = false := decide_eq_false a1
    have HR : Hid (X = false) := Lib.hid (by rw [HX.out, g1c]; simp)
    clear HX a1 hl HI
    go_enter Tryd.func34, Tryd.ntmps34
    go_wp2_with fail
    refine HR0.out.mono ?_
    rintro e w2 ⟨rfl, rfl⟩
    go_wp2_with fail
    go_ret
    exact ⟨ret_bool HR.out.symm, rfl⟩

theorem isQuote_any (s : ByteArray) (w : World) :
    Calls Tryd.prog 35 #[.string s] w fun e w' => e = .returned (.bool (decide (s.data.toList.head? = some 62))) ∧ w' = w := by
  have HP := Lib.hid (Tryd.strings_HasPrefix s ⟨#[62]⟩ w)
  have l1 : (⟨#[62]⟩ : ByteArray).data.toList = [62] := rfl
  rw [l1, pre_one] at HP
  clear l1
  generalize decide (s.data.toList.head? = some 62) = y at *
  go_enter Tryd.func35, Tryd.ntmps35
  go_wp2_with fail
  refine HP.out.mono ?_
  rintro e w2 ⟨rfl, rfl⟩
  go_wp2_with fail
  go_ret
  exact ⟨rfl, rfl⟩

theorem isItem_any (s : ByteArray) (w : World) :
    Calls Tryd.prog 36 #[.string s] w fun e w' => e = .returned (.bool (T6 s.data.toList)) ∧ w' = w := by
  have H1 := Lib.hid (cutPre_any s ⟨#[45]⟩ w)
  have l1 : (⟨#[45]⟩ : ByteArray).data.toList = [45] := rfl
  rw [l1, trim_pre1] at H1
  have HE := Lib.hid (endsOr_any (S (s.data.toList.drop 1)) w)
  rw [S_list] at HE
  have HX := Lib.hid (es_T6 s.data.toList)
  clear l1
  generalize T6 s.data.toList = X at *
  generalize esB (s.data.toList.drop 1) = y at *
  obtain ⟨y1, hy1⟩ : ∃ y, Lib.hasPrefix s.data.toList [45] = y := ⟨_, rfl⟩
  rw [hy1] at H1 HX
  clear hy1
  cases y1 with
  | false =>
    have HR : Hid (X = false) := HX
    clear HX HE
    go_enter Tryd.func36, Tryd.ntmps36
    go_wp2_with fail
    refine H1.out.mono ?_
    rintro e w2 ⟨rfl, rfl⟩
    go_wp2_with fail
    go_ret
    exact ⟨ret_bool HR.out.symm, rfl⟩
  | true =>
    have HR : Hid (X = y) := Lib.hid (by rw [HX.out, Bool.true_and])
    rw [if_pos rfl] at H1
    clear HX
    generalize S (List.drop 1 s.data.toList) = s1 at *
    go_enter Tryd.func36, Tryd.ntmps36
    go_wp2_with fail
    refine H1.out.mono ?_
    rintro e w2 ⟨rfl, rfl⟩
    go_wp2_with fail
    refine HE.out.mono ?_
    rintro e w2 ⟨rfl, rfl⟩
    go_wp2_with fail
    go_ret
    exact ⟨ret_bool HR.out.symm, rfl⟩

/-! Definitions. -/
theorem hal_len (l : Tx) : (halB l).1.length ≤ l.length ∧ (halB l).2.length ≤ l.length := by
  unfold halB cuB
  split
  · split
    · split
      · simp only [List.length_take, List.length_drop]; omega
      · simp only [List.length_nil]; omega
    · exact ⟨Nat.zero_le _, Nat.zero_le _⟩
  · exact ⟨Nat.zero_le _, Nat.zero_le _⟩
theorem isDef_any (s : ByteArray) (hs : s.size ≤ 1000000) (w : World) :
    Calls Tryd.prog 37 #[.string s] w (OkAns w (define E0 s.data.toList).isSome) := by
  have HH := Lib.hid (halves_any s (by omega) w)
  have hl := hal_len s.data.toList
  rw [len_data] at hl
  have HL := Lib.hid (fun w' => labelP_any (S (halB s.data.toList).1) (by rw [S_size]; omega) w')
  have HD := Lib.hid (fun w' => destP_any (S (halB s.data.toList).2) (by rw [S_size]; omega) w')
  have hdt : (ctB (S (halB s.data.toList).2) && dsB (halB s.data.toList).2) = dsB (halB s.data.toList).2 := by
    cases h : dsB (halB s.data.toList).2 with
    | false => rw [Bool.and_false]
    | true => rw [← ckB_S, Go.Proofs.YtpenjdnbnacebaaDoor.Sp.dest_text h (by omega)]; rfl
  simp only [S_list, hdt] at HL HD
  have HX := Lib.hid (define_some s.data.toList)
  clear hdt hl
  generalize (define E0 s.data.toList).isSome = X at *
  generalize halB s.data.toList = P at *
  obtain ⟨p1, p2⟩ := P
  simp only at HL HD HX
  unfold HalAns at HH
  generalize labB p1 = y1 at *
  generalize dsB p2 = y2 at *
  generalize hs1 : S p1 = s1 at *
  generalize hs2 : S p2 = s2 at *
  clear hs1 hs2
  go_enter Tryd.func37, Tryd.ntmps37
  go_wp2_with fail
  refine HH.out.mono ?_
  rintro e w2 ⟨rfl, q, hq⟩
  have HB2 := Lib.hid (show Below w.heap.size w w2 from by rw [hq]; exact below_drewN (Below.refl _ _) q)
  clear hq HH
  go_wp2_with fail
  refine (HL.out _).mono ?_
  rintro e w3 ⟨rfl, b3⟩
  have HB3 := Lib.hid (HB2.out.trans (b3.mono HB2.out.size))
  clear HL b3 HB2
  cases y1 with
  | false =>
    have HR : Hid (X = false) := HX
    clear HX HD
    go_wp2_with fail
    go_ret
    exact ⟨ret_bool HR.out.symm, HB3.out⟩
  | true =>
    have HR : Hid (X = y2) := Lib.hid (by rw [HX.out, Bool.true_and])
    clear HX
    go_wp2_with fail
    refine (HD.out _).mono ?_
    rintro e w4 ⟨rfl, b4⟩
    have HB4 := Lib.hid (HB3.out.trans (b4.mono HB3.out.size))
    clear HD b4
    go_wp2_with fail
    go_ret
    exact ⟨ret_bool HR.out.symm, HB4.out⟩

/-! The kind. -/
theorem ofP_any (s : ByteArray) (hs : s.size ≤ 1000000) (w : World) :
    Calls Tryd.prog 15 #[.string s] w (NumK w (kindOf E0 s.data.toList)) := by
  have h1 := Lib.hid (blankP_any s (by omega) w)
  have h2 := Lib.hid (fun w' => isHeading_any s (by omega) w')
  have h3 := Lib.hid (fun w' => isRule_any s (by omega) w')
  have h4 := Lib.hid (fun w' => isFence_any s (by omega) w')
  have h5 := Lib.hid (fun w' => isQuote_any s w')
  have h6 := Lib.hid (fun w' => isItem_any s w')
  have h7 := Lib.hid (fun w' => isDef_any s hs w')
  have HK := Lib.hid (kd_eq s.data.toList)
  generalize kindOf E0 s.data.toList = K at *
  generalize decide (trim s.data.toList = []) = t1 at *
  generalize T2 s.data.toList = t2 at *
  generalize T3 s.data.toList = t3 at *
  generalize T4 s.data.toList = t4 at *
  generalize decide (s.data.toList.head? = some 62) = t5 at *
  generalize T6 s.data.toList = t6 at *
  generalize (define E0 s.data.toList).isSome = t7 at *
  go_enter Tryd.func15, Tryd.ntmps15
  go_wp2_with fail
  refine h1.out.mono ?_
  rintro e w2 ⟨rfl, b2⟩
  have HB := Lib.hid b2
  clear b2 h1
  cases t1 with
  | true =>
    go_wp2_with fail
    go_ret
    exact ⟨by rw [HK.out]; rfl, HB.out⟩
  | false =>
  go_wp2_with fail
  refine (h2.out _).mono ?_
  rintro e w3 ⟨rfl, rfl⟩
  clear h2
  cases t2 with
  | true =>
    go_wp2_with fail
    go_ret
    exact ⟨by rw [HK.out]; rfl, HB.out⟩
  | false =>
  go_wp2_with fail
  refine (h3.out _).mono ?_
  rintro e w3 ⟨rfl, rfl⟩
  clear h3
  cases t3 with
  | true =>
    go_wp2_with fail
    go_ret
    exact ⟨by rw [HK.out]; rfl, HB.out⟩
  | false =>
  go_wp2_with fail
  refine (h4.out _).mono ?_
  rintro e w3 ⟨rfl, rfl⟩
  clear h4
  cases t4 with
  | true =>
    go_wp2_with fail
    go_ret
    exact ⟨by rw [HK.out]; rfl, HB.out⟩
  | false =>
  go_wp2_with fail
  refine (h5.out _).mono ?_
  rintro e w3 ⟨rfl, rfl⟩
  clear h5
  cases t5 with
  | true =>
    go_wp2_with fail
    go_ret
    exact ⟨by rw [HK.out]; rfl, HB.out⟩
  | false =>
  go_wp2_with fail
  refine (h6.out _).mono ?_
  rintro e w3 ⟨rfl, rfl⟩
  clear h6
  cases t6 with
  | true =>
    go_wp2_with fail
    go_ret
    exact ⟨by rw [HK.out]; rfl, HB.out⟩
  | false =>
  go_wp2_with fail
  refine (h7.out _).mono ?_
  rintro e w4 ⟨rfl, b4⟩
  have HB4 := Lib.hid (HB.out.trans (b4.mono HB.out.size))
  clear b4 h7
  cases t7 with
  | true =>
    go_wp2_with fail
    go_ret
    exact ⟨by rw [HK.out]; rfl, HB4.out⟩
  | false =>
    go_wp2_with fail
    go_ret
    exact ⟨by rw [HK.out]; rfl, HB4.out⟩

end Go.Proofs.YtpenjdnbnacebaaDoor.Kd
