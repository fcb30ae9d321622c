/-
  CONTRACTS of the program's endsOrSpace, isHeading, isRule, isFence, isQuote, isItem, halves, isDef and Of (kind), and of the library's Index and Cut at one byte.
-/
import Derived.Test.YtpenjdnbnacebaaDoorKdHal
import Derived.Test.YtpenjdnbnacebaaDoorKd11Told
import Derived.Test.YtpenjdnbnacebaaDoorSpChars
import Derived.Test.YtpenjdnbnacebaaDoorPkL
import Derived.BigQuiet
import Derived.Deep.QuietTactic
namespace Go.Proofs.YtpenjdnbnacebaaDoor.Kd
open Go.RowKit
open Go.Proofs.YtpenjdnbnacebaaDoor.Tk (S S_of S_list S_size S_toList S_app ret_int eq8 ne8 at_data len_data)
open Go.Proofs.YtpenjdnbnacebaaDoor.Sp (hsB dsB ctB ret_bool OkAns destP_any)
open Go.Proofs.YtpenjdnbnacebaaDoor.Bt (labB labelP_any)
open Go.Proofs.YtpenjdnbnacebaaDoor.Bk (Tx define kindOf)
open Go.Proofs.YtpenjdnbnacebaaDoor.Ln (run mx trim run_le run_any)
set_option linter.unusedVariables false

theorem lib_S (l : List UInt8) : (⟨l.toArray⟩ : ByteArray) = S l := rfl
theorem blankP_any (s : ByteArray) (hs : s.size ≤ 140737488355328) (w : World) :
    Calls Tryd.prog 31 #[.string s] w (OkAns w (decide (trim s.data.toList = []))) := by
  have h := Go.Proofs.YtpenjdnbnacebaaDoor.Ln.blank_any s (by omega) w
  have e : (trim s.data.toList).isEmpty = decide (trim s.data.toList = []) := by cases trim s.data.toList <;> simp
  rw [e] at h
  exact h
theorem trimP_any (s : ByteArray) (hs : s.size ≤ 140737488355328) (w : World) :
    Calls Tryd.prog 47 #[.string s] w (StrK w (trim s.data.toList)) := Go.Proofs.YtpenjdnbnacebaaDoor.Ln.trim_any s (by omega) w
theorem cutPre_any (s p : ByteArray) (w : World) :
    Calls Tryd.prog 30 #[.string s, .string p] w fun e w' => e = .returned (.tuple #[.string (S (Lib.trimPrefix s.data.toList p.data.toList)), .bool (Lib.hasPrefix s.data.toList p.data.toList)]) ∧ w' = w := Tryd.strings_CutPrefix s p w

theorem idx_self (c : UInt8) : Lib.indexByte [c] c = 0 := by
  unfold Lib.indexByte
  simp
theorem index1_any (s : ByteArray) (hs : s.size ≤ 140737488355328) (c : UInt8) (w : World) :
    Calls Tryd.prog 88 #[.string s, .string ⟨#[c]⟩] w fun e w' => e = .returned (.int .i64 (Lib.indexByte s.data.toList c)) ∧ w' = w := by
  have HI := Lib.hid (Tryd.stringslite_IndexByte s (c.toNat : Int) w)
  have hc : ((c.toNat : Int)).toNat.toUInt8 = c := by rw [Int.toNat_natCast]; exact UInt8.ofNat_toNat
  rw [hc] at HI
  obtain ⟨X, hX⟩ : ∃ X, Lib.indexByte s.data.toList c = X := ⟨_, rfl⟩
  have hx0 : Hid (((⟨#[c]⟩ : ByteArray).toList == s.toList) = true → X = 0) := Lib.hid (fun h => by
    have h' : (⟨#[c]⟩ : ByteArray).data.toList = s.data.toList := by
      have := eq_of_beq h
      rwa [Lib.toList_data, Lib.toList_data] at this
    rw [← hX, ← h']
    exact idx_self c)
  rw [hX] at HI ⊢
  clear hX hc
  have hl : (⟨#[c]⟩ : ByteArray).toList = [c] := by rw [Lib.toList_data]
  rw [hl] at hx0
  clear hl
  have hg : (⟨#[c]⟩ : ByteArray)[0]'(Nat.zero_lt_one) = c := rfl
  obtain ⟨y, hy⟩ : ∃ y, ([c] == s.toList) = y := ⟨_, rfl⟩
  rw [hy] at hx0
  cases y with
  | true =>
    have HR := Lib.hid (hx0.out rfl)
    clear hx0 HI
    go_enter Tryd.func88, Tryd.ntmps88
    go_wp2_with fail
    go_ret
    exact ⟨ret_int HR.out.symm, rfl⟩
  | false =>
    clear hx0
    go_enter Tryd.func88, Tryd.ntmps88
    go_wp2_with fail
    refine HI.out.mono ?_
    rintro e w2 ⟨rfl, rfl⟩
    go_wp2_with fail
    go_ret
    exact ⟨rfl, rfl⟩

/-- What Cut tells of ]. -/
def CutAns (w : World) (p : Tx × Tx × Bool) (e : Ending) (w' : World) : Prop := e = .returned (.tuple #[.string (S p.1), .string (S p.2.1), .bool p.2.2]) ∧ ∃ q, w' = w.drewN q
theorem idx_lt (t : Tx) (h : 0 ≤ Lib.indexByte t 93) : (Lib.indexByte t 93).toNat < t.length := by
  obtain ⟨h1, _⟩ := idx_split t h
  have := congrArg List.length h1
  rw [List.length_append, List.length_cons, List.length_take, List.length_drop] at this
  omega
theorem cutL_any (s : ByteArray) (hs : s.size ≤ 140737488355328) (w : World) :
    Calls Tryd.prog 72 #[.string s, .string ⟨#[93]⟩] w (CutAns w (cuB s.data.toList)) := by
  have HI := Lib.hid (index1_any s hs 93 w)
  have HX : Hid (cuB s.data.toList = if 0 ≤ Lib.indexByte s.data.toList 93 then (s.data.toList.take (Lib.indexByte s.data.toList 93).toNat, s.data.toList.drop ((Lib.indexByte s.data.toList 93).toNat + 1), true) else (s.data.toList, [], false)) := Lib.hid rfl
  have hlt := idx_lt s.data.toList
  rw [len_data] at hlt
  generalize cuB s.data.toList = X at *
  generalize Lib.indexByte s.data.toList 93 = ix at *
  by_cases hi : 0 ≤ ix
  · obtain ⟨k, rfl⟩ : ∃ k : Nat, ix = k := ⟨ix.toNat, by omega⟩
    have hk := hlt hi
    rw [Int.toNat_natCast] at hk
    rw [if_pos hi, Int.toNat_natCast] at HX
    obtain ⟨k1, hk1⟩ : ∃ q, q = k + 1 := ⟨_, rfl⟩
    rw [← hk1] at HX
    have HS1 := Lib.hid (fun w' => slice_to s k (by omega) w')
    have HS2 := Lib.hid (fun w' => slice_end s k1 (by omega) w')
    have e1 : s.extract 0 k = S (s.data.toList.take k) := by rw [mid_S]; rfl
    rw [e1] at HS1
    rw [end_S] at HS2
    have hw1 : IntKind.i64.wrap ((k : Int) + 1) = (k1 : Int) := by rw [IntKind.wrap_i64]; omega
    have hg1 : decide ((k : Int) ≥ 0) = true := decide_eq_true (by omega)
    have hg2 : decide ((0 : Int) ≤ (k : Int)) = true := decide_eq_true (by omega)
    have s1 := HS1.out
    have s2 := HS2.out
    clear hk1 hk hlt e1 HS1 HS2 hi
    generalize s.data.toList.take k = a1 at *
    generalize s.data.toList.drop k1 = a2 at *
    go_enter Tryd.func72, Tryd.ntmps72
    go_wp2_with fail
    refine HI.out.mono ?_
    rintro e w2 ⟨rfl, rfl⟩
    go_wp2_with fail
    go_quiet (fail)
    go_wp2_with fail
    go_ret3
    exact ⟨by rw [HX.out]; rfl, _, rfl⟩
  · have hg1 : decide (ix ≥ 0) = false := decide_eq_false (by omega)
    have hg2 : decide ((0 : Int) ≤ ix) = false := decide_eq_false (by omega)
    rw [if_neg hi] at HX
    have HSs : Hid (S s.data.toList = s) := Lib.hid (S_of s)
    clear hi hlt
    go_enter Tryd.func72, Tryd.ntmps72
    go_wp2_with fail
    refine HI.out.mono ?_
    rintro e w2 ⟨rfl, rfl⟩
    go_wp2_with fail
    go_ret3
    exact ⟨by rw [HX.out]; show Ending.returned (.tuple #[.string (S s.data.toList), _, _]) = _; rw [HSs.out]; rfl, 0, rfl⟩
theorem cut1_any (s : ByteArray) (hs : s.size ≤ 140737488355328) (w : World) :
    Calls Tryd.prog 58 #[.string s, .string ⟨#[93]⟩] w (CutAns w (cuB s.data.toList)) := by
  have HC := Lib.hid (cutL_any s hs w)
  unfold CutAns at HC
  go_enter Tryd.func58, Tryd.ntmps58
  go_wp2_with fail
  refine HC.out.mono ?_
  rintro e w2 ⟨rfl, q, hq⟩
  have HQ := Lib.hid hq
  clear hq
  go_wp2_with fail
  go_ret3
  exact ⟨rfl, q, HQ.out⟩

/-! Halves. -/
def HalAns (w : World) (p : Tx × Tx) (e : Ending) (w' : World) : Prop := e = .returned (.tuple #[.string (S p.1), .string (S p.2)]) ∧ ∃ q, w' = w.drewN q
theorem trim_pre1 (l : Tx) (c : UInt8) : Lib.trimPrefix l [c] = if Lib.hasPrefix l [c] then l.drop 1 else l := rfl
theorem trim_pre2 (l : Tx) (c d : UInt8) : Lib.trimPrefix l [c, d] = if Lib.hasPrefix l [c, d] then l.drop 2 else l := rfl
theorem halves_any (s : ByteArray) (hs : s.size ≤ 140737488355328) (w : World) :
    Calls Tryd.prog 44 #[.string s] w (HalAns w (halB s.data.toList)) := by
  have H1 := Lib.hid (cutPre_any s ⟨#[91]⟩ w)
  have l1 : (⟨#[91]⟩ : ByteArray).data.toList = [91] := rfl
  have l2 : (⟨#[58, 32]⟩ : ByteArray).data.toList = [58, 32] := rfl
  have H2 := Lib.hid (fun w' => cut1_any (S (s.data.toList.drop 1)) (by rw [S_size, List.length_drop, len_data]; omega) w')
  simp only [S_list] at H2
  have H3 := Lib.hid (fun w' => cutPre_any (S (cuB (s.data.toList.drop 1)).2.1) ⟨#[58, 32]⟩ w')
  simp only [S_list, trim_pre2] at H3
  rw [l1, trim_pre1] at H1
  have HX : Hid (halB s.data.toList = if Lib.hasPrefix s.data.toList [91] then (if Lib.hasPrefix (cuB (s.data.toList.drop 1)).2.1 [58, 32] then ((cuB (s.data.toList.drop 1)).1, (cuB (s.data.toList.drop 1)).2.1.drop 2) else ([], [])) else ([], [])) := Lib.hid rfl
  clear l1 l2
  generalize halB s.data.toList = X at *
  generalize cuB (s.data.toList.drop 1) = C at *
  obtain ⟨c1, c2, c3⟩ := C
  unfold CutAns at H2
  simp only at H2 H3 HX
  obtain ⟨y1, hy1⟩ : ∃ y, Lib.hasPrefix s.data.toList [91] = y := ⟨_, rfl⟩
  obtain ⟨y2, hy2⟩ : ∃ y, Lib.hasPrefix c2 [58, 32] = y := ⟨_, rfl⟩
  rw [hy1] at H1 HX
  rw [hy2] at HX
  rw [hy2] at H3
  clear hy1 hy2
  cases y1 with
  | false =>
    have HR : Hid (X = ([], [])) := HX
    clear HX H2 H3
    go_enter Tryd.func44, Tryd.ntmps44
    go_wp2_with fail
    refine H1.out.mono ?_
    rintro e w2 ⟨rfl, rfl⟩
    go_wp2_with fail
    go_ret2
    exact ⟨by rw [HR.out]; rfl, 0, rfl⟩
  | true =>
    rw [if_pos rfl] at H1 HX
    generalize S (List.drop 1 s.data.toList) = s1 at *
    go_enter Tryd.func44, Tryd.ntmps44
    go_wp2_with fail
    refine H1.out.mono ?_
    rintro e w2 ⟨rfl, rfl⟩
    clear H1
    go_wp2_with fail
    refine (H2.out _).mono ?_
    rintro e w3 ⟨rfl, q, hq⟩
    have HQ := Lib.hid hq
    clear hq H2
    go_wp2_with fail
    refine (H3.out _).mono ?_
    rintro e w4 ⟨rfl, rfl⟩
    clear H3
    cases y2 with
    | false =>
      have HR : Hid (X = ([], [])) := HX
      clear HX
      go_wp2_with fail
      go_ret2
      exact ⟨by rw [HR.out]; rfl, q, HQ.out⟩
    | true =>
      have HR : Hid (X = (c1, c2.drop 2)) := HX
      clear HX
      go_wp2_with fail
      go_ret2
      exact ⟨by rw [HR.out]; rfl, q, HQ.out⟩

end Go.Proofs.YtpenjdnbnacebaaDoor.Kd
