/-
  CONTRACTS of the document's has, gap, tight, line, Label and Info (emendationref10).
-/
import Derived.Test.YtpenjdnbnacebaaDoorPkB
import Derived.Test.YtpenjdnbnacebaaDoorPkC
namespace Go.Proofs.YtpenjdnbnacebaaDoor.Bt
open Go.RowKit
open Go.Proofs.YtpenjdnbnacebaaDoor.Tk (S S_of S_list S_size S_toList S_app ret_int eq8 ne8 at_data len_data)
open Go.Proofs.YtpenjdnbnacebaaDoor.Sp (hsB spB ret_bool)
open Go.Proofs.YtpenjdnbnacebaaDoor.Utf (chk)
set_option linter.unusedVariables false

def ckB (s : List UInt8) : Bool := decide (chk (S s) = 0)
def lineB (s : List UInt8) : Bool := ckB s && !hsB 10 s && !hsB 13 s
def tgB (s : List UInt8) : Bool := s.isEmpty || (!spB (s.headD 0) && !spB (s.getLastD 0))
def labB (s : List UInt8) : Bool := !s.isEmpty && lineB s && tgB s && !hsB 91 s && !hsB 93 s && !hsB 92 s
def infB (s : List UInt8) : Bool := lineB s && tgB s && !hsB 96 s

theorem drop_all (s : ByteArray) (k : Nat) (h : ¬ k < s.size) : s.data.toList.drop k = [] := List.drop_eq_nil_of_le (by simp; omega)
theorem has_any (s : ByteArray) (c : UInt8) (hs : s.size ≤ 140737488355328) (w : World) :
    Calls Tryd.prog 70 #[.string s, .int .u8 c.toNat] w fun e w' => e = .returned (.bool (hsB c s.data.toList)) ∧ w = w' := by
  have H0 : Hid (hsB c s.data.toList = hsB c (s.data.toList.drop 0)) := Lib.hid (by rw [List.drop_zero])
  obtain ⟨X, hX⟩ : ∃ X, hsB c s.data.toList = X := ⟨_, rfl⟩
  rw [hX] at H0
  rw [hX]
  clear hX
  go_enter Tryd.func70, Tryd.ntmps70
  go_wp2_with fail
  go_loop [5] (fun i => ∃ k : Nat, k ≤ s.size ∧ i = .int .i64 k ∧ Hid (X = hsB c (s.data.toList.drop k))) (fun i => s.size - (intOf i).toNat)
  case atStart => exact ⟨0, Nat.zero_le _, rfl, H0⟩
  case round =>
    clear H0
    obtain ⟨k, hk, rfl, HN⟩ := hrel
    by_cases hlt : k < s.size
    · have hnx := HN.out
      rw [at_data s k hlt] at hnx
      unfold hsB at hnx
      rw [List.any_cons] at hnx
      by_cases hc : s[k] = c
      · have e1 : ((s[k].toNat : Int) == (c.toNat : Int)) = true := eq8 hc
        have HR : Hid (X = true) := Lib.hid (by rw [hnx, decide_eq_true hc]; rfl)
        clear hnx HN hc
        go_wp2_with fail
        go_ret
        exact ⟨ret_bool HR.out.symm, rfl⟩
      · have e1 : ((s[k].toNat : Int) == (c.toNat : Int)) = false := ne8 hc
        have HR : Hid (X = hsB c (s.data.toList.drop (k + 1))) := Lib.hid (by rw [hnx, decide_eq_false hc]; rfl)
        clear hnx HN hc
        go_wp2_with fail
        go_round
        case rel => exact ⟨k + 1, by omega, by go_num, HR⟩
        case measure => simp [intOf]; omega
    · have hnx := HN.out
      rw [drop_all s k hlt] at hnx
      have HR : Hid (X = false) := Lib.hid (by rw [hnx]; rfl)
      clear hnx HN
      go_wp2_with fail
      go_ret
      exact ⟨ret_bool HR.out.symm, rfl⟩
theorem gap_any (c : UInt8) (w : World) :
    Calls Tryd.prog 87 #[.int .u8 c.toNat] w fun e w' => e = .returned (.bool (spB c)) ∧ w = w' := by
  by_cases h1 : c = 9
  · subst h1
    go_enter Tryd.func87, Tryd.ntmps87
    go_wp2_with fail
    go_ret
    exact ⟨rfl, rfl⟩
  · have e1 : ((c.toNat : Int) == 9) = false := ne8 (b := 9) h1
    by_cases h2 : c = 32
    · subst h2
      go_enter Tryd.func87, Tryd.ntmps87
      go_wp2_with fail
      go_ret
      exact ⟨rfl, rfl⟩
    · have e2 : ((c.toNat : Int) == 32) = false := ne8 (b := 32) h2
      have HR : Hid (spB c = false) := Lib.hid (by unfold spB; rw [decide_eq_false h1, decide_eq_false h2]; rfl)
      clear h1 h2
      go_enter Tryd.func87, Tryd.ntmps87
      go_wp2_with fail
      go_ret
      exact ⟨ret_bool HR.out.symm, rfl⟩
theorem head_data (s : ByteArray) (h : 0 < s.size) : s.data.toList.headD 0 = s[0] := by
  have := at_data s 0 h
  rw [List.drop_zero] at this
  rw [this]
  rfl
theorem last_data (s : ByteArray) (h : s.size - 1 < s.size) : s.data.toList.getLastD 0 = s[s.size - 1] := by
  have hl : s.data.toList.getLast? = some s[s.size - 1] := by
    rw [List.getLast?_eq_getElem?, len_data, List.getElem?_eq_getElem (by rw [len_data]; exact h)]
    rfl
  rw [List.getLastD_eq_getLast?, hl]
  rfl
theorem tight_any (s : ByteArray) (hs : s.size ≤ 140737488355328) (w : World) :
    Calls Tryd.prog 69 #[.string s] w fun e w' => e = .returned (.bool (tgB s.data.toList)) ∧ w = w' := by
  have emS : (s.toList == ([] : List UInt8)) = s.data.toList.isEmpty := by rw [Lib.toList_data]; cases s.data.toList <;> rfl
  by_cases h0 : s.size = 0
  · have hn : s.data.toList = [] := List.eq_nil_of_length_eq_zero (by rw [len_data]; exact h0)
    rw [hn] at emS
    have HR : Hid (tgB s.data.toList = true) := Lib.hid (by rw [hn]; rfl)
    clear hn
    obtain ⟨X, hX⟩ : ∃ X, tgB s.data.toList = X := ⟨_, rfl⟩
    rw [hX] at HR ⊢
    clear hX
    go_enter Tryd.func69, Tryd.ntmps69
    go_wp2_with fail
    go_ret
    exact ⟨ret_bool HR.out.symm, rfl⟩
  · have hp : 0 < s.size := by omega
    have hp1 : s.size - 1 < s.size := by omega
    have hne : s.data.toList.isEmpty = false := by
      rw [List.isEmpty_eq_false_iff]
      intro e
      have := congrArg List.length e
      rw [len_data, List.length_nil] at this
      exact h0 this
    rw [hne] at emS
    have HX : Hid (tgB s.data.toList = (!spB s[0] && !spB s[s.size - 1])) := Lib.hid (by
      unfold tgB
      rw [hne, head_data s hp, last_data s hp1]
      rfl)
    obtain ⟨X, hX⟩ : ∃ X, tgB s.data.toList = X := ⟨_, rfl⟩
    rw [hX] at HX ⊢
    have HA := Lib.hid (fun w => gap_any s[0] w)
    have HB := Lib.hid (fun w => gap_any s[s.size - 1] w)
    have z1 : ((s.size : Int) - 1).toNat = s.size - 1 := by omega
    have z2 : (s.size : Int) - 1 = ((s.size - 1 : Nat) : Int) := by omega
    clear hX hne h0
    generalize spB s[0] = a at *
    generalize spB s[s.size - 1] = b at *
    go_enter Tryd.func69, Tryd.ntmps69
    go_wp2_with fail
    refine (HA.out _).mono ?_
    rintro e w1 ⟨rfl, rfl⟩
    clear HA
    cases a with
    | true =>
      go_wp2_with fail
      go_ret
      exact ⟨ret_bool (by rw [HX.out]; simp), rfl⟩
    | false =>
      go_wp2_with fail
      refine (HB.out _).mono ?_
      rintro e w2 ⟨rfl, rfl⟩
      clear HB
      go_wp2_with fail
      go_ret
      exact ⟨ret_bool (by rw [HX.out]; simp), rfl⟩

theorem line_any (s : ByteArray) (hs : s.size ≤ 140737488355328) (w : World) :
    Calls Tryd.prog 68 #[.string s] w fun e w' => e = .returned (.bool (lineB s.data.toList)) ∧ w = w' := by
  have HK := Lib.hid (fun w => Go.Proofs.YtpenjdnbnacebaaDoor.Utf.rcheck_any s hs w)
  have H10 := Lib.hid (fun w => has_any s 10 hs w)
  have H13 := Lib.hid (fun w => has_any s 13 hs w)
  have HX : Hid (lineB s.data.toList = (decide (chk s = 0) && !hsB 10 s.data.toList && !hsB 13 s.data.toList)) := Lib.hid (by unfold lineB ckB; rw [S_of])
  obtain ⟨X, hX⟩ : ∃ X, lineB s.data.toList = X := ⟨_, rfl⟩
  rw [hX] at HX ⊢
  clear hX
  generalize hsB 10 s.data.toList = a at *
  generalize hsB 13 s.data.toList = b at *
  generalize chk s = cv at *
  go_enter Tryd.func68, Tryd.ntmps68
  go_wp2_with fail
  refine (HK.out _).mono ?_
  rintro e w0 ⟨rfl, rfl⟩
  clear HK
  by_cases hc : cv = 0
  · have c1 : (cv == 0) = true := by rw [hc]; rfl
    rw [decide_eq_true hc] at HX
    clear hc
    go_wp2_with fail
    refine (H10.out _).mono ?_
    rintro e w1 ⟨rfl, rfl⟩
    clear H10
    cases a with
    | true =>
      go_wp2_with fail
      go_ret
      exact ⟨ret_bool (by rw [HX.out]; simp), rfl⟩
    | false =>
      go_wp2_with fail
      refine (H13.out _).mono ?_
      rintro e w2 ⟨rfl, rfl⟩
      clear H13
      go_wp2_with fail
      go_ret
      exact ⟨ret_bool (by rw [HX.out]; simp), rfl⟩
  · have c1 : (cv == 0) = false := beq_eq_false_iff_ne.2 hc
    rw [decide_eq_false hc] at HX
    clear hc
    go_wp2_with fail
    go_ret
    exact ⟨ret_bool (by rw [HX.out]; simp), rfl⟩
theorem label_any (s : ByteArray) (hs : s.size ≤ 140737488355328) (w : World) :
    Calls Tryd.prog 55 #[.string s] w fun e w' => e = .returned (.bool (labB s.data.toList)) ∧ w = w' := by
  have emS : (s.toList == ([] : List UInt8)) = s.data.toList.isEmpty := by rw [Lib.toList_data]; cases s.data.toList <;> rfl
  have HL := Lib.hid (fun w => line_any s hs w)
  have HT := Lib.hid (fun w => tight_any s hs w)
  have H91 := Lib.hid (fun w => has_any s 91 hs w)
  have H93 := Lib.hid (fun w => has_any s 93 hs w)
  have H92 := Lib.hid (fun w => has_any s 92 hs w)
  have HX : Hid (labB s.data.toList = (!s.data.toList.isEmpty && lineB s.data.toList && tgB s.data.toList && !hsB 91 s.data.toList && !hsB 93 s.data.toList && !hsB 92 s.data.toList)) := Lib.hid rfl
  obtain ⟨X, hX⟩ : ∃ X, labB s.data.toList = X := ⟨_, rfl⟩
  rw [hX] at HX ⊢
  clear hX
  generalize hsB 91 s.data.toList = b1 at *
  generalize hsB 93 s.data.toList = b3 at *
  generalize hsB 92 s.data.toList = b2 at *
  generalize lineB s.data.toList = bl at *
  generalize tgB s.data.toList = bt at *
  generalize s.data.toList.isEmpty = be at *
  cases be with
  | true =>
    go_enter Tryd.func55, Tryd.ntmps55
    go_wp2_with fail
    go_ret
    exact ⟨ret_bool (by rw [HX.out]; simp), rfl⟩
  | false =>
    go_enter Tryd.func55, Tryd.ntmps55
    go_wp2_with fail
    refine (HL.out _).mono ?_
    rintro e w1 ⟨rfl, rfl⟩
    clear HL
    cases bl with
    | true =>
      go_wp2_with fail
      refine (HT.out _).mono ?_
      rintro e w2 ⟨rfl, rfl⟩
      clear HT
      cases bt with
      | true =>
        go_wp2_with fail
        refine (H91.out _).mono ?_
        rintro e w3 ⟨rfl, rfl⟩
        clear H91
        cases b1 with
        | true =>
          go_wp2_with fail
          go_ret
          exact ⟨ret_bool (by rw [HX.out]; simp), rfl⟩
        | false =>
          go_wp2_with fail
          refine (H93.out _).mono ?_
          rintro e w4 ⟨rfl, rfl⟩
          clear H93
          cases b3 with
          | true =>
            go_wp2_with fail
            go_ret
            exact ⟨ret_bool (by rw [HX.out]; simp), rfl⟩
          | false =>
            go_wp2_with fail
            refine (H92.out _).mono ?_
            rintro e w5 ⟨rfl, rfl⟩
            clear H92
            go_wp2_with fail
            go_ret
            exact ⟨ret_bool (by rw [HX.out]; simp), rfl⟩
      | false =>
        go_wp2_with fail
        go_ret
        exact ⟨ret_bool (by rw [HX.out]; simp), rfl⟩
    | false =>
      go_wp2_with fail
      go_ret
      exact ⟨ret_bool (by rw [HX.out]; simp), rfl⟩
theorem info_any (s : ByteArray) (hs : s.size ≤ 140737488355328) (w : World) :
    Calls Tryd.prog 75 #[.string s] w fun e w' => e = .returned (.bool (infB s.data.toList)) ∧ w = w' := by
  have HL := Lib.hid (fun w => line_any s hs w)
  have HT := Lib.hid (fun w => tight_any s hs w)
  have H96 := Lib.hid (fun w => has_any s 96 hs w)
  have HX : Hid (infB s.data.toList = (lineB s.data.toList && tgB s.data.toList && !hsB 96 s.data.toList)) := Lib.hid rfl
  obtain ⟨X, hX⟩ : ∃ X, infB s.data.toList = X := ⟨_, rfl⟩
  rw [hX] at HX ⊢
  clear hX
  generalize hsB 96 s.data.toList = b1 at *
  generalize lineB s.data.toList = bl at *
  generalize tgB s.data.toList = bt at *
  go_enter Tryd.func75, Tryd.ntmps75
  go_wp2_with fail
  refine (HL.out _).mono ?_
  rintro e w1 ⟨rfl, rfl⟩
  clear HL
  cases bl with
  | true =>
    go_wp2_with fail
    refine (HT.out _).mono ?_
    rintro e w2 ⟨rfl, rfl⟩
    clear HT
    cases bt with
    | true =>
      go_wp2_with fail
      refine (H96.out _).mono ?_
      rintro e w3 ⟨rfl, rfl⟩
      clear H96
      go_wp2_with fail
      go_ret
      exact ⟨ret_bool (by rw [HX.out]; simp), rfl⟩
    | false =>
      go_wp2_with fail
      go_ret
      exact ⟨ret_bool (by rw [HX.out]; simp), rfl⟩
  | false =>
    go_wp2_with fail
    go_ret
    exact ⟨ret_bool (by rw [HX.out]; simp), rfl⟩

end Go.Proofs.YtpenjdnbnacebaaDoor.Bt
