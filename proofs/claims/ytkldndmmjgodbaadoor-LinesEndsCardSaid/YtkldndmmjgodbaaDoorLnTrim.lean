/-
  CONTRACTS of lines.Trim, lines.Blank and of the document's Longest, gap, Trim (emendationref02).
-/
import Derived.Test.YtkldndmmjgodbaaDoorLnRuns
namespace Go.Proofs.YtkldndmmjgodbaaDoor.Ln
open Go.RowKit
set_option linter.unusedVariables false

theorem ext_drop (s : ByteArray) (k : Nat) : (s.extract k s.size).data.toList = s.data.toList.drop k := by
  rw [ByteArray.data_extract]
  simp only [Array.toList_extract, List.extract_eq_take_drop]
  exact List.take_of_length_le (by simp)
theorem ext_take (s : ByteArray) (k : Nat) : (s.extract 0 k).data.toList = s.data.toList.take k := by
  rw [ByteArray.data_extract]
  simp
theorem ext_size (s : ByteArray) (k : Nat) : (s.extract k s.size).size = s.size - k := by rw [ByteArray.size_extract]; omega

theorem rlongest_any (s : ByteArray) (hs : s.size ≤ 9223372036854775806) (c : UInt8) (w : World) :
    Calls Tryd.prog 23 #[.string s, .int .u8 c.toNat] w fun e w' => e = .returned (.int .i64 (mx c s.data.toList)) ∧ w = w' := by
  have H0 := Lib.hid (show mx c s.data.toList = max 0 (mx c (s.data.toList.drop 0)) by simp)
  go_enter Tryd.func23, Tryd.ntmps23
  go_wp2_with fail
  go_loop [5, 9] (fun n i => ∃ k a : Nat, k ≤ s.size ∧ i = .int .i64 k ∧ n = .int .i64 a ∧ mx c s.data.toList = max a (mx c (s.data.toList.drop k))) (fun _ i => s.size - (intOf i).toNat)
  case atStart => exact ⟨0, 0, Nat.zero_le _, rfl, rfl, H0.out⟩
  case round =>
    clear H0
    obtain ⟨k, a, hk, rfl, rfl, hr⟩ := hrel
    by_cases hlt : k < s.size
    · have hd := at_data s k hlt
      have hm : mx c (s.data.toList.drop k) = max (run c (s.data.toList.drop k)) (mx c (s.data.toList.drop (k + 1))) := by rw [hd]; rfl
      have hc := rrun_any (s.extract k s.size) (by rw [ext_size]; omega) c
      rw [ext_drop] at hc
      rw [hm] at hr
      generalize run c (s.data.toList.drop k) = q at *
      have Hr := Lib.hid hr
      have Hc := Lib.hid hc
      clear hr hd hm hc
      go_wp2_with (go_at_call 21; refine (Hc.out _).mono ?_; rintro e w' ⟨rfl, rfl⟩)
      go_round
      case rel => exact ⟨k + 1, max a q, by omega, by go_num, by go_num, by rw [Hr.out]; omega⟩
      case measure => simp [intOf]; omega
    · rw [drop_all s k hlt] at hr
      have Hr := Lib.hid (show mx c s.data.toList = a by rw [hr]; show max a 0 = a; omega)
      clear hr
      go_wp2_with fail
      go_ret
      exact ⟨ret_int (by rw [Hr.out]), rfl⟩

theorem rgap_any (b : UInt8) (w : World) :
    Calls Tryd.prog 26 #[.int .u8 b.toNat] w fun e w' => e = .returned (.bool (gapB b)) ∧ w = w' := by
  by_cases h1 : b = 32
  · subst h1
    go_enter Tryd.func26, Tryd.ntmps26
    go_wp2_with fail
    go_ret
    exact ⟨rfl, rfl⟩
  by_cases h2 : b = 9
  · subst h2
    go_enter Tryd.func26, Tryd.ntmps26
    go_wp2_with fail
    go_ret
    exact ⟨rfl, rfl⟩
  have e1 : ((b.toNat : Int) == 32) = false := ne8 h1
  have e2 : ((b.toNat : Int) == 9) = false := ne8 h2
  have Hg : Hid (gapB b = false) := Lib.hid (by simp [gapB, h1, h2])
  clear h1 h2
  go_enter Tryd.func26, Tryd.ntmps26
  go_wp2_with fail
  go_ret
  exact ⟨by rw [Hg.out]; rfl, rfl⟩

def sz : Value → Nat
  | .string x => x.size
  | _ => 0
theorem last_data (s : ByteArray) (h : 0 < s.size) : s.data.toList = s.data.toList.take (s.size - 1) ++ [s[s.size - 1]] := by
  have h1 : s.size - 1 < s.data.toList.length := by simp; omega
  conv => lhs; rw [← List.take_append_drop (s.size - 1) s.data.toList, List.drop_eq_getElem_cons h1, List.drop_eq_nil_of_le (by simp; omega)]
  rfl

set_option maxHeartbeats 400000 in
theorem rtrim_any (s : ByteArray) (hs : s.size ≤ 9223372036854775806) (w : World) :
    Calls Tryd.prog 18 #[.string s] w fun e w' => e = .returned (.string (S (trim s.data.toList))) ∧ w = w' := by
  go_enter Tryd.func18, Tryd.ntmps18
  go_wp2_with fail
  go_loop [0] (fun v => ∃ x : ByteArray, v = .string x ∧ x.size ≤ s.size ∧ dl x.data.toList = dl s.data.toList) (fun v => sz v)
  case atStart => exact ⟨s, rfl, Nat.le_refl _, rfl⟩
  case round =>
    obtain ⟨x, rfl, hx, hd⟩ := hrel
    by_cases h0 : 0 < x.size
    · have d0 : decide (0 < (x.size : Int)) = true := by simpa using h0
      have hcons := at_data x 0 h0
      rw [List.drop_zero] at hcons
      cases hg : gapB x[0] with
      | true =>
        have Hd : Hid (dl (x.extract 1 x.size).data.toList = dl s.data.toList) := Lib.hid (by rw [ext_drop, ← hd, hcons, dl_yes hg]; rfl)
        have Hg := Lib.hid hg
        clear hg hd hcons
        go_wp2_with (go_at_call 26; refine (rgap_any x[0] _).mono ?_; rintro e w' ⟨rfl, rfl⟩; rw [Hg.out])
        go_round
        case rel => exact ⟨_, rfl, by rw [ByteArray.size_extract]; omega, Hd.out⟩
        case measure => simp [sz, ByteArray.size_extract]; omega
      | false =>
        have Hd : Hid (x.data.toList = dl s.data.toList) := Lib.hid (by rw [← hd, hcons, dl_no hg])
        have Hg := Lib.hid hg
        clear hg hd hcons
        go_wp2_with (go_at_call 26; refine (rgap_any x[0] _).mono ?_; rintro e w' ⟨rfl, rfl⟩; rw [Hg.out])
        go_loop [0] (fun v => ∃ y : ByteArray, v = .string y ∧ y.size ≤ s.size ∧ dr y.data.toList = dr (dl s.data.toList)) (fun v => sz v)
        case atStart => exact ⟨x, rfl, hx, by rw [Hd.out]⟩
        case round =>
          clear d0 Hg Hd
          obtain ⟨y, rfl, hy, hd⟩ := hrel
          by_cases h0 : 0 < y.size
          · have d0 : decide (0 < (y.size : Int)) = true := by simpa using h0
            have hsn := last_data y h0
            have h1 : y.size - 1 < y.size := by omega
            cases hg : gapB y[y.size - 1] with
            | true =>
              have Hd : Hid (dr (y.extract 0 (y.size - 1)).data.toList = dr (dl s.data.toList)) := Lib.hid (by rw [ext_take, ← hd, hsn, dr_yes hg, ← hsn])
              have Hg := Lib.hid hg
              clear hg hd hsn
              go_wp2_with (go_at_call 26; refine (rgap_any y[y.size - 1] _).mono ?_; rintro e w' ⟨rfl, rfl⟩; rw [Hg.out])
              go_round
              case rel => exact ⟨_, rfl, by rw [ByteArray.size_extract]; omega, Hd.out⟩
              case measure => simp [sz, ByteArray.size_extract]; omega
            | false =>
              have Hd : Hid (y.data.toList = dr (dl s.data.toList)) := Lib.hid (by rw [← hd, hsn, dr_no hg])
              have Hg := Lib.hid hg
              clear hg hd hsn
              go_wp2_with (go_at_call 26; refine (rgap_any y[y.size - 1] _).mono ?_; rintro e w' ⟨rfl, rfl⟩; rw [Hg.out])
              go_ret
              exact ⟨by rw [show trim s.data.toList = y.data.toList by rw [Hd.out, dr_dl]; rfl, S_of]; rfl, rfl⟩
          · have d0 : decide (0 < (y.size : Int)) = false := by simpa using h0
            have Hd : Hid (y.data.toList = dr (dl s.data.toList)) := Lib.hid (by rw [← hd, List.eq_nil_of_length_eq_zero (l := y.data.toList) (by rw [len_data]; omega)]; rfl)
            clear hd
            go_wp2_with fail
            go_ret
            exact ⟨by rw [show trim s.data.toList = y.data.toList by rw [Hd.out, dr_dl]; rfl, S_of]; rfl, rfl⟩
    · have d0 : decide (0 < (x.size : Int)) = false := by simpa using h0
      have hx0 : x.data.toList = [] := List.eq_nil_of_length_eq_zero (by rw [len_data]; omega)
      have Hd : Hid (S (trim s.data.toList) = x) := Lib.hid (by rw [show trim s.data.toList = x.data.toList by unfold trim; rw [← dr_dl, ← hd, hx0]; rfl, S_of])
      clear hd hx0
      go_wp2_with fail
      go_loop [0] (fun v => v = .string x) (fun v => sz v)
      case atStart => rfl
      case round =>
        subst hrel
        go_wp2_with fail
        go_ret
        exact ⟨by rw [Hd.out]; rfl, rfl⟩

theorem trim_any (s : ByteArray) (hs : s.size ≤ 9223372036854775806) (w : World) :
    Calls Tryd.prog 19 #[.string s] w fun e w' => e = .returned (.string (S (trim s.data.toList))) ∧ Below w.heap.size w w' := by
  have hc := Any.strings_Trim_laid Tryd.lays160 (by kernel_rfl) s (S [32, 9]) w (by omega) (by decide) (ascii_of_all (by decide))
  rw [S_list, trimS_eq] at hc
  have hc' : Calls Tryd.prog 27 #[.string s, .string ⟨#[32, 9]⟩] w fun e w' => e = .returned (.string (S (trim s.data.toList))) ∧ Below w.heap.size w w' := hc
  have Hc := Lib.hid hc'
  clear hc hc'
  go_enter Tryd.func19, Tryd.ntmps19
  go_wp2_with fail
  refine Hc.out.mono ?_
  rintro e w' ⟨rfl, hb⟩
  have Hb := Lib.hid hb
  clear hb
  go_wp2_with fail
  go_ret
  exact ⟨rfl, Hb.out⟩

theorem blank_any (s : ByteArray) (hs : s.size ≤ 9223372036854775806) (w : World) :
    Calls Tryd.prog 17 #[.string s] w fun e w' => e = .returned (.bool (trim s.data.toList).isEmpty) ∧ Below w.heap.size w w' := by
  have Hc := Lib.hid (trim_any s hs w)
  go_enter Tryd.func17, Tryd.ntmps17
  go_wp2_with fail
  refine Hc.out.mono ?_
  rintro e w' ⟨rfl, hb⟩
  have Hb := Lib.hid hb
  clear hb
  have ht := S_toList (trim s.data.toList)
  go_wp2_with fail
  go_ret
  exact ⟨by cases trim s.data.toList <;> rfl, Hb.out⟩

end Go.Proofs.YtkldndmmjgodbaaDoor.Ln
