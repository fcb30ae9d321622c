/-
  THE WALK of the statement SpanDests.
-/
import Derived.Test.YtjgaggikgjibiaaSpTold
namespace Go.Proofs.Ytjgaggikgjibiaa.Sp
open Go.RowKit
open Go.Proofs.Ytjgaggikgjibiaa.Tk (S S_of S_list S_size S_toList S_app ret_int eq8 ne8 at_data len_data)
open Go.Proofs.Ytjgaggikgjibiaa.Cm (calls_at)
set_option linter.unusedVariables false

theorem dcB_tells {c : UInt8} (h : dcB c = true) : 32 < (c.toNat : Int) ∧ (c.toNat : Int) < 127 ∧ c ≠ 40 ∧ c ≠ 41 ∧ c ≠ 91 ∧ c ≠ 93 := by
  have k : ∀ d : UInt8, c = d → c.toNat = d.toNat := fun d e => by rw [e]
  unfold dcB at h
  rw [Bool.or_eq_true] at h
  rcases h with h | h
  · unfold alB at h
    simp only [Bool.or_eq_true, Bool.and_eq_true, decide_eq_true_eq] at h
    refine ⟨by omega, by omega, fun e => ?_, fun e => ?_, fun e => ?_, fun e => ?_⟩ <;> have := k _ e <;> simp at this <;> omega
  · simp only [marksL, List.any_cons, List.any_nil, Bool.or_eq_true, decide_eq_true_eq, Bool.or_false] at h
    rcases h with rfl | rfl | rfl | rfl | rfl | rfl | rfl | rfl | rfl <;> decide
theorem dsB_app (a b : List UInt8) : dsB (a ++ b) = ((dsB a || a.isEmpty) && (dsB b || b.isEmpty) && !(a.isEmpty && b.isEmpty)) := by
  unfold dsB
  rw [List.all_append]
  cases a <;> cases b <;> simp
theorem dsB_byte {s : ByteArray} (h : dsB s.data.toList = true) (k : Nat) (hk : k < s.size) : dcB s[k] = true := by
  unfold dsB at h
  rw [Bool.and_eq_true, List.all_eq_true] at h
  apply h.1
  have := at_data s k hk
  exact List.mem_of_mem_drop (by rw [this]; exact List.mem_cons_self ..)

set_option maxHeartbeats 3200000 in
set_option maxRecDepth 100000 in
theorem spanDests_walk (K : Told) (w : World) (a : ByteArray) (ha : a.size ≤ maxLen) (ra : a.size ≤ reachBytes) (b : ByteArray) (hb : b.size ≤ maxLen) (rb : b.size ≤ reachBytes) :
    Calls Try.prog 8 #[.string a, .string b] w (OkAns w true) := by
  have HA := Lib.hid (awake7_any K)
  have hrb : reachBytes ≤ 140737488355328 := by decide
  clear ha hb
  go_enter Try.func8, Try.ntmps8
  go_wp2_with fail
  refine (HA.out _).mono ?_
  rintro e w2 ⟨rfl, b2⟩
  have H2 := Lib.hid b2
  clear b2
  by_cases hl : a.size + b.size ≤ 2000
  · have d1 : decide ((a.size : Int) + (b.size : Int) > 2000) = false := decide_eq_false (by omega)
    have S1 := Lib.hid (fun w' => K.dest a w' (by omega))
    have S2 := Lib.hid (fun w' => K.dest b w' (by omega))
    have hab : (a ++ b).size = a.size + b.size := ByteArray.size_append
    have S3 := Lib.hid (fun w' => K.dest (a ++ b) w' (by omega))
    have hd : (a ++ b).data.toList = a.data.toList ++ b.data.toList := by rw [ByteArray.data_append, Array.toList_append]
    rw [hd, dsB_app] at S3
    have HX := Lib.hid (fun (h : dsB a.data.toList = true) k hk => dcB_tells (dsB_byte h k hk))
    have f1 : a.toList.isEmpty = a.data.toList.isEmpty := by rw [Lib.toList_data]
    have f2 : b.toList.isEmpty = b.data.toList.isEmpty := by rw [Lib.toList_data]
    have f3 : (a ++ b).toList.isEmpty = (a.data.toList.isEmpty && b.data.toList.isEmpty) := by rw [Lib.toList_data, hd]; cases a.data.toList <;> rfl
    have g1 : (a.toList == ([] : List UInt8)) = a.data.toList.isEmpty := by rw [← f1]; cases a.toList <;> rfl
    have g2 : (b.toList == ([] : List UInt8)) = b.data.toList.isEmpty := by rw [← f2]; cases b.toList <;> rfl
    have z1 : ¬ 9223372036854775807 < a.size + b.size := by omega
    clear HA hd
    generalize a.data.toList.isEmpty = ea at *
    generalize b.data.toList.isEmpty = eb at *
    generalize hx : dsB a.data.toList = x at *
    generalize dsB b.data.toList = y at *
    go_wp2_with fail
    refine (S1.out _).mono ?_
    rintro e w3 ⟨rfl, b3⟩
    have H3 := Lib.hid (H2.out.trans (b3.mono H2.out.size))
    clear b3 S1
    go_wp2_with fail
    refine (S2.out _).mono ?_
    rintro e w4 ⟨rfl, b4⟩
    have H4 := Lib.hid (H3.out.trans (b4.mono H3.out.size))
    clear b4 S2
    cases x with
    | false =>
      go_wp2_with fail
      go_loop [25] (fun i => ∃ k : Nat, k ≤ a.size ∧ i = .int .i64 k) (fun i => a.size - (intOf i).toNat)
      case atStart => exact ⟨0, Nat.zero_le _, rfl⟩
      case round =>
        obtain ⟨k, hk, rfl⟩ := hrel
        by_cases hlt : k < a.size
        · have hi1 : (k : Int) < (a.size : Int) := by omega
          go_wp2_with fail
          go_round
          case rel => exact ⟨k + 1, by omega, by go_num⟩
          case measure => simp [intOf]; omega
        · obtain rfl : k = a.size := by omega
          clear HX
          go_wp2_with fail
          refine (S3.out _).mono ?_
          rintro e w5 ⟨rfl, b5⟩
          have H5 := Lib.hid (H4.out.trans (b5.mono H4.out.size))
          clear b5 S3
          cases ea <;> cases y <;> cases eb
          all_goals (
            go_wp2_with fail
            go_ret
            exact ⟨rfl, H5.out⟩)
    | true =>
      go_wp2_with fail
      go_loop [25] (fun i => ∃ k : Nat, k ≤ a.size ∧ i = .int .i64 k) (fun i => a.size - (intOf i).toNat)
      case atStart => exact ⟨0, Nat.zero_le _, rfl⟩
      case round =>
        obtain ⟨k, hk, rfl⟩ := hrel
        by_cases hlt : k < a.size
        · have hi1 : (k : Int) < (a.size : Int) := by omega
          obtain ⟨c1, c2, c3, c4, c5, c6⟩ := HX.out trivial k hlt
          have e1 : decide ((a[k].toNat : Int) ≤ 32) = false := decide_eq_false (by omega)
          have e2 : decide ((a[k].toNat : Int) ≥ 127) = false := decide_eq_false (by omega)
          have e3 : ((a[k].toNat : Int) == 40) = false := ne8 (b := 40) c3
          have e4 : ((a[k].toNat : Int) == 41) = false := ne8 (b := 41) c4
          have e5 : ((a[k].toNat : Int) == 91) = false := ne8 (b := 91) c5
          have e6 : ((a[k].toNat : Int) == 93) = false := ne8 (b := 93) c6
          clear c3 c4 c5 c6
          go_wp2_with fail
          go_round
          case rel => exact ⟨k + 1, by omega, by go_num⟩
          case measure => simp [intOf]; omega
        · obtain rfl : k = a.size := by omega
          clear HX
          go_wp2_with fail
          refine (S3.out _).mono ?_
          rintro e w5 ⟨rfl, b5⟩
          have H5 := Lib.hid (H4.out.trans (b5.mono H4.out.size))
          clear b5 S3
          cases ea <;> cases y <;> cases eb
          all_goals (
            go_wp2_with fail
            go_ret
            exact ⟨rfl, H5.out⟩)
  · have d1 : decide ((a.size : Int) + (b.size : Int) > 2000) = true := decide_eq_true (by omega)
    go_wp2_with fail
    refine (HA.out _).mono ?_
    rintro e w4 ⟨rfl, b4⟩
    have H4 := Lib.hid (H2.out.trans (b4.mono H2.out.size))
    clear b4
    go_wp2_with fail
    go_ret
    exact ⟨rfl, H4.out⟩

end Go.Proofs.Ytjgaggikgjibiaa.Sp
