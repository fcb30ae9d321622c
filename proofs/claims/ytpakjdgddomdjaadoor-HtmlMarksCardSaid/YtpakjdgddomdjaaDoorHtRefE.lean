/-
  CONTRACTS of the document's Escape and word (emendationref14); written by gen_ref.py.
-/
import Derived.Test.YtpakjdgddomdjaaDoorHtPlain
import Derived.Deep.QuietTactic
namespace Go.Proofs.YtpakjdgddomdjaaDoor.Ht
open Go.RowKit
open Go.Proofs.YtpakjdgddomdjaaDoor.Tk (S S_of S_list S_size S_toList S_app eq8 ne8 at_data len_data drop_all)
open Go.Proofs.YtpakjdgddomdjaaDoor.Bk (Tx)
set_option linter.unusedVariables false

theorem ret_str {x y : ByteArray} (h : x = y) : Ending.returned (.string x) = Ending.returned (.string y) := by rw [h]
theorem sliceS (x : ByteArray) (m k : Nat) (h1 : m ≤ k) (h2 : k ≤ x.size) (w : World) :
    (Instr.slice 9 (.string x) (some (.int .i64 (m : Int))) (some (.int .i64 (k : Int))) none).run Tryd.prog w = .ok (.string (x.extract m k)) w := by
  have h3 : (m : Int) ≤ (k : Int) := by omega
  have h4 : (k : Int) ≤ (x.size : Int) := by omega
  have h5 : 0 ≤ (m : Int) := by omega
  go_simp
theorem ext_list (s : ByteArray) (a b : Nat) : (s.extract a b).data.toList = (s.data.toList.drop a).take (b - a) := by
  rw [ByteArray.data_extract]
  simp only [Array.toList_extract, List.extract_eq_take_drop]
theorem ext_S (s : ByteArray) (a b : Nat) : s.extract a b = S ((s.data.toList.drop a).take (b - a)) := by
  rw [← ext_list, S_of]
theorem one_S (s : ByteArray) (k : Nat) (h : k < s.size) : s.extract k (k + 1) = S [s[k]] := by
  rw [ext_S, at_data s k h, Nat.add_sub_cancel_left]
  rfl
theorem nm_no {c : UInt8} (h1 : c ≠ 38) (h2 : c ≠ 60) (h3 : c ≠ 62) (h4 : c ≠ 34) : nm c = [c] := by
  unfold nm
  rw [if_neg h1, if_neg h2, if_neg h3, if_neg h4]

set_option maxHeartbeats 1600000 in
theorem resc_any (s : ByteArray) (hs : s.size ≤ 1000000000000) (w : World) :
    Calls Tryd.prog 16 #[.string s] w fun e w' => e = .returned (.string (S (he s.data.toList))) ∧ w = w' := by
  have H0 : Hid (he s.data.toList = [] ++ he (s.data.toList.drop 0)) := Lib.hid (by rw [List.drop_zero]; rfl)
  have HAt := Lib.hid (at_data s)
  have HO := Lib.hid (one_S s)
  have HSl := Lib.hid (sliceS s)
  obtain ⟨X, hX⟩ : ∃ X, he s.data.toList = X := ⟨_, rfl⟩
  rw [hX] at H0
  rw [hX]
  clear hX
  go_enter Tryd.func16, Tryd.ntmps16
  go_wp2_with fail
  go_loop [3, 4] (fun v i => ∃ (k : Nat) (A : List UInt8), k ≤ s.size ∧ A.length ≤ 6 * k ∧ i = .int .i64 k ∧ v = .string (S A) ∧ Hid (X = A ++ he (s.data.toList.drop k))) (fun _ i => s.size - (intOf i).toNat)
  case atStart => exact ⟨0, [], Nat.zero_le _, Nat.zero_le _, rfl, rfl, H0⟩
  case round =>
    clear H0
    obtain ⟨k, A, hk, hA, rfl, rfl, HN⟩ := hrel
    by_cases hlt : k < s.size
    · have hi1 : (k : Int) < (s.size : Int) := by omega
      have hnx := HN.out
      rw [HAt.out k hlt, he_cons] at hnx
      have hsl := HSl.out k (k + 1) (Nat.le_succ k) hlt
      rw [HO.out k hlt, show ((k + 1 : Nat) : Int) = (k : Int) + 1 by omega] at hsl
      have zA : (S A).size = A.length := S_size _
      have z1 : (S [s[k]]).size = 1 := S_size _
      have gA : ¬ 9223372036854775807 < (S A).size + (S [s[k]]).size := by omega
      have HapA := Lib.hid (S_app A [s[k]])
      have HNx := Lib.hid hnx
      clear hnx HN HAt HO HSl
      by_cases h38 : s[k] = 38
      · have hm : nm s[k] = [38, 97, 109, 112, 59] := by rw [h38]; rfl
        have HR : Hid (X = (A ++ [38, 97, 109, 112, 59]) ++ he (s.data.toList.drop (k + 1))) := Lib.hid (by rw [HNx.out, hm, List.append_assoc])
        have e38 : ((s[k].toNat : Int) == 38) = true := eq8 (b := 38) h38
        have zb : (⟨#[38, 97, 109, 112, 59]⟩ : ByteArray).size = 5 := rfl
        have gB : ¬ 9223372036854775807 < (S A).size + (⟨#[38, 97, 109, 112, 59]⟩ : ByteArray).size := by omega
        have HapB : Hid (S A ++ (⟨#[38, 97, 109, 112, 59]⟩ : ByteArray) = S (A ++ [38, 97, 109, 112, 59])) := Lib.hid (S_app A [38, 97, 109, 112, 59])
        clear hm HNx h38
        go_wp2_with fail
        go_round
        case rel => exact ⟨k + 1, A ++ [38, 97, 109, 112, 59], by omega, by simp only [List.length_append, List.length_cons, List.length_nil]; omega, by go_num, by rw [HapB.out], HR⟩
        case measure => simp [intOf]; omega
      · have e38 : ((s[k].toNat : Int) == 38) = false := ne8 (b := 38) h38
        by_cases h60 : s[k] = 60
        · have hm : nm s[k] = [38, 108, 116, 59] := by rw [h60]; rfl
          have HR : Hid (X = (A ++ [38, 108, 116, 59]) ++ he (s.data.toList.drop (k + 1))) := Lib.hid (by rw [HNx.out, hm, List.append_assoc])
          have e60 : ((s[k].toNat : Int) == 60) = true := eq8 (b := 60) h60
          have zb : (⟨#[38, 108, 116, 59]⟩ : ByteArray).size = 4 := rfl
          have gB : ¬ 9223372036854775807 < (S A).size + (⟨#[38, 108, 116, 59]⟩ : ByteArray).size := by omega
          have HapB : Hid (S A ++ (⟨#[38, 108, 116, 59]⟩ : ByteArray) = S (A ++ [38, 108, 116, 59])) := Lib.hid (S_app A [38, 108, 116, 59])
          clear hm HNx h38 h60
          go_wp2_with fail
          go_round
          case rel => exact ⟨k + 1, A ++ [38, 108, 116, 59], by omega, by simp only [List.length_append, List.length_cons, List.length_nil]; omega, by go_num, by rw [HapB.out], HR⟩
          case measure => simp [intOf]; omega
        · have e60 : ((s[k].toNat : Int) == 60) = false := ne8 (b := 60) h60
          by_cases h62 : s[k] = 62
          · have hm : nm s[k] = [38, 103, 116, 59] := by rw [h62]; rfl
            have HR : Hid (X = (A ++ [38, 103, 116, 59]) ++ he (s.data.toList.drop (k + 1))) := Lib.hid (by rw [HNx.out, hm, List.append_assoc])
            have e62 : ((s[k].toNat : Int) == 62) = true := eq8 (b := 62) h62
            have zb : (⟨#[38, 103, 116, 59]⟩ : ByteArray).size = 4 := rfl
            have gB : ¬ 9223372036854775807 < (S A).size + (⟨#[38, 103, 116, 59]⟩ : ByteArray).size := by omega
            have HapB : Hid (S A ++ (⟨#[38, 103, 116, 59]⟩ : ByteArray) = S (A ++ [38, 103, 116, 59])) := Lib.hid (S_app A [38, 103, 116, 59])
            clear hm HNx h38 h60 h62
            go_wp2_with fail
            go_round
            case rel => exact ⟨k + 1, A ++ [38, 103, 116, 59], by omega, by simp only [List.length_append, List.length_cons, List.length_nil]; omega, by go_num, by rw [HapB.out], HR⟩
            case measure => simp [intOf]; omega
          · have e62 : ((s[k].toNat : Int) == 62) = false := ne8 (b := 62) h62
            by_cases h34 : s[k] = 34
            · have hm : nm s[k] = [38, 113, 117, 111, 116, 59] := by rw [h34]; rfl
              have HR : Hid (X = (A ++ [38, 113, 117, 111, 116, 59]) ++ he (s.data.toList.drop (k + 1))) := Lib.hid (by rw [HNx.out, hm, List.append_assoc])
              have e34 : ((s[k].toNat : Int) == 34) = true := eq8 (b := 34) h34
              have zb : (⟨#[38, 113, 117, 111, 116, 59]⟩ : ByteArray).size = 6 := rfl
              have gB : ¬ 9223372036854775807 < (S A).size + (⟨#[38, 113, 117, 111, 116, 59]⟩ : ByteArray).size := by omega
              have HapB : Hid (S A ++ (⟨#[38, 113, 117, 111, 116, 59]⟩ : ByteArray) = S (A ++ [38, 113, 117, 111, 116, 59])) := Lib.hid (S_app A [38, 113, 117, 111, 116, 59])
              clear hm HNx h38 h60 h62 h34
              go_wp2_with fail
              go_round
              case rel => exact ⟨k + 1, A ++ [38, 113, 117, 111, 116, 59], by omega, by simp only [List.length_append, List.length_cons, List.length_nil]; omega, by go_num, by rw [HapB.out], HR⟩
              case measure => simp [intOf]; omega
            · have e34 : ((s[k].toNat : Int) == 34) = false := ne8 (b := 34) h34
              have hm := nm_no h38 h60 h62 h34
              have HR : Hid (X = (A ++ [s[k]]) ++ he (s.data.toList.drop (k + 1))) := Lib.hid (by rw [HNx.out, hm, List.append_assoc])
              clear hm HNx h38 h60 h62 h34
              go_wp2_with fail
              go_round
              case rel => exact ⟨k + 1, A ++ [s[k]], by omega, by simp only [List.length_append, List.length_cons, List.length_nil]; omega, by go_num, by rw [HapA.out], HR⟩
              case measure => simp [intOf]; omega
    · have hi1 : ¬ (k : Int) < (s.size : Int) := by omega
      have HR : Hid (X = A) := Lib.hid (by rw [HN.out, drop_all s _ hlt]; simp [he])
      clear HN HAt HO HSl
      go_wp2_with fail
      go_ret
      exact ⟨ret_str (by rw [HR.out]), rfl⟩

/-! The first word. -/
theorem wd_take (l : Tx) : ∀ k, (∀ x ∈ l.take k, x ≠ 32) → wd l = l.take k ++ wd (l.drop k)
  | 0, _ => by rw [List.take_zero, List.drop_zero]; rfl
  | k + 1, h => by
    cases l with
    | nil => rfl
    | cons c r =>
      have hc : c ≠ 32 := h c (by simp)
      have ih := wd_take r k (fun x hx => h x (by rw [List.take_succ_cons]; exact List.mem_cons_of_mem _ hx))
      rw [List.take_succ_cons, List.drop_succ_cons, List.cons_append, ← ih]
      show (c :: r).takeWhile (· != 32) = c :: r.takeWhile (· != 32)
      rw [List.takeWhile_cons, if_pos (by simpa using hc)]
set_option maxHeartbeats 1600000 in
theorem rword_any (s : ByteArray) (hs : s.size ≤ 1000000000000) (w : World) :
    Calls Tryd.prog 27 #[.string s] w fun e w' => e = .returned (.string (S (wd s.data.toList))) ∧ w = w' := by
  have HAt := Lib.hid (at_data s)
  have HSl := Lib.hid (sliceS s)
  have HW := Lib.hid (wd_take s.data.toList)
  have HE := Lib.hid (ext_S s)
  have HSo := Lib.hid (S_of s)
  have H0 : Hid (∀ x ∈ s.data.toList.take 0, x ≠ 32) := Lib.hid (by intro x hx; simp at hx)
  go_enter Tryd.func27, Tryd.ntmps27
  go_wp2_with fail
  go_loop [3] (fun i => ∃ k : Nat, k ≤ s.size ∧ i = .int .i64 k ∧ Hid (∀ x ∈ s.data.toList.take k, x ≠ 32)) (fun i => s.size - (intOf i).toNat)
  case atStart => exact ⟨0, Nat.zero_le _, rfl, H0⟩
  case round =>
    clear H0
    obtain ⟨k, hk, rfl, HN⟩ := hrel
    by_cases hlt : k < s.size
    · have hi1 : (k : Int) < (s.size : Int) := by omega
      have hat := HAt.out k hlt
      by_cases h32 : s[k] = 32
      · have e32 : ((s[k].toNat : Int) == 32) = true := eq8 (b := 32) h32
        have hsl := HSl.out 0 k (Nat.zero_le _) (by omega)
        have hr : Hid (s.extract 0 k = S (wd s.data.toList)) := Lib.hid (by
          rw [HE.out, HW.out k HN.out, hat, List.drop_zero, Nat.sub_zero]
          show _ = S (_ ++ (s[k] :: _).takeWhile (· != 32))
          rw [List.takeWhile_cons, if_neg (by rw [h32]; simp), List.append_nil])
        rw [show ((0 : Nat) : Int) = 0 from rfl] at hsl
        clear HN HAt HSl HW HE HSo hat h32
        go_wp2_with fail
        go_ret
        exact ⟨ret_str hr.out, rfl⟩
      · have e32 : ((s[k].toNat : Int) == 32) = false := ne8 (b := 32) h32
        have HN2 : Hid (∀ x ∈ s.data.toList.take (k + 1), x ≠ 32) := Lib.hid (by
          intro x hx
          rw [List.take_add, hat] at hx
          rcases List.mem_append.1 hx with hx | hx
          · exact HN.out x hx
          · simp at hx
            rw [hx]; exact h32)
        clear HN HAt HSl HW HE HSo hat h32
        go_wp2_with fail
        go_round
        case rel => exact ⟨k + 1, by omega, by go_num, HN2⟩
        case measure => simp [intOf]; omega
    · have hi1 : ¬ (k : Int) < (s.size : Int) := by omega
      have hr : Hid (s = S (wd s.data.toList)) := Lib.hid (by
        rw [HW.out k HN.out, drop_all s _ hlt, List.take_of_length_le (by rw [len_data]; omega)]
        show s = S (_ ++ [])
        rw [List.append_nil, HSo.out])
      clear HN HAt HSl HW HE HSo
      go_wp2_with fail
      go_ret
      exact ⟨ret_str hr.out, rfl⟩
end Go.Proofs.YtpakjdgddomdjaaDoor.Ht
