/-
  CONTRACT of the document's Escape (emendationref09); written by gen_esc.py.
-/
import Derived.Test.YtjgmfgnfdaeelaaDoorSiCode
import Derived.Test.YtjgmfgnfdaeelaaDoorSpBack
namespace Go.Proofs.YtjgmfgnfdaeelaaDoor.Sp
open Go.RowKit
open Go.Proofs.YtjgmfgnfdaeelaaDoor.Tk (S S_of S_list S_size S_toList S_app ret_int eq8 ne8 at_data len_data)
open Go.Proofs.YtjgmfgnfdaeelaaDoor.Cm (calls_at)
set_option linter.unusedVariables false

theorem one_S9 (s : ByteArray) (k : Nat) (h : k < s.size) : s.extract k (k + 1) = S [s[k]] := by
  rw [← ext_one' s k h, S_of]
theorem esc_cons (c : UInt8) (r : List UInt8) : esc (c :: r) = (if marked c = true then [92, c] else [c]) ++ esc r := by
  rw [esc]
  split <;> rfl
theorem esc_le : ∀ l : List UInt8, (esc l).length ≤ 2 * l.length
  | [] => Nat.le_refl _
  | c :: r => by
    have := esc_le r
    rw [esc_cons, List.length_append, List.length_cons]
    split <;> simp <;> omega
theorem marked_no {c : UInt8} (h1 : c ≠ 92) (h2 : c ≠ 42) (h3 : c ≠ 91) (h4 : c ≠ 93) (h5 : c ≠ 35) (h6 : c ≠ 62) (h7 : c ≠ 45) (h8 : c ≠ 96) : marked c = false := by
  unfold marked
  simp [h1, h2, h3, h4, h5, h6, h7, h8]

set_option maxHeartbeats 1600000 in
theorem resc_any (s : ByteArray) (hs : s.size ≤ 1000000) (w : World) :
    Calls Tryd.prog 11 #[.string s] w fun e w' => e = .returned (.string (S (esc s.data.toList))) ∧ w = w' := by
  have H0 : Hid (esc s.data.toList = [] ++ esc (s.data.toList.drop 0)) := Lib.hid (by rw [List.drop_zero]; rfl)
  have HAt := Lib.hid (at_data s)
  have HO := Lib.hid (one_S9 s)
  have HSl := Lib.hid (sliceS s)
  obtain ⟨X, hX⟩ : ∃ X, esc s.data.toList = X := ⟨_, rfl⟩
  rw [hX] at H0
  rw [hX]
  clear hX
  go_enter Tryd.func11, Tryd.ntmps11
  go_wp2_with fail
  go_loop [3, 4] (fun v i => ∃ (k : Nat) (A : List UInt8), k ≤ s.size ∧ A.length ≤ 2 * k ∧ i = .int .i64 k ∧ v = .string (S A) ∧ Hid (X = A ++ esc (s.data.toList.drop k))) (fun _ i => s.size - (intOf i).toNat)
  case atStart => exact ⟨0, [], Nat.zero_le _, Nat.zero_le _, rfl, rfl, H0⟩
  case round =>
    clear H0
    obtain ⟨k, A, hk, hA, rfl, rfl, HN⟩ := hrel
    by_cases hlt : k < s.size
    · have hi1 : (k : Int) < (s.size : Int) := by omega
      have hnx := HN.out
      rw [HAt.out k hlt, esc_cons] at hnx
      have hsl := HSl.out k (k + 1) (Nat.le_succ k) hlt
      rw [HO.out k hlt, show ((k + 1 : Nat) : Int) = (k : Int) + 1 by omega] at hsl
      have zA : (S A).size = A.length := S_size _
      have z1 : (S [s[k]]).size = 1 := S_size _
      have zbs : (⟨#[92]⟩ : ByteArray).size = 1 := rfl
      have hbs : (⟨#[92]⟩ : ByteArray) = S [92] := rfl
      have zA1 : (S A ++ (⟨#[92]⟩ : ByteArray)).size = A.length + 1 := by rw [hbs, S_app, S_size]; simp
      have gA : ¬ 9223372036854775807 < (S A).size + (S [s[k]]).size := by omega
      have gA1 : ¬ 9223372036854775807 < (S A).size + (⟨#[92]⟩ : ByteArray).size := by omega
      have gA2 : ¬ 9223372036854775807 < (S A ++ (⟨#[92]⟩ : ByteArray)).size + (S [s[k]]).size := by omega
      have HapA := Lib.hid (S_app A [s[k]])
      have HapB : Hid ((S A ++ (⟨#[92]⟩ : ByteArray)) ++ S [s[k]] = S (A ++ [92, s[k]])) := Lib.hid (by rw [hbs, S_app, S_app]; simp)
      have HNx := Lib.hid hnx
      clear hnx HN HAt HO HSl hbs
      by_cases h92 : s[k] = 92
      · have hm : marked s[k] = true := by rw [h92]; decide
        have HR : Hid (X = (A ++ [92, s[k]]) ++ esc (s.data.toList.drop (k + 1))) := Lib.hid (by rw [HNx.out, if_pos hm, List.append_assoc])
        have e92 : ((s[k].toNat : Int) == 92) = true := eq8 (b := 92) h92
        clear hm HNx h92
        go_wp2_with fail
        go_round
        case rel => exact ⟨k + 1, A ++ [92, s[k]], by omega, by simp only [List.length_append, List.length_cons, List.length_nil]; omega, by go_num, by rw [HapB.out], HR⟩
        case measure => simp [intOf]; omega
      · have e92 : ((s[k].toNat : Int) == 92) = false := ne8 (b := 92) h92
        by_cases h42 : s[k] = 42
        · have hm : marked s[k] = true := by rw [h42]; decide
          have HR : Hid (X = (A ++ [92, s[k]]) ++ esc (s.data.toList.drop (k + 1))) := Lib.hid (by rw [HNx.out, if_pos hm, List.append_assoc])
          have e42 : ((s[k].toNat : Int) == 42) = true := eq8 (b := 42) h42
          clear hm HNx h92 h42
          go_wp2_with fail
          go_round
          case rel => exact ⟨k + 1, A ++ [92, s[k]], by omega, by simp only [List.length_append, List.length_cons, List.length_nil]; omega, by go_num, by rw [HapB.out], HR⟩
          case measure => simp [intOf]; omega
        · have e42 : ((s[k].toNat : Int) == 42) = false := ne8 (b := 42) h42
          by_cases h91 : s[k] = 91
          · have hm : marked s[k] = true := by rw [h91]; decide
            have HR : Hid (X = (A ++ [92, s[k]]) ++ esc (s.data.toList.drop (k + 1))) := Lib.hid (by rw [HNx.out, if_pos hm, List.append_assoc])
            have e91 : ((s[k].toNat : Int) == 91) = true := eq8 (b := 91) h91
            clear hm HNx h92 h42 h91
            go_wp2_with fail
            go_round
            case rel => exact ⟨k + 1, A ++ [92, s[k]], by omega, by simp only [List.length_append, List.length_cons, List.length_nil]; omega, by go_num, by rw [HapB.out], HR⟩
            case measure => simp [intOf]; omega
          · have e91 : ((s[k].toNat : Int) == 91) = false := ne8 (b := 91) h91
            by_cases h93 : s[k] = 93
            · have hm : marked s[k] = true := by rw [h93]; decide
              have HR : Hid (X = (A ++ [92, s[k]]) ++ esc (s.data.toList.drop (k + 1))) := Lib.hid (by rw [HNx.out, if_pos hm, List.append_assoc])
              have e93 : ((s[k].toNat : Int) == 93) = true := eq8 (b := 93) h93
              clear hm HNx h92 h42 h91 h93
              go_wp2_with fail
              go_round
              case rel => exact ⟨k + 1, A ++ [92, s[k]], by omega, by simp only [List.length_append, List.length_cons, List.length_nil]; omega, by go_num, by rw [HapB.out], HR⟩
              case measure => simp [intOf]; omega
            · have e93 : ((s[k].toNat : Int) == 93) = false := ne8 (b := 93) h93
              by_cases h35 : s[k] = 35
              · have hm : marked s[k] = true := by rw [h35]; decide
                have HR : Hid (X = (A ++ [92, s[k]]) ++ esc (s.data.toList.drop (k + 1))) := Lib.hid (by rw [HNx.out, if_pos hm, List.append_assoc])
                have e35 : ((s[k].toNat : Int) == 35) = true := eq8 (b := 35) h35
                clear hm HNx h92 h42 h91 h93 h35
                go_wp2_with fail
                go_round
                case rel => exact ⟨k + 1, A ++ [92, s[k]], by omega, by simp only [List.length_append, List.length_cons, List.length_nil]; omega, by go_num, by rw [HapB.out], HR⟩
                case measure => simp [intOf]; omega
              · have e35 : ((s[k].toNat : Int) == 35) = false := ne8 (b := 35) h35
                by_cases h62 : s[k] = 62
                · have hm : marked s[k] = true := by rw [h62]; decide
                  have HR : Hid (X = (A ++ [92, s[k]]) ++ esc (s.data.toList.drop (k + 1))) := Lib.hid (by rw [HNx.out, if_pos hm, List.append_assoc])
                  have e62 : ((s[k].toNat : Int) == 62) = true := eq8 (b := 62) h62
                  clear hm HNx h92 h42 h91 h93 h35 h62
                  go_wp2_with fail
                  go_round
                  case rel => exact ⟨k + 1, A ++ [92, s[k]], by omega, by simp only [List.length_append, List.length_cons, List.length_nil]; omega, by go_num, by rw [HapB.out], HR⟩
                  case measure => simp [intOf]; omega
                · have e62 : ((s[k].toNat : Int) == 62) = false := ne8 (b := 62) h62
                  by_cases h45 : s[k] = 45
                  · have hm : marked s[k] = true := by rw [h45]; decide
                    have HR : Hid (X = (A ++ [92, s[k]]) ++ esc (s.data.toList.drop (k + 1))) := Lib.hid (by rw [HNx.out, if_pos hm, List.append_assoc])
                    have e45 : ((s[k].toNat : Int) == 45) = true := eq8 (b := 45) h45
                    clear hm HNx h92 h42 h91 h93 h35 h62 h45
                    go_wp2_with fail
                    go_round
                    case rel => exact ⟨k + 1, A ++ [92, s[k]], by omega, by simp only [List.length_append, List.length_cons, List.length_nil]; omega, by go_num, by rw [HapB.out], HR⟩
                    case measure => simp [intOf]; omega
                  · have e45 : ((s[k].toNat : Int) == 45) = false := ne8 (b := 45) h45
                    by_cases h96 : s[k] = 96
                    · have hm : marked s[k] = true := by rw [h96]; decide
                      have HR : Hid (X = (A ++ [92, s[k]]) ++ esc (s.data.toList.drop (k + 1))) := Lib.hid (by rw [HNx.out, if_pos hm, List.append_assoc])
                      have e96 : ((s[k].toNat : Int) == 96) = true := eq8 (b := 96) h96
                      clear hm HNx h92 h42 h91 h93 h35 h62 h45 h96
                      go_wp2_with fail
                      go_round
                      case rel => exact ⟨k + 1, A ++ [92, s[k]], by omega, by simp only [List.length_append, List.length_cons, List.length_nil]; omega, by go_num, by rw [HapB.out], HR⟩
                      case measure => simp [intOf]; omega
                    · have e96 : ((s[k].toNat : Int) == 96) = false := ne8 (b := 96) h96
                      have hm : ¬ marked s[k] = true := by rw [marked_no h92 h42 h91 h93 h35 h62 h45 h96]; simp
                      have HR : Hid (X = (A ++ [s[k]]) ++ esc (s.data.toList.drop (k + 1))) := Lib.hid (by rw [HNx.out, if_neg hm, List.append_assoc])
                      clear hm HNx h92 h42 h91 h93 h35 h62 h45 h96
                      go_wp2_with fail
                      go_round
                      case rel => exact ⟨k + 1, A ++ [s[k]], by omega, by simp only [List.length_append, List.length_cons, List.length_nil]; omega, by go_num, by rw [HapA.out], HR⟩
                      case measure => simp [intOf]; omega
    · have hi1 : ¬ (k : Int) < (s.size : Int) := by omega
      have HR : Hid (X = A) := Lib.hid (by rw [HN.out, drop_all s _ hlt]; simp [esc])
      clear HN HAt HO HSl
      go_wp2_with fail
      go_ret
      exact ⟨ret_str (by rw [HR.out]), rfl⟩

end Go.Proofs.YtjgmfgnfdaeelaaDoor.Sp
