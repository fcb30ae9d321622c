import Derived.Test.YthpnbialpkkpgaaGreatDoorPkD
import Derived.Test.YthpnbialpkkpgaaGreatDoorPkA
import Derived.Test.YthpnbialpkkpgaaGreatDoorPkE
import Derived.Lib.QuietBelow
import Derived.BigQuiet
import Derived.Test.YthpnbialpkkpgaaGreatDoorPkY
import Derived.Test.YthpnbialpkkpgaaGreatDoorPkB
namespace Go.Proofs.YthpnbialpkkpgaaGreatDoor.Sp
open Go.RowKit
open Go.Proofs.YthpnbialpkkpgaaGreatDoor.Tk (S S_of S_list S_size S_toList S_app ret_int eq8 ne8 at_data len_data)
open Go.Proofs.YthpnbialpkkpgaaGreatDoor.Cm (calls_at)
set_option linter.unusedVariables false
theorem one_S9 (s : ByteArray) (k : Nat) (h : k < s.size) : s.extract k (k + 1) = S [s[k]] := by
  rw [← ext_one' s k h, S_of]
theorem esc_cons (c : UInt8) (r : List UInt8) : esc (c :: r) = (if marked c = true then [92, c] else [c]) ++ esc r := by
  rw [esc]
  split <;> rfl
theorem esc_le : ∀ l : List UInt8, (esc l).length ≤ 2 * l.length
  | [] => Nat.le_refl _
  | c :: r => by
    have := esc_le r
    rw [esc_cons, List.length_append, List.length_cons]
    split <;> simp <;> omega
theorem marked_no {c : UInt8} (h1 : c ≠ 92) (h2 : c ≠ 42) (h3 : c ≠ 91) (h4 : c ≠ 93) (h5 : c ≠ 35) (h6 : c ≠ 62) (h7 : c ≠ 45) (h8 : c ≠ 96) : marked c = false := by
  unfold marked
  simp [h1, h2, h3, h4, h5, h6, h7, h8]
set_option maxHeartbeats 1600000 in
theorem resc_any (s : ByteArray) (hs : s.size ≤ 1000000) (w : World) :
    Calls Tryz.prog 94 #[.string s] w fun e w' => e = .returned (.string (S (esc s.data.toList))) ∧ w = w' := by
  have H0 : Hid (esc s.data.toList = [] ++ esc (s.data.toList.drop 0)) := Lib.hid (by rw [List.drop_zero]; rfl)
  have HAt := Lib.hid (at_data s)
  have HO := Lib.hid (one_S9 s)
  have HSl := Lib.hid (sliceS s)
  obtain ⟨X, hX⟩ : ∃ X, esc s.data.toList = X := ⟨_, rfl⟩
  rw [hX] at H0
  rw [hX]
  clear hX
  go_enter Tryz.func94, Tryz.ntmps94
  go_wp2_with fail
  go_loop [3, 4] (fun v i => ∃ (k : Nat) (A : List UInt8), k ≤ s.size ∧ A.length ≤ 2 * k ∧ i = .int .i64 k ∧ v = .string (S A) ∧ Hid (X = A ++ esc (s.data.toList.drop k))) (fun _ i => s.size - (intOf i).toNat)
  case atStart => exact ⟨0, [], Nat.zero_le _, Nat.zero_le _, rfl, rfl, H0⟩
  case round =>
    clear H0
    obtain ⟨k, A, hk, hA, rfl, rfl, HN⟩ := hrel
    by_cases hlt : k < s.size
    · have hi1 : (k : Int) < (s.size : Int) := by omega
      have hnx := HN.out
      rw [HAt.out k hlt, esc_cons] at hnx
      have hsl := HSl.out k (k + 1) (Nat.le_succ k) hlt
      rw [HO.out k hlt, show ((k + 1 : Nat) : Int) = (k : Int) + 1 by omega] at hsl
      have zA : (S A).size = A.length := S_size _
      have z1 : (S [s[k]]).size = 1 := S_size _
      have zbs : (⟨#[92]⟩ : ByteArray).size = 1 := rfl
      have hbs : (⟨#[92]⟩ : ByteArray) = S [92] := rfl
      have zA1 : (S A ++ (⟨#[92]⟩ : ByteArray)).size = A.length + 1 := by rw [hbs, S_app, S_size]; simp
      have gA : ¬ 9223372036854775807 < (S A).size + (S [s[k]]).size := by omega
      have gA1 : ¬ 9223372036854775807 < (S A).size + (⟨#[92]⟩ : ByteArray).size := by omega
      have gA2 : ¬ 9223372036854775807 < (S A ++ (⟨#[92]⟩ : ByteArray)).size + (S [s[k]]).size := by omega
      have HapA := Lib.hid (S_app A [s[k]])
      have HapB : Hid ((S A ++ (⟨#[92]⟩ : ByteArray)) ++ S [s[k]] = S (A ++ [92, s[k]])) := Lib.hid (by rw [hbs, S_app, S_app]; simp)
      have HNx := Lib.hid hnx
      clear hnx HN HAt HO HSl hbs
      by_cases h92 : s[k] = 92
      · have hm : marked s[k] = true := by rw [h92]; decide
        have HR : Hid (X = (A ++ [92, s[k]]) ++ esc (s.data.toList.drop (k + 1))) := Lib.hid (by rw [HNx.out, if_pos hm, List.append_assoc])
        have e92 : ((s[k].toNat : Int) == 92) = true := eq8 (b := 92) h92
        clear hm HNx h92
        go_wp2_with fail
        go_round
        case rel => exact ⟨k + 1, A ++ [92, s[k]], by omega, by simp only [List.length_append, List.length_cons, List.length_nil]; omega, by go_num, by rw [HapB.out], HR⟩
        case measure => simp [intOf]; omega
      · have e92 : ((s[k].toNat : Int) == 92) = false := ne8 (b := 92) h92
        by_cases h42 : s[k] = 42
        · have hm : marked s[k] = true := by rw [h42]; decide
          have HR : Hid (X = (A ++ [92, s[k]]) ++ esc (s.data.toList.drop (k + 1))) := Lib.hid (by rw [HNx.out, if_pos hm, List.append_assoc])
          have e42 : ((s[k].toNat : Int) == 42) = true := eq8 (b := 42) h42
          clear hm HNx h92 h42
          go_wp2_with fail
          go_round
          case rel => exact ⟨k + 1, A ++ [92, s[k]], by omega, by simp only [List.length_append, List.length_cons, List.length_nil]; omega, by go_num, by rw [HapB.out], HR⟩
          case measure => simp [intOf]; omega
        · have e42 : ((s[k].toNat : Int) == 42) = false := ne8 (b := 42) h42
          by_cases h91 : s[k] = 91
          · have hm : marked s[k] = true := by rw [h91]; decide
            have HR : Hid (X = (A ++ [92, s[k]]) ++ esc (s.data.toList.drop (k + 1))) := Lib.hid (by rw [HNx.out, if_pos hm, List.append_assoc])
            have e91 : ((s[k].toNat : Int) == 91) = true := eq8 (b := 91) h91
            clear hm HNx h92 h42 h91
            go_wp2_with fail
            go_round
            case rel => exact ⟨k + 1, A ++ [92, s[k]], by omega, by simp only [List.length_append, List.length_cons, List.length_nil]; omega, by go_num, by rw [HapB.out], HR⟩
            case measure => simp [intOf]; omega
          · have e91 : ((s[k].toNat : Int) == 91) = false := ne8 (b := 91) h91
            by_cases h93 : s[k] = 93
            · have hm : marked s[k] = true := by rw [h93]; decide
              have HR : Hid (X = (A ++ [92, s[k]]) ++ esc (s.data.toList.drop (k + 1))) := Lib.hid (by rw [HNx.out, if_pos hm, List.append_assoc])
              have e93 : ((s[k].toNat : Int) == 93) = true := eq8 (b := 93) h93
              clear hm HNx h92 h42 h91 h93
              go_wp2_with fail
              go_round
              case rel => exact ⟨k + 1, A ++ [92, s[k]], by omega, by simp only [List.length_append, List.length_cons, List.length_nil]; omega, by go_num, by rw [HapB.out], HR⟩
              case measure => simp [intOf]; omega
            · have e93 : ((s[k].toNat : Int) == 93) = false := ne8 (b := 93) h93
              by_cases h35 : s[k] = 35
              · have hm : marked s[k] = true := by rw [h35]; decide
                have HR : Hid (X = (A ++ [92, s[k]]) ++ esc (s.data.toList.drop (k + 1))) := Lib.hid (by rw [HNx.out, if_pos hm, List.append_assoc])
                have e35 : ((s[k].toNat : Int) == 35) = true := eq8 (b := 35) h35
                clear hm HNx h92 h42 h91 h93 h35
                go_wp2_with fail
                go_round
                case rel => exact ⟨k + 1, A ++ [92, s[k]], by omega, by simp only [List.length_append, List.length_cons, List.length_nil]; omega, by go_num, by rw [HapB.out], HR⟩
                case measure => simp [intOf]; omega
              · have e35 : ((s[k].toNat : Int) == 35) = false := ne8 (b := 35) h35
                by_cases h62 : s[k] = 62
                · have hm : marked s[k] = true := by rw [h62]; decide
                  have HR : Hid (X = (A ++ [92, s[k]]) ++ esc (s.data.toList.drop (k + 1))) := Lib.hid (by rw [HNx.out, if_pos hm, List.append_assoc])
                  have e62 : ((s[k].toNat : Int) == 62) = true := eq8 (b := 62) h62
                  clear hm HNx h92 h42 h91 h93 h35 h62
                  go_wp2_with fail
                  go_round
                  case rel => exact ⟨k + 1, A ++ [92, s[k]], by omega, by simp only [List.length_append, List.length_cons, List.length_nil]; omega, by go_num, by rw [HapB.out], HR⟩
                  case measure => simp [intOf]; omega
                · have e62 : ((s[k].toNat : Int) == 62) = false := ne8 (b := 62) h62
                  by_cases h45 : s[k] = 45
                  · have hm : marked s[k] = true := by rw [h45]; decide
                    have HR : Hid (X = (A ++ [92, s[k]]) ++ esc (s.data.toList.drop (k + 1))) := Lib.hid (by rw [HNx.out, if_pos hm, List.append_assoc])
                    have e45 : ((s[k].toNat : Int) == 45) = true := eq8 (b := 45) h45
                    clear hm HNx h92 h42 h91 h93 h35 h62 h45
                    go_wp2_with fail
                    go_round
                    case rel => exact ⟨k + 1, A ++ [92, s[k]], by omega, by simp only [List.length_append, List.length_cons, List.length_nil]; omega, by go_num, by rw [HapB.out], HR⟩
                    case measure => simp [intOf]; omega
                  · have e45 : ((s[k].toNat : Int) == 45) = false := ne8 (b := 45) h45
                    by_cases h96 : s[k] = 96
                    · have hm : marked s[k] = true := by rw [h96]; decide
                      have HR : Hid (X = (A ++ [92, s[k]]) ++ esc (s.data.toList.drop (k + 1))) := Lib.hid (by rw [HNx.out, if_pos hm, List.append_assoc])
                      have e96 : ((s[k].toNat : Int) == 96) = true := eq8 (b := 96) h96
                      clear hm HNx h92 h42 h91 h93 h35 h62 h45 h96
                      go_wp2_with fail
                      go_round
                      case rel => exact ⟨k + 1, A ++ [92, s[k]], by omega, by simp only [List.length_append, List.length_cons, List.length_nil]; omega, by go_num, by rw [HapB.out], HR⟩
                      case measure => simp [intOf]; omega
                    · have e96 : ((s[k].toNat : Int) == 96) = false := ne8 (b := 96) h96
                      have hm : ¬ marked s[k] = true := by rw [marked_no h92 h42 h91 h93 h35 h62 h45 h96]; simp
                      have HR : Hid (X = (A ++ [s[k]]) ++ esc (s.data.toList.drop (k + 1))) := Lib.hid (by rw [HNx.out, if_neg hm, List.append_assoc])
                      clear hm HNx h92 h42 h91 h93 h35 h62 h45 h96
                      go_wp2_with fail
                      go_round
                      case rel => exact ⟨k + 1, A ++ [s[k]], by omega, by simp only [List.length_append, List.length_cons, List.length_nil]; omega, by go_num, by rw [HapA.out], HR⟩
                      case measure => simp [intOf]; omega
    · have hi1 : ¬ (k : Int) < (s.size : Int) := by omega
      have HR : Hid (X = A) := Lib.hid (by rw [HN.out, drop_all s _ hlt]; simp [esc])
      clear HN HAt HO HSl
      go_wp2_with fail
      go_ret
      exact ⟨ret_str (by rw [HR.out]), rfl⟩
end Go.Proofs.YthpnbialpkkpgaaGreatDoor.Sp
namespace Go.Proofs.YthpnbialpkkpgaaGreatDoor.Sp
open Go.RowKit
open Go.Proofs.YthpnbialpkkpgaaGreatDoor.Tk (S S_of S_list S_size S_toList S_app ret_int eq8 ne8 at_data len_data)
open Go.Proofs.YthpnbialpkkpgaaGreatDoor.Cm (calls_at)
set_option linter.unusedVariables false
theorem hasRun_fuel (n : Nat) : ∀ (m f f' : Nat) (t : List UInt8), t.length ≤ m → t.length ≤ f → t.length ≤ f' → hasRun n f t = hasRun n f' t
  | m, f, f', [], _, _, _ => by rw [hasRun_nil, hasRun_nil]
  | 0, f, f', b :: r, h, _, _ => by simp at h
  | m + 1, f, f', b :: r, h, h1, h2 => by
    obtain ⟨g, rfl⟩ : ∃ g, f = g + 1 := ⟨f - 1, by simp at h1; omega⟩
    obtain ⟨g', rfl⟩ : ∃ g, f' = g + 1 := ⟨f' - 1, by simp at h2; omega⟩
    have hd := drop_lt (b := b) (r := r)
    have hl : (b :: r).length = r.length + 1 := rfl
    rw [hl] at h h1 h2 hd
    rw [hasRun_cons, hasRun_cons, hasRun_fuel n m g g' _ (by omega) (by omega) (by omega)]
def hrAt (l : List UInt8) (k n : Nat) : Bool := hasRun n (l.drop k).length (l.drop k)
theorem hrAt_step (s : ByteArray) (n k : Nat) (h : k < s.size) : hrAt s.data.toList k n = if ticks (s.data.toList.drop k) = n then true else hrAt s.data.toList (k + max (ticks (s.data.toList.drop k)) 1) n := by
  have hdd : s.data.toList.drop (k + max (ticks (s.data.toList.drop k)) 1) = (s.data.toList.drop k).drop (max (ticks (s.data.toList.drop k)) 1) := by rw [List.drop_drop]
  unfold hrAt
  rw [hdd]
  cases ht : s.data.toList.drop k with
  | nil => exfalso; rw [at_data s k h] at ht; cases ht
  | cons b r =>
    have hd := drop_lt (b := b) (r := r)
    have hl : (b :: r).length = r.length + 1 := rfl
    rw [hl] at hd ⊢
    rw [hasRun_cons, hasRun_fuel n r.length r.length _ _ (by omega) (by omega) (Nat.le_refl _)]
theorem rrun_any (s : ByteArray) (n : Nat) (hs : s.size ≤ 140737488355328) (hn : n ≤ 1000000000000000) (w : World) :
    Calls Tryz.prog 131 #[.string s, .int .i64 n] w fun e w' => e = .returned (.bool (hasRun n s.data.toList.length s.data.toList)) ∧ w = w' := by
  have H0 : Hid (hasRun n s.data.toList.length s.data.toList = hrAt s.data.toList 0 n) := Lib.hid (by unfold hrAt; rw [List.drop_zero])
  have HT := Lib.hid (fun (j : Nat) (hj : j ≤ s.size) w => rticks_any s (j : Int) hs (by omega) w)
  have HTk : Hid (∀ j : Nat, ticksAt s.data.toList (j : Int) = ticks (s.data.toList.drop j)) := Lib.hid (fun j => by unfold ticksAt; rw [if_neg (by omega)]; simp)
  have HSp := Lib.hid (hrAt_step s n)
  obtain ⟨X, hX⟩ : ∃ X, hasRun n s.data.toList.length s.data.toList = X := ⟨_, rfl⟩
  rw [hX] at H0
  rw [hX]
  clear hX
  go_enter Tryz.func131, Tryz.ntmps131
  go_wp2_with fail
  go_loop [5] (fun i => ∃ j : Nat, j ≤ s.size ∧ i = .int .i64 j ∧ Hid (X = hrAt s.data.toList j n)) (fun i => s.size - (intOf i).toNat)
  case atStart => exact ⟨0, Nat.zero_le _, rfl, H0⟩
  case round =>
    clear H0
    obtain ⟨j, hj2, rfl, HN⟩ := hrel
    by_cases hlt : j < s.size
    · have hnx := HN.out
      rw [HSp.out j hlt] at hnx
      have hi1 : (j : Int) < (s.size : Int) := by omega
      have HTj := Lib.hid (HT.out j hj2 w)
      rw [HTk.out] at HTj
      have hle := ticks_le (s.data.toList.drop j)
      rw [List.length_drop, len_data] at hle
      by_cases hk : ticks (s.data.toList.drop j) = n
      · have e3 : ((ticks (s.data.toList.drop j) : Int) == (n : Int)) = true := by rw [hk]; simp
        have HR : Hid (X = true) := Lib.hid (by rw [hnx, if_pos hk])
        clear hnx HN HT HTk hk HSp
        generalize ticks (s.data.toList.drop j) = tk at *
        go_wp2_with fail
        refine HTj.out.mono ?_
        rintro e w2 ⟨rfl, rfl⟩
        clear HTj
        go_wp2_with fail
        go_ret
        exact ⟨ret_bool HR.out.symm, rfl⟩
      · have e3 : ((ticks (s.data.toList.drop j) : Int) == (n : Int)) = false := by rw [beq_eq_false_iff_ne]; omega
        rw [if_neg hk] at hnx
        have hm : max (ticks (s.data.toList.drop j) : Int) 1 = ((max (ticks (s.data.toList.drop j)) 1 : Nat) : Int) := by omega
        have hm1 : 1 ≤ max (ticks (s.data.toList.drop j)) 1 := by omega
        have hm2 : j + max (ticks (s.data.toList.drop j)) 1 ≤ s.size := by omega
        have HR := Lib.hid hnx
        clear hnx HN HT HTk hk HSp
        generalize ticks (s.data.toList.drop j) = tk at *
        generalize max tk 1 = mk at *
        go_wp2_with fail
        refine HTj.out.mono ?_
        rintro e w2 ⟨rfl, rfl⟩
        clear HTj
        go_wp2_with fail
        go_round
        case rel => exact ⟨j + mk, hm2, by go_num, HR⟩
        case measure => simp [intOf]; omega
    · have hi1 : ¬ (j : Int) < (s.size : Int) := by omega
      have HR : Hid (X = false) := Lib.hid (by rw [HN.out]; unfold hrAt; rw [drop_all s j hlt]; rfl)
      clear HN HT HTk HSp
      go_wp2_with fail
      go_ret
      exact ⟨ret_bool HR.out.symm, rfl⟩
theorem rfence_any (s : ByteArray) (hs : s.size ≤ 1000000) (w : World) :
    Calls Tryz.prog 95 #[.string s] w fun e w' => e = .returned (.int .i64 (ticksOf s.data.toList : Nat)) ∧ w = w' := by
  have H0 : Hid (ticksOf s.data.toList = fence s.data.toList (s.size + 2 - 1) 1) := Lib.hid (by unfold ticksOf; rw [len_data]; rfl)
  have HRun := Lib.hid (fun (n : Nat) (hn : n ≤ s.size + 1) w => rrun_any s n (by omega) (by omega) w)
  have HF : Hid (∀ n, n ≤ s.size + 1 → fence s.data.toList (s.size + 2 - n) n = if hasRun n s.data.toList.length s.data.toList = true then fence s.data.toList (s.size + 2 - (n + 1)) (n + 1) else n) := Lib.hid (fun n hn => by
    rw [show s.size + 2 - n = (s.size + 2 - (n + 1)) + 1 by omega]
    rfl)
  have HLe : Hid (∀ n, 1 ≤ n → hasRun n s.data.toList.length s.data.toList = true → n ≤ s.size) := Lib.hid (fun n hn h => by
    have := hasRun_le n hn _ _ _ (Nat.le_refl _) h
    rwa [len_data] at this)
  obtain ⟨X, hX⟩ : ∃ X, ticksOf s.data.toList = X := ⟨_, rfl⟩
  rw [hX] at H0
  rw [hX]
  clear hX
  go_enter Tryz.func95, Tryz.ntmps95
  go_wp2_with fail
  go_loop [3] (fun i => ∃ n : Nat, 1 ≤ n ∧ n ≤ s.size + 1 ∧ i = .int .i64 n ∧ Hid (X = fence s.data.toList (s.size + 2 - n) n)) (fun i => s.size + 2 - (intOf i).toNat)
  case atStart => exact ⟨1, Nat.le_refl _, by omega, rfl, H0⟩
  case round =>
    clear H0
    obtain ⟨n, hn1, hn2, rfl, HN⟩ := hrel
    have hnx := HN.out
    rw [HF.out n hn2] at hnx
    have HC := Lib.hid (HRun.out n hn2 w)
    cases hr : hasRun n s.data.toList.length s.data.toList with
    | true =>
      have hle := HLe.out n hn1 hr
      rw [if_pos hr] at hnx
      rw [hr] at HC
      have HR := Lib.hid hnx
      clear hnx HN HF HRun HLe hr
      go_wp2_with fail
      refine HC.out.mono ?_
      rintro e w2 ⟨rfl, rfl⟩
      clear HC
      go_wp2_with fail
      go_round
      case rel => exact ⟨n + 1, by omega, by omega, by go_num, HR⟩
      case measure => simp [intOf]; omega
    | false =>
      rw [if_neg (by rw [hr]; simp)] at hnx
      rw [hr] at HC
      have HR := Lib.hid hnx
      clear hnx HN HF HRun HLe hr
      go_wp2_with fail
      refine HC.out.mono ?_
      rintro e w2 ⟨rfl, rfl⟩
      clear HC
      go_wp2_with fail
      go_ret
      exact ⟨ret_int (by rw [HR.out]), rfl⟩
end Go.Proofs.YthpnbialpkkpgaaGreatDoor.Sp
namespace Go.Proofs.YthpnbialpkkpgaaGreatDoor.Sp
open Go.RowKit
open Go.Proofs.YthpnbialpkkpgaaGreatDoor.Tk (S S_of S_list S_size S_toList S_app ret_int eq8 ne8 at_data len_data)
open Go.Proofs.YthpnbialpkkpgaaGreatDoor.Cm (calls_at)
set_option linter.unusedVariables false
theorem padded_yes {s : List UInt8} (h : s.head? = some 96 ∨ s.getLast? = some 96 ∨ (onlySp s = false ∧ s.head? = some 32 ∧ s.getLast? = some 32)) : padded s = 32 :: (s ++ [32]) := if_pos h
theorem padded_no {s : List UInt8} (h : ¬ (s.head? = some 96 ∨ s.getLast? = some 96 ∨ (onlySp s = false ∧ s.head? = some 32 ∧ s.getLast? = some 32))) : padded s = s := if_neg h
set_option maxHeartbeats 1600000 in
theorem rpadded_any (s : ByteArray) (hs : s.size ≤ 1000000) (w : World) :
    Calls Tryz.prog 96 #[.string s] w fun e w' => e = .returned (.string (S (padded s.data.toList))) ∧ w = w' := by
  have H0 : Hid (onlySp s.data.toList = (true && onlySp (s.data.toList.drop 0))) := Lib.hid (by rw [List.drop_zero]; rfl)
  have emS : (s.toList == ([] : List UInt8)) = decide (s.size = 0) := by
    rw [Lib.toList_data, Bool.eq_iff_iff, beq_iff_eq, decide_eq_true_iff, ← len_data]
    exact List.length_eq_zero_iff.symm
  have HAt := Lib.hid (only_at s)
  have HY : Hid (s.data.toList.head? = some 96 ∨ s.data.toList.getLast? = some 96 ∨ (onlySp s.data.toList = false ∧ s.data.toList.head? = some 32 ∧ s.data.toList.getLast? = some 32) → S (padded s.data.toList) = (⟨#[32]⟩ : ByteArray) ++ s ++ (⟨#[32]⟩ : ByteArray)) := Lib.hid (fun h => by
    rw [padded_yes h]
    conv => rhs; rw [← S_of s]
    rw [show (⟨#[32]⟩ : ByteArray) = S [32] from rfl, S_app, S_app]
    congr 1)
  have HNo : Hid (¬ (s.data.toList.head? = some 96 ∨ s.data.toList.getLast? = some 96 ∨ (onlySp s.data.toList = false ∧ s.data.toList.head? = some 32 ∧ s.data.toList.getLast? = some 32)) → S (padded s.data.toList) = s) := Lib.hid (fun h => by rw [padded_no h, S_of])
  have HHd := Lib.hid (head_data s)
  have HLs := Lib.hid (last_data s)
  have z32 : (⟨#[32]⟩ : ByteArray).size = 1 := rfl
  have y1 : ((⟨#[32]⟩ : ByteArray) ++ s).size = 1 + s.size := by rw [ByteArray.size_append, z32]
  have gg1 : ¬ 9223372036854775807 < (⟨#[32]⟩ : ByteArray).size + s.size := by omega
  have gg2 : ¬ 9223372036854775807 < ((⟨#[32]⟩ : ByteArray) ++ s).size + (⟨#[32]⟩ : ByteArray).size := by omega
  obtain ⟨oy, ho⟩ : ∃ oy, onlySp s.data.toList = oy := ⟨_, rfl⟩
  rw [ho] at H0 HY HNo
  obtain ⟨X, hX⟩ : ∃ X, S (padded s.data.toList) = X := ⟨_, rfl⟩
  rw [hX] at HY HNo
  rw [hX]
  clear ho hX
  go_enter Tryz.func96, Tryz.ntmps96
  go_wp2_with fail
  go_loop [3, 4] (fun o i => ∃ (k : Nat) (ok : Bool), k ≤ s.size ∧ i = .int .i64 k ∧ o = .bool ok ∧ Hid (oy = (ok && onlySp (s.data.toList.drop k)))) (fun _ i => s.size - (intOf i).toNat)
  case atStart => exact ⟨0, true, Nat.zero_le _, rfl, rfl, H0⟩
  case round =>
    clear H0
    obtain ⟨k, ok, hk, rfl, rfl, HN⟩ := hrel
    by_cases hlt : k < s.size
    · have hnx := HN.out
      rw [HAt.out k hlt] at hnx
      have hi1 : (k : Int) < (s.size : Int) := by omega
      clear HY HNo HHd HLs HAt emS
      cases ok with
      | false =>
        have HR : Hid (oy = (false && onlySp (s.data.toList.drop (k + 1)))) := Lib.hid (by rw [hnx]; simp)
        clear hnx HN
        go_wp2_with fail
        go_round
        case rel => exact ⟨k + 1, false, by omega, by go_num, rfl, HR⟩
        case measure => simp [intOf]; omega
      | true =>
        have HR : Hid (oy = ((s[k] == 32) && onlySp (s.data.toList.drop (k + 1)))) := Lib.hid (by rw [hnx]; simp)
        have e1 : ((s[k].toNat : Int) == 32) = (s[k] == 32) := by
          by_cases hc : s[k] = 32
          · rw [show (s[k] == 32) = true from by rw [hc]; rfl]; exact eq8 (b := 32) hc
          · rw [beq_eq_false_iff_ne.2 hc]; exact ne8 (b := 32) hc
        clear hnx HN
        go_wp2_with fail
        go_round
        case rel => exact ⟨k + 1, _, by omega, by go_num, rfl, HR⟩
        case measure => simp [intOf]; omega
    · obtain rfl : k = s.size := by omega
      have hoy : oy = ok := by rw [HN.out, drop_all s _ hlt]; simp [onlySp]
      subst hoy
      clear HN hlt HAt hk
      by_cases hz : s.size = 0
      · rw [decide_eq_true hz] at emS
        have hem : s.data.toList = [] := List.eq_nil_of_length_eq_zero (by rw [len_data, hz])
        have HR : Hid (X = s) := Lib.hid (HNo.out (by rw [hem]; simp))
        clear hem HY HNo HHd HLs hz
        go_wp2_with fail
        go_ret
        exact ⟨ret_str HR.out.symm, rfl⟩
      · rw [decide_eq_false hz] at emS
        have hpos : 0 < s.size := by omega
        have hl1 : s.size - 1 < s.size := by omega
        have hd := HHd.out hpos
        have ls := HLs.out hl1
        have hi0 : (0 : Int) ≤ (s.size : Int) - 1 := by omega
        have hi2 : (s.size : Int) - 1 < (s.size : Int) := by omega
        have hnat : ((s.size : Int) - 1).toNat = s.size - 1 := by omega
        clear hz HHd HLs
        by_cases a96 : s[0] = 96
        · have e1 : ((s[0].toNat : Int) == 96) = true := eq8 (b := 96) a96
          have HR : Hid (X = (⟨#[32]⟩ : ByteArray) ++ s ++ (⟨#[32]⟩ : ByteArray)) := Lib.hid (HY.out (Or.inl (by rw [hd, a96])))
          clear hd ls a96 HY HNo
          go_wp2_with fail
          go_ret
          exact ⟨ret_str HR.out.symm, rfl⟩
        · have e1 : ((s[0].toNat : Int) == 96) = false := ne8 (b := 96) a96
          by_cases l96 : s[s.size - 1] = 96
          · have e2 : ((s[s.size - 1].toNat : Int) == 96) = true := eq8 (b := 96) l96
            have HR : Hid (X = (⟨#[32]⟩ : ByteArray) ++ s ++ (⟨#[32]⟩ : ByteArray)) := Lib.hid (HY.out (Or.inr (Or.inl (by rw [ls, l96]))))
            clear hd ls a96 l96 HY HNo
            go_wp2_with fail
            go_ret
            exact ⟨ret_str HR.out.symm, rfl⟩
          · have e2 : ((s[s.size - 1].toNat : Int) == 96) = false := ne8 (b := 96) l96
            have hno : (oy = false ∧ s[0] = 32 ∧ s[s.size - 1] = 32) ∨ ¬ (oy = false ∧ s[0] = 32 ∧ s[s.size - 1] = 32) := Classical.em _
            rcases hno with hy | hn
            · have HR : Hid (X = (⟨#[32]⟩ : ByteArray) ++ s ++ (⟨#[32]⟩ : ByteArray)) := Lib.hid (HY.out (Or.inr (Or.inr ⟨hy.1, by rw [hd, hy.2.1], by rw [ls, hy.2.2]⟩)))
              have e3 : ((s[0].toNat : Int) == 32) = true := eq8 (b := 32) hy.2.1
              have e4 : ((s[s.size - 1].toNat : Int) == 32) = true := eq8 (b := 32) hy.2.2
              obtain ⟨rfl, _, _⟩ := hy
              clear hd ls a96 l96 HY HNo
              rename_i q1 q2
              clear q1 q2
              go_wp2_with fail
              go_ret
              exact ⟨ret_str HR.out.symm, rfl⟩
            · have HR : Hid (X = s) := Lib.hid (HNo.out (by
                rintro (h | h | ⟨h1, h2, h3⟩)
                · rw [hd] at h; exact a96 (Option.some.inj h)
                · rw [ls] at h; exact l96 (Option.some.inj h)
                · rw [hd] at h2; rw [ls] at h3; exact hn ⟨h1, Option.some.inj h2, Option.some.inj h3⟩))
              clear HY HNo hd ls a96 l96
              cases oy with
              | true =>
                clear hn
                go_wp2_with fail
                go_ret
                exact ⟨ret_str HR.out.symm, rfl⟩
              | false =>
                by_cases h32 : s[0] = 32
                · have e3 : ((s[0].toNat : Int) == 32) = true := eq8 (b := 32) h32
                  have e4 : ((s[s.size - 1].toNat : Int) == 32) = false := ne8 (b := 32) (fun h => hn ⟨rfl, h32, h⟩)
                  clear hn h32
                  go_wp2_with fail
                  go_ret
                  exact ⟨ret_str HR.out.symm, rfl⟩
                · have e3 : ((s[0].toNat : Int) == 32) = false := ne8 (b := 32) h32
                  clear hn h32
                  go_wp2_with fail
                  go_ret
                  exact ⟨ret_str HR.out.symm, rfl⟩
end Go.Proofs.YthpnbialpkkpgaaGreatDoor.Sp
namespace Go.Proofs.YthpnbialpkkpgaaGreatDoor.Sp
open Go.RowKit
open Go.Proofs.YthpnbialpkkpgaaGreatDoor.Tk (S S_of S_list S_size S_toList S_app ret_int eq8 ne8 at_data len_data)
open Go.Proofs.YthpnbialpkkpgaaGreatDoor.Cm (calls_at Keep alloc_new alloc_at cell_at lt_of_at)
set_option linter.unusedVariables false
theorem fence_le (s : List UInt8) : ∀ f n, fence s f n ≤ n + f
  | 0, n => Nat.le_refl _
  | f + 1, n => by
    have := fence_le s f (n + 1)
    show (if hasRun n s.length s = true then fence s f (n + 1) else n) ≤ _
    split <;> omega
theorem ticksOf_le (s : List UInt8) : ticksOf s ≤ s.length + 2 := by
  have := fence_le s (s.length + 1) 1
  unfold ticksOf
  omega
theorem padded_le (s : List UInt8) : (padded s).length ≤ s.length + 2 := by
  unfold padded
  split <;> simp
theorem wr1_eq (x : Sp) : wr1 x = if x.kind = 1 then esc x.s else if x.kind = 2 then List.replicate (ticksOf x.s) 96 ++ (padded x.s ++ List.replicate (ticksOf x.s) 96)
    else if x.kind = 3 then 42 :: (wrs x.kids ++ [42]) else if x.kind = 4 then 91 :: (wrs x.kids ++ (93 :: 40 :: (x.s ++ [41]))) else [] := by
  obtain ⟨k, s, kids⟩ := x
  rw [wr1]
  rfl
theorem wrs_cons (x : Sp) (r : List Sp) : wrs (x :: r) = wr1 x ++ wrs r := by rw [wrs]
mutual
theorem wr1_le : ∀ x : Sp, (wr1 x).length ≤ 6 * totOne x
  | .mk q s l => by
    have h := wrs_le l
    have h1 := esc_le s
    have h2 := ticksOf_le s
    have h3 := padded_le s
    rw [totOne_eq, wr1_eq]
    show (if q = 1 then esc s else if q = 2 then List.replicate (ticksOf s) 96 ++ (padded s ++ List.replicate (ticksOf s) 96)
      else if q = 3 then 42 :: (wrs l ++ [42]) else if q = 4 then 91 :: (wrs l ++ (93 :: 40 :: (s ++ [41]))) else []).length ≤ 6 * (1 + s.length + totAll l)
    split
    · omega
    · split
      · simp only [List.length_append, List.length_replicate]; omega
      · split
        · simp only [List.length_append, List.length_cons, List.length_nil]; omega
        · split
          · simp only [List.length_append, List.length_cons, List.length_nil]; omega
          · simp
theorem wrs_le : ∀ l : List Sp, (wrs l).length ≤ 6 * totAll l
  | [] => by simp [wrs]
  | x :: r => by
    have h1 := wr1_le x
    have h2 := wrs_le r
    rw [wrs_cons, totAll_cons, List.length_append]
    omega
end
def WrAns (w : World) (x : ByteArray) (e : Ending) (w' : World) : Prop := e = .returned (.string x) ∧ Below w.heap.size w w'
set_option maxHeartbeats 6400000 in
set_option maxRecDepth 100000 in
theorem rwrite_any (m : Nat) : ∀ (l : List Sp) (v : Value) (w : World), totAll l ≤ m → m ≤ 100000 → Tr w v l →
    Calls Tryz.prog 58 #[v] w (WrAns w (S (wrs l))) := by
  induction m using Nat.strongRecOn with
  | ind m ih =>
    intro l v w hm hM ht
    obtain ⟨ao, ca, rfl⟩ := ht.len
    have HT := Lib.hid ht
    have hlen := ht.short
    have HIH : Hid (∀ k (hk : k < l.length) (v' : Value) (w' : World), Tr w' v' l[k].kids → Calls Tryz.prog 58 #[v'] w' (WrAns w' (S (wrs l[k].kids)))) := Lib.hid (fun k hk v' w' ht' => by
      have h := totAll_kids (List.getElem_mem hk)
      exact ih (totAll l[k].kids) (Nat.lt_of_lt_of_le h hm) l[k].kids v' w' (Nat.le_refl _) (by omega) ht')
    have hpl : (wrs l).length ≤ 600000 := Nat.le_trans (wrs_le l) (by omega)
    have HSz : Hid (∀ k (hk : k < l.length), l[k].s.length ≤ 100000) := Lib.hid (fun k hk => by
      have h1 := totAll_mem (List.getElem_mem hk)
      rw [totOne_eq] at h1
      omega)
    have H0 : Hid (wrs l = [] ++ wrs (l.drop 0)) := Lib.hid (by rw [List.drop_zero]; rfl)
    obtain ⟨X, hX⟩ : ∃ X, wrs l = X := ⟨_, rfl⟩
    rw [hX] at H0 hpl
    rw [hX]
    clear ih ht hm hX hM
    go_enter Tryz.func58, Tryz.ntmps58
    go_wp2_with fail
    go_loopw [3, 9] (fun s i wr => ∃ (k : Nat) (p : List UInt8), k ≤ l.length ∧ i = .int .i64 k ∧ s = .string (S p) ∧ Hid (Below w.heap.size w wr) ∧ Hid (X = p ++ wrs (l.drop k))) (fun _ i _ => l.length - (intOf i).toNat)
    case atStart => exact ⟨0, [], Nat.zero_le _, rfl, rfl, Lib.hid (Below.refl _ _), H0⟩
    case round =>
      clear H0
      obtain ⟨k, p, hk, rfl, rfl, HB, HN⟩ := hrel
      by_cases hlt : k < l.length
      · have hnx := HN.out
        rw [drop_cons l k hlt, wrs_cons, wr1_eq] at hnx
        have hi1 : (k : Int) < (l.length : Int) := by omega
        obtain ⟨b, o, ak, ck, rfl, hb, hC⟩ := (HT.out.below HB.out).at k hlt
        have c0 := hC.kind
        have c1 := hC.s
        have c2 := hC.kids
        have HTk := Lib.hid hC.tr
        have HI2 := Lib.hid (HIH.out k hlt)
        have hs := HSz.out k hlt
        have hall := congrArg List.length hnx
        simp only [List.length_append] at hall
        have HQ := Lib.hid hnx
        clear hnx HN hC HT HIH HSz
        generalize l[k].kids = kids at *
        generalize l[k].kind = z at *
        generalize l[k].s = s at *
        go_upto_region 6 with fail
        have HC1 := Lib.hid (alloc_new wr (.cells #[.int .i64 z, .string (S s), .slice ak kids.length ck] 82))
        have hb1 : Below wr.heap.size wr (wr.alloc (.cells #[.int .i64 z, .string (S s), .slice ak kids.length ck] 82)) := (Below.refl wr.heap.size wr).alloc (Nat.le_refl _) _
        have HB1 := Lib.hid (HB.out.trans (hb1.mono HB.out.size))
        have HT1 := Lib.hid (HTk.out.below hb1)
        clear hb1 HTk HB c0 c1 c2
        generalize wr.alloc (.cells #[.int .i64 z, .string (S s), .slice ak kids.length ck] 82) = w1 at *
        have k0 : w1.cell? ⟨wr.heap.size, 0, none⟩ = some (.int .i64 z) := cell_at HC1.out 0
        have k1 : w1.cell? ⟨wr.heap.size, 1, none⟩ = some (.string (S s)) := cell_at HC1.out 1
        have k2 : w1.cell? ⟨wr.heap.size, 2, none⟩ = some (.slice ak kids.length ck) := cell_at HC1.out 2
        clear HC1
        have zp : (S p).size = p.length := S_size _
        have zs : (S s).size = s.length := S_size _
        by_cases q1 : z = 1
        · as_aux_lemma =>
          have f1 : (z == 1) = true := by rw [q1]; rfl
          have HR : Hid (X = (p ++ esc s) ++ wrs (l.drop (k + 1))) := Lib.hid (by rw [HQ.out, if_pos q1, List.append_assoc])
          rw [if_pos q1] at hall
          have HE := Lib.hid (resc_any (S s) (by rw [zs]; omega) w1)
          rw [S_list] at HE
          generalize esc s = y at *
          have zy : (S y).size = y.length := S_size _
          have gg : ¬ 9223372036854775807 < (S p).size + (S y).size := by omega
          have hap := Lib.hid (S_app p y)
          clear HQ hall q1 HI2 HT1
          go_wp2_with fail
          refine HE.out.mono ?_
          rintro e w2 ⟨rfl, rfl⟩
          clear HE
          go_wp2_with fail
          go_roundw
          case rel => exact ⟨k + 1, p ++ y, by omega, by go_num, by rw [hap.out], HB1, HR⟩
          case measure => simp [intOf] <;> omega
        · have f1 : (z == 1) = false := by rw [beq_eq_false_iff_ne]; exact q1
          rw [if_neg q1] at hall
          by_cases q2 : z = 2
          · as_aux_lemma =>
            have f2 : (z == 2) = true := by rw [q2]; rfl
            have HR : Hid (X = (((p ++ List.replicate (ticksOf s) 96) ++ padded s) ++ List.replicate (ticksOf s) 96) ++ wrs (l.drop (k + 1))) := Lib.hid (by rw [HQ.out, if_neg q1, if_pos q2]; simp)
            rw [if_pos q2] at hall
            simp only [List.length_append, List.length_replicate] at hall
            have HF := Lib.hid (rfence_any (S s) (by rw [zs]; omega) w1)
            have HP := Lib.hid (rpadded_any (S s) (by rw [zs]; omega) w1)
            rw [S_list] at HF HP
            generalize padded s = y at *
            generalize ticksOf s = tk at *
            have zy : (S y).size = y.length := S_size _
            clear HQ q1 q2 HI2 HT1
            go_wp2_with fail
            refine HF.out.mono ?_
            rintro e w2 ⟨rfl, rfl⟩
            clear HF
            go_wp2_with fail
            go_loop [6, 30] (fun fv jv => ∃ j : Nat, j ≤ tk ∧ jv = .int .i64 j ∧ fv = .string (S (List.replicate j 96))) (fun _ jv => tk - (intOf jv).toNat)
            case atStart => exact ⟨0, Nat.zero_le _, rfl, rfl⟩
            case round =>
              obtain ⟨j, hj, rfl, rfl⟩ := hrel
              have zj : (S (List.replicate j (96 : UInt8))).size = j := by rw [S_size, List.length_replicate]
              by_cases hjt : j < tk
              · have hi2 : (j : Int) < (tk : Int) := by omega
                have z96 : (⟨#[96]⟩ : ByteArray).size = 1 := rfl
                have gg : ¬ 9223372036854775807 < (S (List.replicate j (96 : UInt8))).size + (⟨#[96]⟩ : ByteArray).size := by omega
                have Hap : Hid (S (List.replicate j (96 : UInt8)) ++ (⟨#[96]⟩ : ByteArray) = S (List.replicate (j + 1) 96)) := Lib.hid (by
                  rw [show (⟨#[96]⟩ : ByteArray) = S [96] from rfl, S_app, ← List.replicate_succ'])
                clear hall HR HP
                go_wp2_with fail
                go_round
                case rel => exact ⟨j + 1, by omega, by go_num, by rw [Hap.out]⟩
                case measure => simp [intOf]; omega
              · obtain rfl : j = tk := by omega
                have hi2 : ¬ (j : Int) < (j : Int) := by omega
                generalize hrp : List.replicate j (96 : UInt8) = f at *
                have zf : f.length = j := by rw [← hrp, List.length_replicate]
                have y1 : (S p ++ S f).size = p.length + j := by rw [ByteArray.size_append, zp, zj]
                have y2 : (S p ++ S f ++ S y).size = p.length + j + y.length := by rw [ByteArray.size_append, y1, zy]
                have gg1 : ¬ 9223372036854775807 < (S p).size + (S f).size := by omega
                have gg2 : ¬ 9223372036854775807 < (S p ++ S f).size + (S y).size := by omega
                have gg3 : ¬ 9223372036854775807 < (S p ++ S f ++ S y).size + (S f).size := by omega
                have hap : Hid (S p ++ S f ++ S y ++ S f = S (((p ++ f) ++ y) ++ f)) := Lib.hid (by rw [S_app, S_app, S_app])
                clear hall hj hjt
                go_wp2_with fail
                refine HP.out.mono ?_
                rintro e w2 ⟨rfl, rfl⟩
                clear HP
                go_wp2_with fail
                go_roundw
                case rel => exact ⟨k + 1, ((p ++ f) ++ y) ++ f, by omega, by go_num, by rw [hap.out], HB1, HR⟩
                case measure => simp [intOf] <;> omega
          · have f2 : (z == 2) = false := by rw [beq_eq_false_iff_ne]; exact q2
            rw [if_neg q2] at hall
            by_cases q3 : z = 3
            · as_aux_lemma =>
              have f3 : (z == 3) = true := by rw [q3]; rfl
              have HR : Hid (X = (p ++ (42 :: (wrs kids ++ [42]))) ++ wrs (l.drop (k + 1))) := Lib.hid (by rw [HQ.out, if_neg q1, if_neg q2, if_pos q3]; simp)
              rw [if_pos q3] at hall
              simp only [List.length_append, List.length_cons, List.length_nil] at hall
              have HW := Lib.hid (HI2.out _ w1 HT1.out)
              generalize wrs kids = y at *
              have zy : (S y).size = y.length := S_size _
              have z42 : (⟨#[42]⟩ : ByteArray).size = 1 := rfl
              have y1 : (S p ++ (⟨#[42]⟩ : ByteArray)).size = p.length + 1 := by rw [ByteArray.size_append, zp, z42]
              have y2 : (S p ++ (⟨#[42]⟩ : ByteArray) ++ S y).size = p.length + 1 + y.length := by rw [ByteArray.size_append, y1, zy]
              have gg1 : ¬ 9223372036854775807 < (S p).size + (⟨#[42]⟩ : ByteArray).size := by omega
              have gg2 : ¬ 9223372036854775807 < (S p ++ (⟨#[42]⟩ : ByteArray)).size + (S y).size := by omega
              have gg3 : ¬ 9223372036854775807 < (S p ++ (⟨#[42]⟩ : ByteArray) ++ S y).size + (⟨#[42]⟩ : ByteArray).size := by omega
              have hap : Hid (S p ++ (⟨#[42]⟩ : ByteArray) ++ S y ++ (⟨#[42]⟩ : ByteArray) = S (p ++ (42 :: (y ++ [42])))) := Lib.hid (by
                rw [show (⟨#[42]⟩ : ByteArray) = S [42] from rfl, S_app, S_app, S_app]
                simp)
              clear HQ hall q1 q2 q3 HI2 HT1
              go_wp2_with fail
              refine HW.out.mono ?_
              rintro e w2 ⟨rfl, b2⟩
              have HB2 := Lib.hid (HB1.out.trans (b2.mono HB1.out.size))
              clear HW b2
              go_wp2_with fail
              go_roundw
              case rel => exact ⟨k + 1, p ++ (42 :: (y ++ [42])), by omega, by go_num, by rw [hap.out], HB2, HR⟩
              case measure => simp [intOf] <;> omega
            · have f3 : (z == 3) = false := by rw [beq_eq_false_iff_ne]; exact q3
              rw [if_neg q3] at hall
              by_cases q4 : z = 4
              · as_aux_lemma =>
                have f4 : (z == 4) = true := by rw [q4]; rfl
                have HR : Hid (X = (p ++ (91 :: (wrs kids ++ (93 :: 40 :: (s ++ [41]))))) ++ wrs (l.drop (k + 1))) := Lib.hid (by rw [HQ.out, if_neg q1, if_neg q2, if_neg q3, if_pos q4]; simp)
                rw [if_pos q4] at hall
                simp only [List.length_append, List.length_cons, List.length_nil] at hall
                have HW := Lib.hid (fun d os => Calls.regrown_of (HI2.out _ (Go.Sort.grow (redrawn w1 d) os) (HT1.out.below (below_regrown w1 d os))))
                generalize wrs kids = y at *
                have zy : (S y).size = y.length := S_size _
                have z91 : (⟨#[91]⟩ : ByteArray).size = 1 := rfl
                have z93 : (⟨#[93, 40]⟩ : ByteArray).size = 2 := rfl
                have z41 : (⟨#[41]⟩ : ByteArray).size = 1 := rfl
                have y1 : (S p ++ (⟨#[91]⟩ : ByteArray)).size = p.length + 1 := by rw [ByteArray.size_append, zp, z91]
                have y2 : (S p ++ (⟨#[91]⟩ : ByteArray) ++ S y).size = p.length + 1 + y.length := by rw [ByteArray.size_append, y1, zy]
                have y3 : (S p ++ (⟨#[91]⟩ : ByteArray) ++ S y ++ (⟨#[93, 40]⟩ : ByteArray)).size = p.length + 3 + y.length := by rw [ByteArray.size_append, y2, z93]; omega
                have y4 : (S p ++ (⟨#[91]⟩ : ByteArray) ++ S y ++ (⟨#[93, 40]⟩ : ByteArray) ++ S s).size = p.length + 3 + y.length + s.length := by rw [ByteArray.size_append, y3, zs]
                have gg1 : ¬ 9223372036854775807 < (S p).size + (⟨#[91]⟩ : ByteArray).size := by omega
                have gg2 : ¬ 9223372036854775807 < (S p ++ (⟨#[91]⟩ : ByteArray)).size + (S y).size := by omega
                have gg3 : ¬ 9223372036854775807 < (S p ++ (⟨#[91]⟩ : ByteArray) ++ S y).size + (⟨#[93, 40]⟩ : ByteArray).size := by omega
                have gg4 : ¬ 9223372036854775807 < (S p ++ (⟨#[91]⟩ : ByteArray) ++ S y ++ (⟨#[93, 40]⟩ : ByteArray)).size + (S s).size := by omega
                have gg5 : ¬ 9223372036854775807 < (S p ++ (⟨#[91]⟩ : ByteArray) ++ S y ++ (⟨#[93, 40]⟩ : ByteArray) ++ S s).size + (⟨#[41]⟩ : ByteArray).size := by omega
                have hap : Hid (S p ++ (⟨#[91]⟩ : ByteArray) ++ S y ++ (⟨#[93, 40]⟩ : ByteArray) ++ S s ++ (⟨#[41]⟩ : ByteArray) = S (p ++ (91 :: (y ++ (93 :: 40 :: (s ++ [41])))))) := Lib.hid (by
                  rw [show (⟨#[91]⟩ : ByteArray) = S [91] from rfl, show (⟨#[93, 40]⟩ : ByteArray) = S [93, 40] from rfl, show (⟨#[41]⟩ : ByteArray) = S [41] from rfl, S_app, S_app, S_app, S_app, S_app]
                  simp)
                clear HQ hall q1 q2 q3 q4 HI2 HT1
                go_upto_region 19 with fail
                have m1 := fun d os => cell_regrown (w := w1) k1 d os
                have m2 := fun d os => cell_regrown (w := w1) k2 d os
                refine wp_region_quiet_below (by kernel_rfl) (by kernel_rfl) ?_
                repeat (go_big_quiet_step (first | (go_at_call 58; exact HW.out _ _)))
                refine wpQuiet_nil ?_
                intro w5 hw5
                obtain ⟨⟨dq, osq⟩, hw5'⟩ := hw5
                subst hw5'
                have HB5 := Lib.hid (HB1.out.trans ((below_regrown w1 dq osq).mono HB1.out.size))
                go_wp2_with fail
                go_roundw
                case rel => exact ⟨k + 1, p ++ (91 :: (y ++ (93 :: 40 :: (s ++ [41])))), by omega, by go_num, by rw [hap.out], HB5, HR⟩
                case measure => simp [intOf] <;> omega
              · as_aux_lemma =>
                have f4 : (z == 4) = false := by rw [beq_eq_false_iff_ne]; exact q4
                have HR : Hid (X = p ++ wrs (l.drop (k + 1))) := Lib.hid (by rw [HQ.out, if_neg q1, if_neg q2, if_neg q3, if_neg q4]; rfl)
                clear HQ hall q1 q2 q3 q4 HI2 HT1
                go_wp2_with fail
                go_roundw
                case rel => exact ⟨k + 1, p, by omega, by go_num, rfl, HB1, HR⟩
                case measure => simp [intOf] <;> omega
      · have hi1 : ¬ (k : Int) < (l.length : Int) := by omega
        have HR : Hid (X = p) := Lib.hid (by rw [HN.out, List.drop_eq_nil_of_le (by omega)]; simp [wrs])
        clear HN HT HIH HSz
        go_wp2_with fail
        go_ret
        exact ⟨ret_str (by rw [HR.out]), HB.out⟩
end Go.Proofs.YthpnbialpkkpgaaGreatDoor.Sp
namespace Go.Proofs.YthpnbialpkkpgaaGreatDoor.Sp
open Go.RowKit
open Go.Proofs.YthpnbialpkkpgaaGreatDoor.Tk (S S_of S_list S_size S_toList S_app ret_int eq8 ne8 at_data len_data)
open Go.Proofs.YthpnbialpkkpgaaGreatDoor.Cm (calls_at)
set_option linter.unusedVariables false
def wrB (l : List Sp) : ByteArray := S (if rtB l = true then wrs l else [])
def erB (l : List Sp) : Int := if rtB l = true then 0 else 6
def TwoAns (w : World) (x : ByteArray) (n : Int) (e : Ending) (w' : World) : Prop := e = .returned (.tuple #[.string x, .int .i64 n]) ∧ Below w.heap.size w w'
end Go.Proofs.YthpnbialpkkpgaaGreatDoor.Sp
