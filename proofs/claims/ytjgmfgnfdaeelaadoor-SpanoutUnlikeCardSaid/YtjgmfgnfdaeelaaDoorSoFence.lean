/-
  CONTRACTS of the document's run, Fence (emendationref09).
-/
import Derived.Test.YtjgmfgnfdaeelaaDoorSiTicks
import Derived.Test.YtjgmfgnfdaeelaaDoorSpBack
namespace Go.Proofs.YtjgmfgnfdaeelaaDoor.Sp
open Go.RowKit
open Go.Proofs.YtjgmfgnfdaeelaaDoor.Tk (S S_of S_list S_size S_toList S_app ret_int eq8 ne8 at_data len_data)
open Go.Proofs.YtjgmfgnfdaeelaaDoor.Cm (calls_at)
set_option linter.unusedVariables false

theorem hasRun_fuel (n : Nat) : ∀ (m f f' : Nat) (t : List UInt8), t.length ≤ m → t.length ≤ f → t.length ≤ f' → hasRun n f t = hasRun n f' t
  | m, f, f', [], _, _, _ => by rw [hasRun_nil, hasRun_nil]
  | 0, f, f', b :: r, h, _, _ => by simp at h
  | m + 1, f, f', b :: r, h, h1, h2 => by
    obtain ⟨g, rfl⟩ : ∃ g, f = g + 1 := ⟨f - 1, by simp at h1; omega⟩
    obtain ⟨g', rfl⟩ : ∃ g, f' = g + 1 := ⟨f' - 1, by simp at h2; omega⟩
    have hd := drop_lt (b := b) (r := r)
    have hl : (b :: r).length = r.length + 1 := rfl
    rw [hl] at h h1 h2 hd
    rw [hasRun_cons, hasRun_cons, hasRun_fuel n m g g' _ (by omega) (by omega) (by omega)]
def hrAt (l : List UInt8) (k n : Nat) : Bool := hasRun n (l.drop k).length (l.drop k)
theorem hrAt_step (s : ByteArray) (n k : Nat) (h : k < s.size) : hrAt s.data.toList k n = if ticks (s.data.toList.drop k) = n then true else hrAt s.data.toList (k + max (ticks (s.data.toList.drop k)) 1) n := by
  have hdd : s.data.toList.drop (k + max (ticks (s.data.toList.drop k)) 1) = (s.data.toList.drop k).drop (max (ticks (s.data.toList.drop k)) 1) := by rw [List.drop_drop]
  unfold hrAt
  rw [hdd]
  cases ht : s.data.toList.drop k with
  | nil => exfalso; rw [at_data s k h] at ht; cases ht
  | cons b r =>
    have hd := drop_lt (b := b) (r := r)
    have hl : (b :: r).length = r.length + 1 := rfl
    rw [hl] at hd ⊢
    rw [hasRun_cons, hasRun_fuel n r.length r.length _ _ (by omega) (by omega) (Nat.le_refl _)]

theorem rrun_any (s : ByteArray) (n : Nat) (hs : s.size ≤ 140737488355328) (hn : n ≤ 1000000000000000) (w : World) :
    Calls Tryd.prog 24 #[.string s, .int .i64 n] w fun e w' => e = .returned (.bool (hasRun n s.data.toList.length s.data.toList)) ∧ w = w' := by
  have H0 : Hid (hasRun n s.data.toList.length s.data.toList = hrAt s.data.toList 0 n) := Lib.hid (by unfold hrAt; rw [List.drop_zero])
  have HT := Lib.hid (fun (j : Nat) (hj : j ≤ s.size) w => rticks_any s (j : Int) hs (by omega) w)
  have HTk : Hid (∀ j : Nat, ticksAt s.data.toList (j : Int) = ticks (s.data.toList.drop j)) := Lib.hid (fun j => by unfold ticksAt; rw [if_neg (by omega)]; simp)
  have HSp := Lib.hid (hrAt_step s n)
  obtain ⟨X, hX⟩ : ∃ X, hasRun n s.data.toList.length s.data.toList = X := ⟨_, rfl⟩
  rw [hX] at H0
  rw [hX]
  clear hX
  go_enter Tryd.func24, Tryd.ntmps24
  go_wp2_with fail
  go_loop [5] (fun i => ∃ j : Nat, j ≤ s.size ∧ i = .int .i64 j ∧ Hid (X = hrAt s.data.toList j n)) (fun i => s.size - (intOf i).toNat)
  case atStart => exact ⟨0, Nat.zero_le _, rfl, H0⟩
  case round =>
    clear H0
    obtain ⟨j, hj2, rfl, HN⟩ := hrel
    by_cases hlt : j < s.size
    · have hnx := HN.out
      rw [HSp.out j hlt] at hnx
      have hi1 : (j : Int) < (s.size : Int) := by omega
      have HTj := Lib.hid (HT.out j hj2 w)
      rw [HTk.out] at HTj
      have hle := ticks_le (s.data.toList.drop j)
      rw [List.length_drop, len_data] at hle
      by_cases hk : ticks (s.data.toList.drop j) = n
      · have e3 : ((ticks (s.data.toList.drop j) : Int) == (n : Int)) = true := by rw [hk]; simp
        have HR : Hid (X = true) := Lib.hid (by rw [hnx, if_pos hk])
        clear hnx HN HT HTk hk HSp
        generalize ticks (s.data.toList.drop j) = tk at *
        go_wp2_with fail
        refine HTj.out.mono ?_
        rintro e w2 ⟨rfl, rfl⟩
        clear HTj
        go_wp2_with fail
        go_ret
        exact ⟨ret_bool HR.out.symm, rfl⟩
      · have e3 : ((ticks (s.data.toList.drop j) : Int) == (n : Int)) = false := by rw [beq_eq_false_iff_ne]; omega
        rw [if_neg hk] at hnx
        have hm : max (ticks (s.data.toList.drop j) : Int) 1 = ((max (ticks (s.data.toList.drop j)) 1 : Nat) : Int) := by omega
        have hm1 : 1 ≤ max (ticks (s.data.toList.drop j)) 1 := by omega
        have hm2 : j + max (ticks (s.data.toList.drop j)) 1 ≤ s.size := by omega
        have HR := Lib.hid hnx
        clear hnx HN HT HTk hk HSp
        generalize ticks (s.data.toList.drop j) = tk at *
        generalize max tk 1 = mk at *
        go_wp2_with fail
        refine HTj.out.mono ?_
        rintro e w2 ⟨rfl, rfl⟩
        clear HTj
        go_wp2_with fail
        go_round
        case rel => exact ⟨j + mk, hm2, by go_num, HR⟩
        case measure => simp [intOf]; omega
    · have hi1 : ¬ (j : Int) < (s.size : Int) := by omega
      have HR : Hid (X = false) := Lib.hid (by rw [HN.out]; unfold hrAt; rw [drop_all s j hlt]; rfl)
      clear HN HT HTk HSp
      go_wp2_with fail
      go_ret
      exact ⟨ret_bool HR.out.symm, rfl⟩

theorem rfence_any (s : ByteArray) (hs : s.size ≤ 1000000) (w : World) :
    Calls Tryd.prog 13 #[.string s] w fun e w' => e = .returned (.int .i64 (ticksOf s.data.toList : Nat)) ∧ w = w' := by
  have H0 : Hid (ticksOf s.data.toList = fence s.data.toList (s.size + 2 - 1) 1) := Lib.hid (by unfold ticksOf; rw [len_data]; rfl)
  have HRun := Lib.hid (fun (n : Nat) (hn : n ≤ s.size + 1) w => rrun_any s n (by omega) (by omega) w)
  have HF : Hid (∀ n, n ≤ s.size + 1 → fence s.data.toList (s.size + 2 - n) n = if hasRun n s.data.toList.length s.data.toList = true then fence s.data.toList (s.size + 2 - (n + 1)) (n + 1) else n) := Lib.hid (fun n hn => by
    rw [show s.size + 2 - n = (s.size + 2 - (n + 1)) + 1 by omega]
    rfl)
  have HLe : Hid (∀ n, 1 ≤ n → hasRun n s.data.toList.length s.data.toList = true → n ≤ s.size) := Lib.hid (fun n hn h => by
    have := hasRun_le n hn _ _ _ (Nat.le_refl _) h
    rwa [len_data] at this)
  obtain ⟨X, hX⟩ : ∃ X, ticksOf s.data.toList = X := ⟨_, rfl⟩
  rw [hX] at H0
  rw [hX]
  clear hX
  go_enter Tryd.func13, Tryd.ntmps13
  go_wp2_with fail
  go_loop [3] (fun i => ∃ n : Nat, 1 ≤ n ∧ n ≤ s.size + 1 ∧ i = .int .i64 n ∧ Hid (X = fence s.data.toList (s.size + 2 - n) n)) (fun i => s.size + 2 - (intOf i).toNat)
  case atStart => exact ⟨1, Nat.le_refl _, by omega, rfl, H0⟩
  case round =>
    clear H0
    obtain ⟨n, hn1, hn2, rfl, HN⟩ := hrel
    have hnx := HN.out
    rw [HF.out n hn2] at hnx
    have HC := Lib.hid (HRun.out n hn2 w)
    cases hr : hasRun n s.data.toList.length s.data.toList with
    | true =>
      have hle := HLe.out n hn1 hr
      rw [if_pos hr] at hnx
      rw [hr] at HC
      have HR := Lib.hid hnx
      clear hnx HN HF HRun HLe hr
      go_wp2_with fail
      refine HC.out.mono ?_
      rintro e w2 ⟨rfl, rfl⟩
      clear HC
      go_wp2_with fail
      go_round
      case rel => exact ⟨n + 1, by omega, by omega, by go_num, HR⟩
      case measure => simp [intOf]; omega
    | false =>
      rw [if_neg (by rw [hr]; simp)] at hnx
      rw [hr] at HC
      have HR := Lib.hid hnx
      clear hnx HN HF HRun HLe hr
      go_wp2_with fail
      refine HC.out.mono ?_
      rintro e w2 ⟨rfl, rfl⟩
      clear HC
      go_wp2_with fail
      go_ret
      exact ⟨ret_int (by rw [HR.out]), rfl⟩

end Go.Proofs.YtjgmfgnfdaeelaaDoor.Sp
