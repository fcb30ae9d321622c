/-
  CONTRACTS of the document's Next (emendationref01): it answers the plain function.
-/
import Derived.Test.YtjgmfgnfdaeelaaDoorUtfNext
namespace Go.Proofs.YtjgmfgnfdaeelaaDoor.Utf
open Go.RowKit
set_option linter.unusedVariables false

set_option maxHeartbeats 400000 in
theorem more_any (b : Int) (w : World) :
    Calls Tryd.prog 85 #[.int .u8 b] w fun e w' => e = .returned (.bool (decide (128 ≤ b) && decide (b ≤ 191))) ∧ w = w' := by
  go_enter Tryd.func85, Tryd.ntmps85
  go_wp2
  all_goals go_ret
  all_goals refine ⟨ret_bool ?_, rfl⟩
  all_goals first | rfl | (simp; omega)

set_option maxRecDepth 100000 in
set_option maxHeartbeats 400000 in
theorem rnext_out (s : ByteArray) (a : Int) (hs : s.size ≤ 140737488355328) (h : a < 0 ∨ s.size ≤ a) (w : World) :
    Calls Tryd.prog 77 #[.string s, .int .i64 a] w fun e w' => e = .returned (.tuple #[.int .i64 0, .int .i64 0]) ∧ w = w' := by
  go_enter Tryd.func77, Tryd.ntmps77
  rcases h with h | h
  · go_wp2_with fail
    go_ret2
    exact ⟨rfl, rfl⟩
  · by_cases h1 : a < 0
    · go_wp2_with fail
      go_ret2
      exact ⟨rfl, rfl⟩
    · go_wp2_with fail
      go_ret2
      exact ⟨rfl, rfl⟩

theorem acc_num' (a x y : Nat) (e : y = x) (h1 : 128 ≤ x) (h2 : x ≤ 191) : (a : Int) * 64 + (x : Int) - 128 = ((a * 64 + (y - 128) : Nat) : Int) := by omega
theorem fit2 (a : Int) : fitsI a ((2 : Nat) : Int) = true := by
  unfold fitsI; rw [if_neg (by decide), if_neg (by decide)]
theorem fit3_iff (a : Int) : fitsI a ((3 : Nat) : Int) = (decide (2048 ≤ a) && (decide (a < 55296) || decide (57343 < a))) := by
  unfold fitsI; rw [if_pos (by decide)]
theorem fit4_iff (a : Int) : fitsI a ((4 : Nat) : Int) = (decide (65536 ≤ a) && decide (a ≤ 1114111)) := by
  unfold fitsI; rw [if_neg (by decide), if_pos (by decide)]
theorem fit3 (a : Int) (h : fitsI a ((3 : Nat) : Int) = true) : (2048 ≤ a ∧ a < 55296) ∨ 57343 < a := by
  rw [fit3_iff, Bool.and_eq_true, Bool.or_eq_true, decide_eq_true_eq, decide_eq_true_eq, decide_eq_true_eq] at h; omega
theorem unfit3 (a : Int) (h : fitsI a ((3 : Nat) : Int) = false) : a < 2048 ∨ (55296 ≤ a ∧ a ≤ 57343) := by
  rw [fit3_iff, Bool.and_eq_false_iff, Bool.or_eq_false_iff, decide_eq_false_iff_not, decide_eq_false_iff_not, decide_eq_false_iff_not] at h; omega
theorem fit4 (a : Int) (h : fitsI a ((4 : Nat) : Int) = true) : 65536 ≤ a ∧ a ≤ 1114111 := by
  rw [fit4_iff, Bool.and_eq_true, decide_eq_true_eq, decide_eq_true_eq] at h; omega
theorem unfit4 (a : Int) (h : fitsI a ((4 : Nat) : Int) = false) : a < 65536 ∨ 1114111 < a := by
  rw [fit4_iff, Bool.and_eq_false_iff, decide_eq_false_iff_not, decide_eq_false_iff_not] at h; omega
set_option maxRecDepth 100000 in
set_option maxHeartbeats 1000000 in
theorem rnext_2 (s : ByteArray) (k : Nat) (hs : s.size ≤ 140737488355328) (hk : k < s.size) (h1 : 194 ≤ bt s k) (h2 : bt s k ≤ 223) (w : World) :
    Calls Tryd.prog 77 #[.string s, .int .i64 k] w fun e w' => e = .returned (.tuple #[.int .i64 (nxt s k).1, .int .i64 (nxt s k).2]) ∧ w = w' := by
  have ek : decide ((k : Int) < 0) = false := by simp
  have Hb0 := Lib.hid (bt_eq s k hk)
  have Hn : Hid (ln (bt s k) = 2) := Lib.hid (by unfold ln; (repeat' split) <;> omega)
  have Hc : Hid (lc (bt s k) = bt s k - 192) := Lib.hid (by unfold lc; (repeat' split) <;> omega)
  rw [Hb0.out] at h1 h2
  have e3 : decide ((s[k].toNat : Int) < 128) = false := by simp; omega
  have g0 : decide ((s[k].toNat : Int) ≤ 223) = true := by simp; omega
  go_enter Tryd.func77, Tryd.ntmps77
  by_cases hsz : s.size < k + 2
  · go_wp2_with fail
    go_ret2
    exact ⟨ret_pair (pair_none (nx_none _ _ (Or.inr (Or.inr (by show _ < ln (bt s k); rw [Hn.out]; omega))))), rfl⟩
  have e1 : decide ((s.size : Int) < (k : Int) + 2) = false := by simp; omega
  go_wp2_with fail
  go_loop [8, 9] (fun c' i => ∃ j : Nat, j < 2 ∧ conts (fun i => bt s (k + i)) j = true ∧ i = .int .i64 ((j : Int) + 1) ∧ c' = .int .i64 (acc (fun i => bt s (k + i)) j)) (fun _ i => 2 - (intOf i).toNat)
  case atStart => exact ⟨0, by omega, rfl, rfl, val_int (by rw [acc_zero]; show _ = ((lc (bt s k) : Nat) : Int); rw [Hc.out, Hb0.out]; omega)⟩
  case round =>
    obtain ⟨j, hj, hcon, rfl, rfl⟩ := hrel
    have hsm := acc_small (fun i => bt s (k + i)) j (bt_lt s k) (by show j < ln (bt s k); rw [Hn.out]; exact hj) hcon
    have Hcon := Lib.hid hcon
    clear hcon
    by_cases hlt : j + 1 < 2
    · have Hb := Lib.hid (bt_eq s (k + (j + 1)) (by omega))
      by_cases hm : bt s (k + (j + 1)) < 128 ∨ 191 < bt s (k + (j + 1))
      · have Hbad := Lib.hid (nx_bad (fun i => bt s (k + i)) (s.size - k) j (by show j + 1 < ln (bt s k); rw [Hn.out]; exact hlt) hm)
        have hm' : (decide (128 ≤ (s[k + (j + 1)].toNat : Int)) && decide ((s[k + (j + 1)].toNat : Int) ≤ 191)) = false := by rw [← Hb.out]; simp; omega
        clear hm
        go_wp2_with (go_at_call 85; refine (more_any _ _).mono ?_; rintro e w' ⟨rfl, rfl⟩; rw [hm'])
        go_ret2
        exact ⟨ret_pair (pair_none Hbad.out), rfl⟩
      · have hm' : 128 ≤ s[k + (j + 1)].toNat ∧ s[k + (j + 1)].toNat ≤ 191 := by rw [← Hb.out]; omega
        have hm3 : (decide (128 ≤ (s[k + (j + 1)].toNat : Int)) && decide ((s[k + (j + 1)].toNat : Int) ≤ 191)) = true := by simp; omega
        clear hm
        obtain ⟨hm1, hm2⟩ := hm'
        go_wp2_with (go_at_call 85; refine (more_any _ _).mono ?_; rintro e w' ⟨rfl, rfl⟩; rw [hm3])
        go_round
        case rel => exact ⟨j + 1, hlt, by rw [conts_succ, Hcon.out]; simp [moreB, Hb.out, hm1, hm2], by go_num, val_int (acc_num' _ _ _ Hb.out hm1 hm2)⟩
        case measure => simp [intOf]; omega
    · have Ej := Lib.hid (show j = 2 - 1 by omega)
      by_cases hf : fitsI (acc (fun i => bt s (k + i)) j) ((2 : Nat) : Int) = true
      ·
        have ej : j = ln (bt s (k + 0)) - 1 := by rw [Ej.out, Nat.add_zero, Hn.out]
        have en : 2 = ln (bt s (k + 0)) := by rw [Nat.add_zero, Hn.out]
        have yes := nx_yes (fun i => bt s (k + i)) (s.size - k) (by show 0 < ln (bt s (k + 0)); omega) (by show ln (bt s (k + 0)) ≤ _; omega) (by show conts _ (ln (bt s (k + 0)) - 1) = true; rw [← ej]; exact Hcon.out) (by show fitsI (acc _ (ln (bt s (k + 0)) - 1) : Nat) (ln (bt s (k + 0)) : Nat) = true; rw [← ej, ← en]; exact hf)
        have yes1 := Lib.hid (pair_yes yes (by show _ = acc _ (ln (bt s (k + 0)) - 1); rw [← ej]) en)
        clear yes ej en
        go_wp2_with fail
        go_ret2
        exact ⟨ret_pair yes1.out, rfl⟩
      · exact absurd (fit2 _) hf
set_option maxRecDepth 100000 in
set_option maxHeartbeats 1000000 in
theorem rnext_3 (s : ByteArray) (k : Nat) (hs : s.size ≤ 140737488355328) (hk : k < s.size) (h1 : 224 ≤ bt s k) (h2 : bt s k ≤ 239) (w : World) :
    Calls Tryd.prog 77 #[.string s, .int .i64 k] w fun e w' => e = .returned (.tuple #[.int .i64 (nxt s k).1, .int .i64 (nxt s k).2]) ∧ w = w' := by
  have ek : decide ((k : Int) < 0) = false := by simp
  have Hb0 := Lib.hid (bt_eq s k hk)
  have Hn : Hid (ln (bt s k) = 3) := Lib.hid (by unfold ln; (repeat' split) <;> omega)
  have Hc : Hid (lc (bt s k) = bt s k - 224) := Lib.hid (by unfold lc; (repeat' split) <;> omega)
  rw [Hb0.out] at h1 h2
  have e3 : decide ((s[k].toNat : Int) < 128) = false := by simp; omega
  have g0 : decide ((s[k].toNat : Int) ≤ 239) = true := by simp; omega
  have f0 : decide ((s[k].toNat : Int) ≤ 223) = false := by simp; omega
  go_enter Tryd.func77, Tryd.ntmps77
  by_cases hsz : s.size < k + 3
  · go_wp2_with fail
    go_ret2
    exact ⟨ret_pair (pair_none (nx_none _ _ (Or.inr (Or.inr (by show _ < ln (bt s k); rw [Hn.out]; omega))))), rfl⟩
  have e1 : decide ((s.size : Int) < (k : Int) + 3) = false := by simp; omega
  go_wp2_with fail
  go_loop [8, 9] (fun c' i => ∃ j : Nat, j < 3 ∧ conts (fun i => bt s (k + i)) j = true ∧ i = .int .i64 ((j : Int) + 1) ∧ c' = .int .i64 (acc (fun i => bt s (k + i)) j)) (fun _ i => 3 - (intOf i).toNat)
  case atStart => exact ⟨0, by omega, rfl, rfl, val_int (by rw [acc_zero]; show _ = ((lc (bt s k) : Nat) : Int); rw [Hc.out, Hb0.out]; omega)⟩
  case round =>
    obtain ⟨j, hj, hcon, rfl, rfl⟩ := hrel
    have hsm := acc_small (fun i => bt s (k + i)) j (bt_lt s k) (by show j < ln (bt s k); rw [Hn.out]; exact hj) hcon
    have Hcon := Lib.hid hcon
    clear hcon
    by_cases hlt : j + 1 < 3
    · have Hb := Lib.hid (bt_eq s (k + (j + 1)) (by omega))
      by_cases hm : bt s (k + (j + 1)) < 128 ∨ 191 < bt s (k + (j + 1))
      · have Hbad := Lib.hid (nx_bad (fun i => bt s (k + i)) (s.size - k) j (by show j + 1 < ln (bt s k); rw [Hn.out]; exact hlt) hm)
        have hm' : (decide (128 ≤ (s[k + (j + 1)].toNat : Int)) && decide ((s[k + (j + 1)].toNat : Int) ≤ 191)) = false := by rw [← Hb.out]; simp; omega
        clear hm
        go_wp2_with (go_at_call 85; refine (more_any _ _).mono ?_; rintro e w' ⟨rfl, rfl⟩; rw [hm'])
        go_ret2
        exact ⟨ret_pair (pair_none Hbad.out), rfl⟩
      · have hm' : 128 ≤ s[k + (j + 1)].toNat ∧ s[k + (j + 1)].toNat ≤ 191 := by rw [← Hb.out]; omega
        have hm3 : (decide (128 ≤ (s[k + (j + 1)].toNat : Int)) && decide ((s[k + (j + 1)].toNat : Int) ≤ 191)) = true := by simp; omega
        clear hm
        obtain ⟨hm1, hm2⟩ := hm'
        go_wp2_with (go_at_call 85; refine (more_any _ _).mono ?_; rintro e w' ⟨rfl, rfl⟩; rw [hm3])
        go_round
        case rel => exact ⟨j + 1, hlt, by rw [conts_succ, Hcon.out]; simp [moreB, Hb.out, hm1, hm2], by go_num, val_int (acc_num' _ _ _ Hb.out hm1 hm2)⟩
        case measure => simp [intOf]; omega
    · have Ej := Lib.hid (show j = 3 - 1 by omega)
      by_cases hf : fitsI (acc (fun i => bt s (k + i)) j) ((3 : Nat) : Int) = true
      ·
        have ej : j = ln (bt s (k + 0)) - 1 := by rw [Ej.out, Nat.add_zero, Hn.out]
        have en : 3 = ln (bt s (k + 0)) := by rw [Nat.add_zero, Hn.out]
        have yes := nx_yes (fun i => bt s (k + i)) (s.size - k) (by show 0 < ln (bt s (k + 0)); omega) (by show ln (bt s (k + 0)) ≤ _; omega) (by show conts _ (ln (bt s (k + 0)) - 1) = true; rw [← ej]; exact Hcon.out) (by show fitsI (acc _ (ln (bt s (k + 0)) - 1) : Nat) (ln (bt s (k + 0)) : Nat) = true; rw [← ej, ← en]; exact hf)
        have yes1 := Lib.hid (pair_yes yes (by show _ = acc _ (ln (bt s (k + 0)) - 1); rw [← ej]) en)
        clear yes ej en
        have hg := fit3 _ hf
        clear hf
        clear hsm
        generalize ((acc (fun i => bt s (k + i)) j : Nat) : Int) = a at *
        rcases hg with ⟨g1, g2⟩ | g1
        · go_wp2_with fail
          go_ret2
          exact ⟨ret_pair yes1.out, rfl⟩
        · go_wp2_with fail
          go_ret2
          exact ⟨ret_pair yes1.out, rfl⟩
      · replace hf : fitsI (acc (fun i => bt s (k + i)) j) ((3 : Nat) : Int) = false := by simpa using hf
        have ej : j = ln (bt s (k + 0)) - 1 := by rw [Ej.out, Nat.add_zero, Hn.out]
        have en : 3 = ln (bt s (k + 0)) := by rw [Nat.add_zero, Hn.out]
        have no := Lib.hid (pair_none (nx_unfit (fun i => bt s (k + i)) (s.size - k) (by show fitsI (acc _ (ln (bt s (k + 0)) - 1) : Nat) (ln (bt s (k + 0)) : Nat) = false; rw [← ej, ← en]; exact hf)))
        clear ej en
        have hg := unfit3 _ hf
        clear hf
        clear hsm
        generalize ((acc (fun i => bt s (k + i)) j : Nat) : Int) = a at *
        rcases hg with g1 | ⟨g1, g2⟩
        · go_wp2_with fail
          go_ret2
          exact ⟨ret_pair no.out, rfl⟩
        · go_wp2_with fail
          go_ret2
          exact ⟨ret_pair no.out, rfl⟩
set_option maxRecDepth 100000 in
set_option maxHeartbeats 1000000 in
theorem rnext_4 (s : ByteArray) (k : Nat) (hs : s.size ≤ 140737488355328) (hk : k < s.size) (h1 : 240 ≤ bt s k) (h2 : bt s k ≤ 244) (w : World) :
    Calls Tryd.prog 77 #[.string s, .int .i64 k] w fun e w' => e = .returned (.tuple #[.int .i64 (nxt s k).1, .int .i64 (nxt s k).2]) ∧ w = w' := by
  have ek : decide ((k : Int) < 0) = false := by simp
  have Hb0 := Lib.hid (bt_eq s k hk)
  have Hn : Hid (ln (bt s k) = 4) := Lib.hid (by unfold ln; (repeat' split) <;> omega)
  have Hc : Hid (lc (bt s k) = bt s k - 240) := Lib.hid (by unfold lc; (repeat' split) <;> omega)
  rw [Hb0.out] at h1 h2
  have e3 : decide ((s[k].toNat : Int) < 128) = false := by simp; omega
  have g0 : decide ((s[k].toNat : Int) ≤ 244) = true := by simp; omega
  have f0 : decide ((s[k].toNat : Int) ≤ 223) = false := by simp; omega
  have f1 : decide ((s[k].toNat : Int) ≤ 239) = false := by simp; omega
  go_enter Tryd.func77, Tryd.ntmps77
  by_cases hsz : s.size < k + 4
  · go_wp2_with fail
    go_ret2
    exact ⟨ret_pair (pair_none (nx_none _ _ (Or.inr (Or.inr (by show _ < ln (bt s k); rw [Hn.out]; omega))))), rfl⟩
  have e1 : decide ((s.size : Int) < (k : Int) + 4) = false := by simp; omega
  go_wp2_with fail
  go_loop [8, 9] (fun c' i => ∃ j : Nat, j < 4 ∧ conts (fun i => bt s (k + i)) j = true ∧ i = .int .i64 ((j : Int) + 1) ∧ c' = .int .i64 (acc (fun i => bt s (k + i)) j)) (fun _ i => 4 - (intOf i).toNat)
  case atStart => exact ⟨0, by omega, rfl, rfl, val_int (by rw [acc_zero]; show _ = ((lc (bt s k) : Nat) : Int); rw [Hc.out, Hb0.out]; omega)⟩
  case round =>
    obtain ⟨j, hj, hcon, rfl, rfl⟩ := hrel
    have hsm := acc_small (fun i => bt s (k + i)) j (bt_lt s k) (by show j < ln (bt s k); rw [Hn.out]; exact hj) hcon
    have Hcon := Lib.hid hcon
    clear hcon
    by_cases hlt : j + 1 < 4
    · have Hb := Lib.hid (bt_eq s (k + (j + 1)) (by omega))
      by_cases hm : bt s (k + (j + 1)) < 128 ∨ 191 < bt s (k + (j + 1))
      · have Hbad := Lib.hid (nx_bad (fun i => bt s (k + i)) (s.size - k) j (by show j + 1 < ln (bt s k); rw [Hn.out]; exact hlt) hm)
        have hm' : (decide (128 ≤ (s[k + (j + 1)].toNat : Int)) && decide ((s[k + (j + 1)].toNat : Int) ≤ 191)) = false := by rw [← Hb.out]; simp; omega
        clear hm
        go_wp2_with (go_at_call 85; refine (more_any _ _).mono ?_; rintro e w' ⟨rfl, rfl⟩; rw [hm'])
        go_ret2
        exact ⟨ret_pair (pair_none Hbad.out), rfl⟩
      · have hm' : 128 ≤ s[k + (j + 1)].toNat ∧ s[k + (j + 1)].toNat ≤ 191 := by rw [← Hb.out]; omega
        have hm3 : (decide (128 ≤ (s[k + (j + 1)].toNat : Int)) && decide ((s[k + (j + 1)].toNat : Int) ≤ 191)) = true := by simp; omega
        clear hm
        obtain ⟨hm1, hm2⟩ := hm'
        go_wp2_with (go_at_call 85; refine (more_any _ _).mono ?_; rintro e w' ⟨rfl, rfl⟩; rw [hm3])
        go_round
        case rel => exact ⟨j + 1, hlt, by rw [conts_succ, Hcon.out]; simp [moreB, Hb.out, hm1, hm2], by go_num, val_int (acc_num' _ _ _ Hb.out hm1 hm2)⟩
        case measure => simp [intOf]; omega
    · have Ej := Lib.hid (show j = 4 - 1 by omega)
      by_cases hf : fitsI (acc (fun i => bt s (k + i)) j) ((4 : Nat) : Int) = true
      ·
        have ej : j = ln (bt s (k + 0)) - 1 := by rw [Ej.out, Nat.add_zero, Hn.out]
        have en : 4 = ln (bt s (k + 0)) := by rw [Nat.add_zero, Hn.out]
        have yes := nx_yes (fun i => bt s (k + i)) (s.size - k) (by show 0 < ln (bt s (k + 0)); omega) (by show ln (bt s (k + 0)) ≤ _; omega) (by show conts _ (ln (bt s (k + 0)) - 1) = true; rw [← ej]; exact Hcon.out) (by show fitsI (acc _ (ln (bt s (k + 0)) - 1) : Nat) (ln (bt s (k + 0)) : Nat) = true; rw [← ej, ← en]; exact hf)
        have yes1 := Lib.hid (pair_yes yes (by show _ = acc _ (ln (bt s (k + 0)) - 1); rw [← ej]) en)
        clear yes ej en
        obtain ⟨g1, g2⟩ := fit4 _ hf
        clear hf
        clear hsm
        generalize ((acc (fun i => bt s (k + i)) j : Nat) : Int) = a at *
        go_wp2_with fail
        go_ret2
        exact ⟨ret_pair yes1.out, rfl⟩
      · replace hf : fitsI (acc (fun i => bt s (k + i)) j) ((4 : Nat) : Int) = false := by simpa using hf
        have ej : j = ln (bt s (k + 0)) - 1 := by rw [Ej.out, Nat.add_zero, Hn.out]
        have en : 4 = ln (bt s (k + 0)) := by rw [Nat.add_zero, Hn.out]
        have no := Lib.hid (pair_none (nx_unfit (fun i => bt s (k + i)) (s.size - k) (by show fitsI (acc _ (ln (bt s (k + 0)) - 1) : Nat) (ln (bt s (k + 0)) : Nat) = false; rw [← ej, ← en]; exact hf)))
        clear ej en
        have hg := unfit4 _ hf
        clear hf
        clear hsm
        generalize ((acc (fun i => bt s (k + i)) j : Nat) : Int) = a at *
        rcases hg with g1 | g1
        · go_wp2_with fail
          go_ret2
          exact ⟨ret_pair no.out, rfl⟩
        · go_wp2_with fail
          go_ret2
          exact ⟨ret_pair no.out, rfl⟩
set_option maxRecDepth 100000 in
set_option maxHeartbeats 1000000 in
theorem rnext_1 (s : ByteArray) (k : Nat) (hs : s.size ≤ 140737488355328) (hk : k < s.size) (h1 : bt s k ≤ 127) (w : World) :
    Calls Tryd.prog 77 #[.string s, .int .i64 k] w fun e w' => e = .returned (.tuple #[.int .i64 (nxt s k).1, .int .i64 (nxt s k).2]) ∧ w = w' := by
  have ek : decide ((k : Int) < 0) = false := by simp
  have Hb0 := Lib.hid (bt_eq s k hk)
  have en : ln (bt s (k + 0)) = 1 := by rw [Nat.add_zero]; unfold ln; rw [if_pos h1]
  have ec : lc (bt s (k + 0)) = s[k].toNat := by rw [Nat.add_zero, ← Hb0.out]; unfold lc; rw [if_pos h1]
  have yes := nx_yes (fun i => bt s (k + i)) (s.size - k) (by show 0 < ln (bt s (k + 0)); omega) (by show ln (bt s (k + 0)) ≤ _; omega) (by show conts _ (ln (bt s (k + 0)) - 1) = true; rw [en]; rfl) (by show fitsI (acc _ (ln (bt s (k + 0)) - 1) : Nat) (ln (bt s (k + 0)) : Nat) = true; rw [en]; unfold fitsI; rw [if_neg (by decide), if_neg (by decide)])
  have yes1 := Lib.hid (pair_yes (c := s[k].toNat) (d := 1) yes (by show _ = acc _ (ln (bt s (k + 0)) - 1); rw [en]; exact ec.symm) en.symm)
  clear yes en ec
  rw [Hb0.out] at h1
  go_enter Tryd.func77, Tryd.ntmps77
  go_wp2_with fail
  go_ret2
  exact ⟨ret_pair yes1.out, rfl⟩
set_option maxRecDepth 100000 in
set_option maxHeartbeats 1000000 in
theorem rnext_0 (s : ByteArray) (k : Nat) (hs : s.size ≤ 140737488355328) (hk : k < s.size) (h : (128 ≤ bt s k ∧ bt s k < 194) ∨ 244 < bt s k) (w : World) :
    Calls Tryd.prog 77 #[.string s, .int .i64 k] w fun e w' => e = .returned (.tuple #[.int .i64 (nxt s k).1, .int .i64 (nxt s k).2]) ∧ w = w' := by
  have ek : decide ((k : Int) < 0) = false := by simp
  have Hb0 := Lib.hid (bt_eq s k hk)
  have en : ln (bt s k) = 0 := by unfold ln; (repeat' split) <;> omega
  have no := Lib.hid (pair_none (nx_none (fun i => bt s (k + i)) (s.size - k) (Or.inr (Or.inl en))))
  clear en
  rw [Hb0.out] at h
  have hb2 := s[k].toNat_lt
  go_enter Tryd.func77, Tryd.ntmps77
  rcases h with ⟨g1, g2⟩ | g1
  · go_wp2_with fail
    go_ret2
    exact ⟨ret_pair no.out, rfl⟩
  · go_wp2_with fail
    go_ret2
    exact ⟨ret_pair no.out, rfl⟩
theorem rnext_any (s : ByteArray) (a : Int) (hs : s.size ≤ 140737488355328) (w : World) :
    Calls Tryd.prog 77 #[.string s, .int .i64 a] w fun e w' => e = .returned (.tuple #[.int .i64 (nxtI s a).1, .int .i64 (nxtI s a).2]) ∧ w = w' := by
  by_cases h : a < 0 ∨ s.size ≤ a
  · refine (rnext_out s a hs h w).mono ?_
    rintro e w' ⟨rfl, rfl⟩
    rw [nxtI_out s a h]
    exact ⟨rfl, rfl⟩
  · obtain ⟨k, rfl⟩ : ∃ k : Nat, a = (k : Int) := ⟨a.toNat, by omega⟩
    rw [nxtI_in]
    have hk : k < s.size := by omega
    by_cases c1 : bt s k ≤ 127
    · exact rnext_1 s k hs hk c1 w
    by_cases c2 : 194 ≤ bt s k ∧ bt s k ≤ 223
    · exact rnext_2 s k hs hk c2.1 c2.2 w
    by_cases c3 : 224 ≤ bt s k ∧ bt s k ≤ 239
    · exact rnext_3 s k hs hk c3.1 c3.2 w
    by_cases c4 : 240 ≤ bt s k ∧ bt s k ≤ 244
    · exact rnext_4 s k hs hk c4.1 c4.2 w
    exact rnext_0 s k hs hk (by omega) w
end Go.Proofs.YtjgmfgnfdaeelaaDoor.Utf
