/-
  CONTRACTS of utf.lead, utf.fits, utf.Next and of the document's Next: each answers the plain function.
-/
import Derived.Test.YtjgmfgnfdaeelaaDoorProg
import Derived.Test.YtjgmfgnfdaeelaaDoorUtfPlain
import Derived.WalkKit
import Derived.WalkSpells
import Derived.WalkLawsBesides
import Derived.Lib.Hide
namespace Go.Proofs.YtjgmfgnfdaeelaaDoor.Utf
open Go.RowKit
set_option linter.unusedVariables false
theorem ret_int {k : IntKind} {a b : Int} (h : a = b) : Ending.returned (.int k a) = .returned (.int k b) := by rw [h]
theorem ret_bool {a b : Bool} (h : a = b) : Ending.returned (.bool a) = .returned (.bool b) := by rw [h]
theorem ret_two {j k : IntKind} {a b c d : Int} (h : a = b) (g : c = d) : Ending.returned (.tuple #[.int j a, .int k c]) = .returned (.tuple #[.int j b, .int k d]) := by rw [h, g]

set_option maxHeartbeats 400000 in
theorem lead_any (b : Nat) (hb : b < 256) (w : World) :
    Calls Tryd.prog 93 #[.int .u8 b] w fun e w' => e = .returned (.tuple #[.int .i64 (ln b), .int .i32 (lc b)]) ∧ w = w' := by
  go_enter Tryd.func93, Tryd.ntmps93
  go_wp2
  all_goals go_ret2
  all_goals refine ⟨ret_two ?_ ?_, rfl⟩
  all_goals (first | unfold ln | unfold lc)
  all_goals (split <;> try omega)
  all_goals (split <;> try omega)
  all_goals (split <;> try omega)
  all_goals (split <;> try omega)
theorem fits_a (c n : Int) (h : (n == 3) = true) (h1 : 2048 ≤ c) : (decide (c < 55296) || decide (57343 < c)) = fitsI c n := by
  obtain rfl : n = 3 := by simpa using h
  unfold fitsI
  rw [if_pos rfl, decide_eq_true h1, Bool.true_and]
theorem fits_b (c n : Int) (h : (n == 3) = true) (h1 : 2048 ≤ c) (h2 : c < 55296) : true = fitsI c n := by
  rw [← fits_a c n h h1, decide_eq_true h2, Bool.true_or]
theorem fits_c (c n : Int) (h : (n == 3) = true) (h1 : c < 2048) : false = fitsI c n := by
  obtain rfl : n = 3 := by simpa using h
  unfold fitsI
  rw [if_pos rfl, decide_eq_false (by omega), Bool.false_and]
theorem fits_d (c n : Int) (h : (n == 4) = true) (h1 : 65536 ≤ c) : decide (c ≤ 1114111) = fitsI c n := by
  obtain rfl : n = 4 := by simpa using h
  unfold fitsI
  rw [if_neg (by decide), if_pos rfl, decide_eq_true h1, Bool.true_and]
theorem fits_e (c n : Int) (h : (n == 4) = true) (h1 : c < 65536) : false = fitsI c n := by
  obtain rfl : n = 4 := by simpa using h
  unfold fitsI
  rw [if_neg (by decide), if_pos rfl, decide_eq_false (by omega), Bool.false_and]
theorem fits_f (c n : Int) (h : (n == 3) = false) (h1 : (n == 4) = false) : true = fitsI c n := by
  unfold fitsI
  rw [if_neg (by simpa using h), if_neg (by simpa using h1)]
set_option maxHeartbeats 400000 in
theorem fits_any (c n : Int) (w : World) :
    Calls Tryd.prog 94 #[.int .i32 c, .int .i64 n] w fun e w' => e = .returned (.bool (fitsI c n)) ∧ w = w' := by
  go_enter Tryd.func94, Tryd.ntmps94
  go_wp2
  all_goals go_ret
  all_goals refine ⟨ret_bool ?_, rfl⟩
  all_goals first | exact fits_a _ _ ‹_› ‹_› | exact fits_b _ _ ‹_› ‹_› ‹_› | exact fits_c _ _ ‹_› ‹_› | exact fits_d _ _ ‹_› ‹_› | exact fits_e _ _ ‹_› ‹_› | exact fits_f _ _ ‹_› ‹_›

set_option maxHeartbeats 400000 in
theorem next_out (s : ByteArray) (a : Int) (hs : s.size ≤ maxLen) (h : a < 0 ∨ s.size ≤ a) (w : World) :
    Calls Tryd.prog 87 #[.string s, .int .i64 a] w fun e w' => e = .returned (.tuple #[.int .i64 0, .int .i64 0]) ∧ w = w' := by
  unfold maxLen at hs
  go_enter Tryd.func87, Tryd.ntmps87
  rcases h with h | h
  · go_wp2_with fail
    go_ret2
    exact ⟨rfl, rfl⟩
  · by_cases h1 : a < 0
    · go_wp2_with fail
      go_ret2
      exact ⟨rfl, rfl⟩
    · go_wp2_with fail
      go_ret2
      exact ⟨rfl, rfl⟩
theorem val_int {k : IntKind} {a b : Int} (h : a = b) : Value.int k a = .int k b := by rw [h]
theorem acc_num (a x y : Nat) (e : y = x) (h1 : 128 ≤ x) (h2 : x ≤ 191) : (a : Int) * 64 + (x : Int) % 64 = ((a * 64 + (y - 128) : Nat) : Int) := by omega
theorem pair_none {p : Nat × Nat} (h : p = (0, 0)) : (0 : Int) = ((p.1 : Nat) : Int) ∧ (0 : Int) = ((p.2 : Nat) : Int) := by rw [h]; exact ⟨rfl, rfl⟩
theorem pair_yes {p : Nat × Nat} {a b c d : Nat} (h : p = (a, b)) (h1 : c = a) (h2 : d = b) : (c : Int) = ((p.1 : Nat) : Int) ∧ (d : Int) = ((p.2 : Nat) : Int) := by rw [h, h1, h2]; exact ⟨rfl, rfl⟩
theorem ret_pair {p : Nat × Nat} {a b : Int} (h : a = p.1 ∧ b = p.2) : Ending.returned (.tuple #[.int .i64 a, .int .i64 b]) = .returned (.tuple #[.int .i64 p.1, .int .i64 p.2]) := by rw [h.1, h.2]
set_option maxHeartbeats 400000 in
theorem next_in (s : ByteArray) (k : Nat) (hs : s.size ≤ maxLen) (hk : k < s.size) (w : World) :
    Calls Tryd.prog 87 #[.string s, .int .i64 k] w fun e w' => e = .returned (.tuple #[.int .i64 (nxt s k).1, .int .i64 (nxt s k).2]) ∧ w = w' := by
  unfold maxLen at hs
  have ek : decide ((k : Int) < 0) = false := by simp
  go_enter Tryd.func87, Tryd.ntmps87
  go_wp2_with fail
  refine (lead_any _ s[k].toNat_lt _).mono ?_
  rintro e w' ⟨rfl, rfl⟩
  rw [← bt_eq s k hk]
  have hn4 := ln_le (bt s k)
  generalize hn : ln (bt s k) = n at *
  generalize hc : lc (bt s k) = c at *
  have Hn := Lib.hid hn; have Hc := Lib.hid hc
  clear hn hc
  by_cases h0 : n = 0
  · subst h0
    go_wp2_with fail
    go_ret2
    exact ⟨ret_pair (pair_none (nx_none _ _ (Or.inr (Or.inl Hn.out)))), rfl⟩
  have e0 : ((n : Int) == 0) = false := by simp [h0]
  by_cases h1 : s.size < k + n
  · go_wp2_with fail
    go_ret2
    exact ⟨ret_pair (pair_none (nx_none _ _ (Or.inr (Or.inr (by show _ < ln (bt s k); rw [Hn.out]; omega))))), rfl⟩
  have e1 : decide ((s.size : Int) - (k : Int) < (n : Int)) = false := by simp; omega
  go_wp2_with fail
  go_loop [7, 8] (fun c' i => ∃ j : Nat, j < n ∧ conts (fun i => bt s (k + i)) j = true ∧ i = .int .i64 ((j : Int) + 1) ∧ c' = .int .i32 (acc (fun i => bt s (k + i)) j)) (fun _ i => n - (intOf i).toNat)
  case atStart => exact ⟨0, by omega, rfl, rfl, by rw [acc_zero]; exact congrArg (fun x : Nat => Value.int .i32 (x : Int)) Hc.out.symm⟩
  case round =>
    obtain ⟨j, hj, hcon, rfl, rfl⟩ := hrel
    have hsm := acc_small (fun i => bt s (k + i)) j (bt_lt s k) (by show j < ln (bt s k); rw [Hn.out]; exact hj) hcon
    have Hcon := Lib.hid hcon
    clear hcon
    by_cases hlt : j + 1 < n
    · have Hb := Lib.hid (bt_eq s (k + (j + 1)) (by omega))
      by_cases hm : bt s (k + (j + 1)) < 128 ∨ 191 < bt s (k + (j + 1))
      · have Hbad := Lib.hid (nx_bad (fun i => bt s (k + i)) (s.size - k) j (by show j + 1 < ln (bt s k); rw [Hn.out]; exact hlt) hm)
        have hm' : s[k + (j + 1)].toNat < 128 ∨ 191 < s[k + (j + 1)].toNat := by rw [← Hb.out]; exact hm
        clear hm
        rcases hm' with hm' | hm'
        · go_wp2_with fail
          go_ret2
          exact ⟨ret_pair (pair_none Hbad.out), rfl⟩
        · go_wp2_with fail
          go_ret2
          exact ⟨ret_pair (pair_none Hbad.out), rfl⟩
      · have hm' : 128 ≤ s[k + (j + 1)].toNat ∧ s[k + (j + 1)].toNat ≤ 191 := by rw [← Hb.out]; omega
        clear hm
        obtain ⟨hm1, hm2⟩ := hm'
        go_wp2_with fail
        go_round
        case rel => exact ⟨j + 1, hlt, by rw [conts_succ, Hcon.out]; simp [moreB, Hb.out, hm1, hm2], by go_num, val_int (acc_num _ _ _ Hb.out hm1 hm2)⟩
        case measure => simp [intOf]; omega
    · have Ej := Lib.hid (show j = n - 1 by omega)
      by_cases hf : fitsI (acc (fun i => bt s (k + i)) j) n = true
      · go_wp2_with (go_at_call 94; refine (fits_any _ _ _).mono ?_; rintro e w' ⟨rfl, rfl⟩)
        go_ret2
        have ej : j = ln (bt s (k + 0)) - 1 := by rw [Ej.out, ← Hn.out, Nat.add_zero]
        have en : n = ln (bt s (k + 0)) := Hn.out.symm
        exact ⟨ret_pair (pair_yes (nx_yes (fun i => bt s (k + i)) (s.size - k) (by show 0 < ln (bt s (k + 0)); omega) (by show ln (bt s (k + 0)) ≤ _; omega) (by show conts _ (ln (bt s (k + 0)) - 1) = true; rw [← ej]; exact Hcon.out) (by show fitsI (acc _ (ln (bt s (k + 0)) - 1) : Nat) (ln (bt s (k + 0)) : Nat) = true; rw [← ej, ← en]; exact hf)) (by show _ = acc _ (ln (bt s (k + 0)) - 1); rw [← ej]) en), rfl⟩
      · have hf' : fitsI (acc (fun i => bt s (k + i)) j) n = false := by simpa using hf
        clear hf
        go_wp2_with (go_at_call 94; refine (fits_any _ _ _).mono ?_; rintro e w' ⟨rfl, rfl⟩)
        go_ret2
        have ej : j = ln (bt s (k + 0)) - 1 := by rw [Ej.out, ← Hn.out, Nat.add_zero]
        have en : n = ln (bt s (k + 0)) := Hn.out.symm
        exact ⟨ret_pair (pair_none (nx_unfit (fun i => bt s (k + i)) (s.size - k) (by show fitsI (acc _ (ln (bt s (k + 0)) - 1) : Nat) (ln (bt s (k + 0)) : Nat) = false; rw [← ej, ← en]; exact hf'))), rfl⟩
theorem nxtI_out (s : ByteArray) (a : Int) (h : a < 0 ∨ s.size ≤ a) : nxtI s a = (0, 0) := by
  unfold nxtI
  split
  · rfl
  · unfold nxt; exact nx_none _ _ (Or.inl (by omega))
theorem nxtI_in (s : ByteArray) (k : Nat) : nxtI s k = nxt s k := by
  unfold nxtI
  rw [if_neg (by omega), Int.toNat_natCast]
theorem next_any (s : ByteArray) (a : Int) (hs : s.size ≤ maxLen) (w : World) :
    Calls Tryd.prog 87 #[.string s, .int .i64 a] w fun e w' => e = .returned (.tuple #[.int .i64 (nxtI s a).1, .int .i64 (nxtI s a).2]) ∧ w = w' := by
  by_cases h : a < 0 ∨ s.size ≤ a
  · refine (next_out s a hs h w).mono ?_
    rintro e w' ⟨rfl, rfl⟩
    rw [nxtI_out s a h]
    exact ⟨rfl, rfl⟩
  · obtain ⟨k, rfl⟩ : ∃ k : Nat, a = (k : Int) := ⟨a.toNat, by omega⟩
    rw [nxtI_in]
    exact next_in s k hs (by omega) w
end Go.Proofs.YtjgmfgnfdaeelaaDoor.Utf
