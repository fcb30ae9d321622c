/-
  CONTRACTS of cmp.Less, isNaN and slices.BinarySearch at strings: a place in a list that rises.
-/
import Derived.Test.YtipgofglidmffaaTkIdsPlain
namespace Go.Proofs.Ytipgofglidmffaa.Tk
open Go.RowKit
set_option linter.unusedVariables false

theorem nan_any (x : ByteArray) (w : World) : Calls Try.prog 82 #[.string x] w fun e w' => e = .returned (.bool false) ∧ w = w' := by
  have e1 : (x.toList == x.toList) = true := by simp
  go_enter Try.func82, Try.ntmps82
  go_wp2_with fail
  go_ret
  exact ⟨rfl, rfl⟩
theorem nan2_any (x : ByteArray) (w : World) : Calls Try.prog 66 #[.string x] w fun e w' => e = .returned (.bool false) ∧ w = w' := by
  have e1 : (x.toList == x.toList) = true := by simp
  go_enter Try.func66, Try.ntmps66
  go_wp2_with fail
  go_ret
  exact ⟨rfl, rfl⟩
theorem S_less (x y : Tx) : Op.bytesLess (S x).toList (S y).toList = decide (x < y) := by rw [S_toList, S_toList, less_eq]
theorem less_any (x y : Tx) (w : World) : Calls Try.prog 61 #[.string (S x), .string (S y)] w fun e w' => e = .returned (.bool (decide (x < y))) ∧ w = w' := by
  have H := Lib.hid (S_less x y)
  generalize S x = a at *
  generalize S y = b at *
  go_enter Try.func61, Try.ntmps61
  go_wp2_with fail
  refine (nan_any a _).mono ?_
  rintro e w' ⟨rfl, rfl⟩
  go_wp2_with fail
  go_ret
  exact ⟨by rw [H.out]; rfl, rfl⟩

set_option maxHeartbeats 1600000 in
theorem search_any (v : Value) (xs : List Tx) (s : Tx) (w : World) (h : Rd w v xs) (hr : Rises xs) (hx : xs.length ≤ 1000000) :
    Calls Try.prog 46 #[v, .string (S s)] w fun e w' => ∃ f : Value, e = .returned (.tuple #[.int .i64 (at_ xs s), f]) ∧ w = w' := by
  obtain ⟨ao, ca, rfl, hca, hax⟩ := h
  by_cases h0 : xs = []
  · have hz : xs.length = 0 := by rw [h0]; rfl
    have Ha : Hid (at_ xs s = 0) := Lib.hid (by rw [h0]; rfl)
    rw [hz]
    clear hax h0 hz
    go_enter Try.func46, Try.ntmps46
    go_wp2_with fail
    go_loop [7, 8] (fun i j => i = .int .i64 0 ∧ j = .int .i64 0) (fun _ _ => 0)
    case atStart => exact ⟨rfl, rfl⟩
    case round =>
      obtain ⟨rfl, rfl⟩ := hrel
      go_wp2_with fail
      go_ret2
      rw [Ha.out]; exact ⟨⟨Value.bool false, rfl⟩, rfl⟩
  rcases hax with hax | ⟨b, o, rfl, hlt, hcell⟩
  · exact absurd hax h0
  have HC := Lib.hid hcell
  have HR := Lib.hid hr
  clear hcell hr h0
  go_enter Try.func46, Try.ntmps46
  go_wp2_with fail
  go_loop [7, 8] (fun i j => ∃ lo hi : Nat, i = .int .i64 lo ∧ j = .int .i64 hi ∧ lo ≤ hi ∧ hi ≤ xs.length ∧ Hid ((∀ t (h : t < xs.length), t < lo → xs[t] < s) ∧ (∀ t (h : t < xs.length), hi ≤ t → ¬ xs[t] < s))) (fun i j => (intOf j).toNat - (intOf i).toNat)
  case atStart => exact ⟨0, xs.length, rfl, rfl, Nat.zero_le _, Nat.le_refl _, Lib.hid ⟨fun t _ h => absurd h (Nat.not_lt_zero _), fun t h1 h2 => by omega⟩⟩
  case round =>
    obtain ⟨lo, hi, rfl, rfl, hlh, hin, I⟩ := hrel
    by_cases hlt2 : lo < hi
    · have hm : (lo + hi) / 2 < xs.length := by omega
      have k1 : w.cell? ⟨b, o + (lo + hi) / 2, none⟩ = some (.string (S xs[(lo + hi) / 2])) := HC.out _ _ (get_lt hm)
      have C := Lib.hid (less_any xs[(lo + hi) / 2] s)
      by_cases hy : xs[(lo + hi) / 2] < s
      · rw [decide_eq_true hy] at C
        have I2 : Hid ((∀ t (h : t < xs.length), t < (lo + hi) / 2 + 1 → xs[t] < s) ∧ (∀ t (h : t < xs.length), hi ≤ t → ¬ xs[t] < s)) := Lib.hid ⟨fun t h1 h2 => by
          by_cases e : t = (lo + hi) / 2
          · subst e; exact hy
          · exact List.lt_trans (rise_at HR.out (show t < (lo + hi) / 2 by omega) hm) hy, I.out.2⟩
        clear hy I
        generalize S xs[(lo + hi) / 2] = y at *
        go_wp2_with fail
        refine (C.out _).mono ?_
        rintro e w' ⟨rfl, rfl⟩
        go_wp2_with fail
        go_round
        case rel => exact ⟨(lo + hi) / 2 + 1, hi, by rw [show ((lo : Int) + (hi : Int)) / 2 + 1 = (((lo + hi) / 2 + 1 : Nat) : Int) by omega], rfl, by omega, hin, I2⟩
        case measure => simp [intOf]; omega
      · rw [decide_eq_false hy] at C
        have I2 : Hid ((∀ t (h : t < xs.length), t < lo → xs[t] < s) ∧ (∀ t (h : t < xs.length), (lo + hi) / 2 ≤ t → ¬ xs[t] < s)) := Lib.hid ⟨I.out.1, fun t h1 h2 h3 => by
          by_cases e : t = (lo + hi) / 2
          · subst e; exact hy h3
          · exact hy (List.lt_trans (rise_at HR.out (show (lo + hi) / 2 < t by omega) h1) h3)⟩
        clear hy I
        generalize S xs[(lo + hi) / 2] = y at *
        go_wp2_with fail
        refine (C.out _).mono ?_
        rintro e w' ⟨rfl, rfl⟩
        go_wp2_with fail
        go_round
        case rel => exact ⟨lo, (lo + hi) / 2, rfl, by rw [show ((lo : Int) + (hi : Int)) / 2 = (((lo + hi) / 2 : Nat) : Int) by omega], by omega, by omega, I2⟩
        case measure => simp [intOf]; omega
    · obtain rfl : hi = lo := by omega
      have Ha : Hid (at_ xs s = hi) := Lib.hid (at_found xs s hi hin I.out.1 (fun h => I.out.2 hi h (Nat.le_refl _)))
      clear I
      by_cases hn : hi < xs.length
      · have k1 : w.cell? ⟨b, o + hi, none⟩ = some (.string (S xs[hi])) := HC.out _ _ (get_lt hn)
        have d1 : decide ((hi : Int) < (xs.length : Int)) = true := decide_eq_true (by omega)
        generalize S xs[hi] = y at *
        cases e1 : (y.toList == (S s).toList) with
        | true =>
          go_wp2_with fail
          go_ret2
          rw [Ha.out]; first | exact ⟨_, rfl, rfl⟩ | exact ⟨⟨_, rfl⟩, rfl⟩
        | false =>
          go_wp2_with fail
          refine (nan2_any y _).mono ?_
          rintro e w' ⟨rfl, rfl⟩
          go_wp2_with fail
          go_ret2
          rw [Ha.out]; first | exact ⟨_, rfl, rfl⟩ | exact ⟨⟨_, rfl⟩, rfl⟩
      · have d1 : decide ((hi : Int) < (xs.length : Int)) = false := decide_eq_false (by omega)
        go_wp2_with fail
        go_ret2
        rw [Ha.out]; first | exact ⟨_, rfl, rfl⟩ | exact ⟨⟨_, rfl⟩, rfl⟩

end Go.Proofs.Ytipgofglidmffaa.Tk
