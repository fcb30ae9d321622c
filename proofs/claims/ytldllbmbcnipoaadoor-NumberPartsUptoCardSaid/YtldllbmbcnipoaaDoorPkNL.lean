/-
  Several texts in one:
  NUMBERS OF TEXTS, in plain words: what is sorted and compacted rises and has every text once; a place found by halving. No program.
  CONTRACTS of cmp.Less, isNaN and slices.BinarySearch at strings: a place in a list that rises.
-/
import Derived.Test.YtldllbmbcnipoaaDoorPkNB
import Derived.Lib.SlicesCompact
namespace Go.Proofs.YtldllbmbcnipoaaDoor.Tk
open Go.RowKit
set_option linter.unusedVariables false

theorem cu_ok (zs : List Tx) (hs : zs.Pairwise (· ≤ ·)) : ∀ m, m ≤ zs.length → Rises (Lib.compactUpTo zs.toArray m) ∧ (∀ y, y ∈ Lib.compactUpTo zs.toArray m ↔ y ∈ zs.take m) ∧ (∀ h : 0 < m, ∀ hm : m - 1 < zs.length, ∀ y ∈ Lib.compactUpTo zs.toArray m, y ≤ zs[m - 1])
  | 0, _ => ⟨by simp [Lib.compactUpTo, Rises], by simp [Lib.compactUpTo], fun h => absurd h (Nat.lt_irrefl _)⟩
  | m + 1, hm => by
    obtain ⟨i1, i2, i3⟩ := cu_ok zs hs m (by omega)
    have hg : zs.toArray[m]! = zs[m] := by rw [getElem!_pos _ m (by simp; omega)]; simp
    have ht : zs.take (m + 1) = zs.take m ++ [zs[m]] := by rw [List.take_add_one, List.getElem?_eq_getElem (by omega)]; rfl
    rw [Lib.compactUpTo_succ, ht, hg]
    cases hk : Lib.keeps zs.toArray m with
    | true =>
      rw [if_pos rfl]
      have hlt : ∀ y ∈ Lib.compactUpTo zs.toArray m, y < zs[m] := by
        intro y hy
        by_cases h0 : m = 0
        · subst h0
          simp [Lib.compactUpTo] at hy
        have hp : zs.toArray[m - 1]! = zs[m - 1] := by rw [getElem!_pos _ (m - 1) (by simp; omega)]; simp
        have hne : zs[m] ≠ zs[m - 1] := by
          simp only [Lib.keeps, decide_eq_true_eq] at hk
          rw [hg, hp] at hk
          exact hk.resolve_left h0
        have h1 : zs[m - 1] ≤ zs[m] := List.pairwise_iff_getElem.1 hs (m - 1) m (by omega) (by omega) (by omega)
        have h2 := i3 (by omega) (by omega) y hy
        have h3 : zs[m - 1] < zs[m] := by
          rcases lt_tri zs[m - 1] zs[m] with h | h | h
          · exact h
          · exact absurd h.symm hne
          · exact absurd h1 (by rw [List.not_le]; exact h)
        rcases lt_tri y zs[m - 1] with h | h | h
        · exact List.lt_trans h h3
        · rw [h]; exact h3
        · exact absurd h2 (by rw [List.not_le]; exact h)
      refine ⟨?_, fun y => ?_, fun _ hm' y hy => ?_⟩
      · refine List.pairwise_append.2 ⟨i1, List.pairwise_singleton _ _, fun a ha b hb => ?_⟩
        rw [List.mem_singleton.1 hb]
        exact hlt a ha
      · rw [List.mem_append, List.mem_append, i2]
      · show y ≤ zs[m]
        rcases List.mem_append.1 hy with hy | hy
        · exact List.le_of_lt (hlt y hy)
        · rw [List.mem_singleton.1 hy]
          exact List.le_refl _
    | false =>
      rw [if_neg (by decide), List.append_nil]
      have h0 : m ≠ 0 := by
        intro h
        subst h
        simp [Lib.keeps] at hk
      have hp : zs.toArray[m - 1]! = zs[m - 1] := by rw [getElem!_pos _ (m - 1) (by simp; omega)]; simp
      have heq : zs[m] = zs[m - 1] := by
        simp only [Lib.keeps, decide_eq_false_iff_not, not_or] at hk
        rw [hg, hp] at hk
        exact Classical.not_not.1 hk.2
      have hmem : zs[m] ∈ zs.take m := by
        rw [heq]
        exact List.mem_take_iff_getElem.2 ⟨m - 1, by omega, rfl⟩
      refine ⟨i1, fun y => ?_, fun _ hm' y hy => ?_⟩
      · rw [i2, List.mem_append]
        exact ⟨Or.inl, fun h => h.elim id (fun h => by rw [List.mem_singleton.1 h]; exact hmem)⟩
      · show y ≤ zs[m]
        rw [heq]
        exact i3 (by omega) (by omega) y hy
/-- Each text of the lists once, in order. -/
def uniq (all : List Tx) : List Tx := Lib.compact (all.mergeSort fun x y => decide (x ≤ y))
theorem uniq_ok (all : List Tx) : Rises (uniq all) ∧ ∀ y, y ∈ uniq all ↔ y ∈ all := by
  have hs : (all.mergeSort fun x y => decide (x ≤ y)).Pairwise (· ≤ ·) := by
    have := List.pairwise_mergeSort (le := fun x y : Tx => decide (x ≤ y)) (fun a b c h1 h2 => by
      simp only [decide_eq_true_eq] at h1 h2 ⊢
      exact List.le_trans h1 h2) (fun a b => by
      simp only [Bool.or_eq_true, decide_eq_true_eq]
      exact List.le_total a b) all
    exact this.imp (fun h => by simpa using h)
  obtain ⟨h1, h2, _⟩ := cu_ok _ hs _ (Nat.le_refl _)
  refine ⟨h1, fun y => ?_⟩
  show y ∈ Lib.compactUpTo _ _ ↔ _
  rw [h2, List.take_length, List.mem_mergeSort]
theorem uniq_at (all : List Tx) (x : Tx) : at_ (uniq all) x = rank all x := at_rank (uniq_ok all).1 (uniq_ok all).2 x
theorem compact_len (zs : List Tx) : (Lib.compact zs).length ≤ zs.length := by
  unfold Lib.compact Lib.compactUpTo
  rw [List.length_map]
  exact Nat.le_trans (List.length_filter_le _ _) (by simp)
theorem uniq_len (all : List Tx) : (uniq all).length ≤ all.length := by
  have := compact_len (all.mergeSort fun x y => decide (x ≤ y))
  rwa [List.length_mergeSort] at this
theorem rise_at {l : List Tx} (h : Rises l) {i j : Nat} (hi : i < j) (hj : j < l.length) : l[i] < l[j] := List.pairwise_iff_getElem.1 h i j (by omega) hj hi
theorem at_found : ∀ (l : List Tx) (s : Tx) (i : Nat), i ≤ l.length → (∀ t (h : t < l.length), t < i → l[t] < s) → (∀ h : i < l.length, ¬ l[i] < s) → at_ l s = i
  | [], s, i, hi, _, _ => by simp at hi; subst hi; rfl
  | x :: l, s, 0, _, _, h2 => at_cons_no (h2 (by simp)) l
  | x :: l, s, i + 1, hi, h1, h2 => by
    have hx : x < s := h1 0 (by simp) (by omega)
    rw [at_cons_yes hx]
    rw [at_found l s i (by simpa using hi) (fun t h ht => h1 (t + 1) (by simpa using h) (by omega)) (fun h => h2 (by simpa using h))]

end Go.Proofs.YtldllbmbcnipoaaDoor.Tk

namespace Go.Proofs.YtldllbmbcnipoaaDoor.Tk
open Go.RowKit
set_option linter.unusedVariables false

theorem nan_any (x : ByteArray) (w : World) : Calls Tryd.prog 78 #[.string x] w fun e w' => e = .returned (.bool false) ∧ w = w' := by
  have e1 : (x.toList == x.toList) = true := by simp
  go_enter Tryd.func78, Tryd.ntmps78
  go_wp2_with fail
  go_ret
  exact ⟨rfl, rfl⟩
theorem nan2_any (x : ByteArray) (w : World) : Calls Tryd.prog 65 #[.string x] w fun e w' => e = .returned (.bool false) ∧ w = w' := by
  have e1 : (x.toList == x.toList) = true := by simp
  go_enter Tryd.func65, Tryd.ntmps65
  go_wp2_with fail
  go_ret
  exact ⟨rfl, rfl⟩
theorem S_less (x y : Tx) : Op.bytesLess (S x).toList (S y).toList = decide (x < y) := by rw [S_toList, S_toList, less_eq]
theorem less_any (x y : Tx) (w : World) : Calls Tryd.prog 60 #[.string (S x), .string (S y)] w fun e w' => e = .returned (.bool (decide (x < y))) ∧ w = w' := by
  have H := Lib.hid (S_less x y)
  generalize S x = a at *
  generalize S y = b at *
  go_enter Tryd.func60, Tryd.ntmps60
  go_wp2_with fail
  refine (nan_any a _).mono ?_
  rintro e w' ⟨rfl, rfl⟩
  go_wp2_with fail
  go_ret
  exact ⟨by rw [H.out]; rfl, rfl⟩

set_option maxHeartbeats 1600000 in
theorem search_any (v : Value) (xs : List Tx) (s : Tx) (w : World) (h : Rd w v xs) (hr : Rises xs) (hx : xs.length ≤ 1000000) :
    Calls Tryd.prog 40 #[v, .string (S s)] w fun e w' => ∃ f : Value, e = .returned (.tuple #[.int .i64 (at_ xs s), f]) ∧ w = w' := by
  obtain ⟨ao, ca, rfl, hca, hax⟩ := h
  by_cases h0 : xs = []
  · have hz : xs.length = 0 := by rw [h0]; rfl
    have Ha : Hid (at_ xs s = 0) := Lib.hid (by rw [h0]; rfl)
    rw [hz]
    clear hax h0 hz
    go_enter Tryd.func40, Tryd.ntmps40
    go_wp2_with fail
    go_loop [7, 8] (fun i j => i = .int .i64 0 ∧ j = .int .i64 0) (fun _ _ => 0)
    case atStart => exact ⟨rfl, rfl⟩
    case round =>
      obtain ⟨rfl, rfl⟩ := hrel
      go_wp2_with fail
      go_ret2
      rw [Ha.out]; exact ⟨⟨Value.bool false, rfl⟩, rfl⟩
  rcases hax with hax | ⟨b, o, rfl, hlt, hcell⟩
  · exact absurd hax h0
  have HC := Lib.hid hcell
  have HR := Lib.hid hr
  clear hcell hr h0
  go_enter Tryd.func40, Tryd.ntmps40
  go_wp2_with fail
  go_loop [7, 8] (fun i j => ∃ lo hi : Nat, i = .int .i64 lo ∧ j = .int .i64 hi ∧ lo ≤ hi ∧ hi ≤ xs.length ∧ Hid ((∀ t (h : t < xs.length), t < lo → xs[t] < s) ∧ (∀ t (h : t < xs.length), hi ≤ t → ¬ xs[t] < s))) (fun i j => (intOf j).toNat - (intOf i).toNat)
  case atStart => exact ⟨0, xs.length, rfl, rfl, Nat.zero_le _, Nat.le_refl _, Lib.hid ⟨fun t _ h => absurd h (Nat.not_lt_zero _), fun t h1 h2 => by omega⟩⟩
  case round =>
    obtain ⟨lo, hi, rfl, rfl, hlh, hin, I⟩ := hrel
    by_cases hlt2 : lo < hi
    · have hm : (lo + hi) / 2 < xs.length := by omega
      have k1 : w.cell? ⟨b, o + (lo + hi) / 2, none⟩ = some (.string (S xs[(lo + hi) / 2])) := HC.out _ _ (get_lt hm)
      have C := Lib.hid (less_any xs[(lo + hi) / 2] s)
      by_cases hy : xs[(lo + hi) / 2] < s
      · rw [decide_eq_true hy] at C
        have I2 : Hid ((∀ t (h : t < xs.length), t < (lo + hi) / 2 + 1 → xs[t] < s) ∧ (∀ t (h : t < xs.length), hi ≤ t → ¬ xs[t] < s)) := Lib.hid ⟨fun t h1 h2 => by
          by_cases e : t = (lo + hi) / 2
          · subst e; exact hy
          · exact List.lt_trans (rise_at HR.out (show t < (lo + hi) / 2 by omega) hm) hy, I.out.2⟩
        clear hy I
        generalize S xs[(lo + hi) / 2] = y at *
        go_wp2_with fail
        refine (C.out _).mono ?_
        rintro e w' ⟨rfl, rfl⟩
        go_wp2_with fail
        go_round
        case rel => exact ⟨(lo + hi) / 2 + 1, hi, by rw [show ((lo : Int) + (hi : Int)) / 2 + 1 = (((lo + hi) / 2 + 1 : Nat) : Int) by omega], rfl, by omega, hin, I2⟩
        case measure => simp [intOf]; omega
      · rw [decide_eq_false hy] at C
        have I2 : Hid ((∀ t (h : t < xs.length), t < lo → xs[t] < s) ∧ (∀ t (h : t < xs.length), (lo + hi) / 2 ≤ t → ¬ xs[t] < s)) := Lib.hid ⟨I.out.1, fun t h1 h2 h3 => by
          by_cases e : t = (lo + hi) / 2
          · subst e; exact hy h3
          · exact hy (List.lt_trans (rise_at HR.out (show (lo + hi) / 2 < t by omega) h1) h3)⟩
        clear hy I
        generalize S xs[(lo + hi) / 2] = y at *
        go_wp2_with fail
        refine (C.out _).mono ?_
        rintro e w' ⟨rfl, rfl⟩
        go_wp2_with fail
        go_round
        case rel => exact ⟨lo, (lo + hi) / 2, rfl, by rw [show ((lo : Int) + (hi : Int)) / 2 = (((lo + hi) / 2 : Nat) : Int) by omega], by omega, by omega, I2⟩
        case measure => simp [intOf]; omega
    · obtain rfl : hi = lo := by omega
      have Ha : Hid (at_ xs s = hi) := Lib.hid (at_found xs s hi hin I.out.1 (fun h => I.out.2 hi h (Nat.le_refl _)))
      clear I
      by_cases hn : hi < xs.length
      · have k1 : w.cell? ⟨b, o + hi, none⟩ = some (.string (S xs[hi])) := HC.out _ _ (get_lt hn)
        have d1 : decide ((hi : Int) < (xs.length : Int)) = true := decide_eq_true (by omega)
        generalize S xs[hi] = y at *
        cases e1 : (y.toList == (S s).toList) with
        | true =>
          go_wp2_with fail
          go_ret2
          rw [Ha.out]; first | exact ⟨_, rfl, rfl⟩ | exact ⟨⟨_, rfl⟩, rfl⟩
        | false =>
          go_wp2_with fail
          refine (nan2_any y _).mono ?_
          rintro e w' ⟨rfl, rfl⟩
          go_wp2_with fail
          go_ret2
          rw [Ha.out]; first | exact ⟨_, rfl, rfl⟩ | exact ⟨⟨_, rfl⟩, rfl⟩
      · have d1 : decide ((hi : Int) < (xs.length : Int)) = false := decide_eq_false (by omega)
        go_wp2_with fail
        go_ret2
        rw [Ha.out]; first | exact ⟨_, rfl, rfl⟩ | exact ⟨⟨_, rfl⟩, rfl⟩

end Go.Proofs.YtldllbmbcnipoaaDoor.Tk
