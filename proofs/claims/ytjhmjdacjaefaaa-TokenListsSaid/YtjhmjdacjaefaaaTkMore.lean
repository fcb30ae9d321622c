/-
  CONTRACTS of the statements' own 'awake' and 'few', and of token.Join.
-/
import Derived.Test.YtjhmjdacjaefaaaTkRef
import Derived.Test.YtjhmjdacjaefaaaShelf
import Derived.Lib.SlBytesRow
namespace Go.Proofs.Ytjhmjdacjaefaaa.Tk
open Go.RowKit
set_option linter.unusedVariables false

set_option maxHeartbeats 800000 in
theorem awake_any (w : World) :
    Calls Try.prog 10 #[] w fun e w' => e = .returned (.bool true) ∧ Below w.heap.size w w' := by
  have hs := cut_any (S [97, 98, 44, 32, 99]) (by decide) w
  rw [S_list, show toks [97, 98, 44, 32, 99] = [[97, 98], [44], [32], [99]] from by decide] at hs
  have Hs : Hid (Calls Try.prog 12 #[.string ⟨#[97, 98, 44, 32, 99]⟩] w fun e w' => ∃ v, e = .returned v ∧ w'.ownsRow w.heap.size 9 1 v 4 ([[97, 98], [44], [32], [99]].map encStr) ∧ Below w.heap.size w w') := Lib.hid hs
  clear hs
  go_enter Try.func10, Try.ntmps10
  go_wp2_with fail
  refine Hs.out.mono ?_
  rintro e w1 ⟨v, rfl, hown, hb1⟩
  rcases hown.2 with ⟨_, h0⟩ | ⟨g, cap, cur, rfl, hB, hg, hn, hm, hsz, ht⟩
  · exact absurd h0 (by decide)
  have hc : w1.cell? ⟨g, 0, none⟩ = some (.string ⟨#[97, 98]⟩) := by rw [hown.cellAt 0 (by decide)]; rfl
  have hd : w1.cell? ⟨g, 1, none⟩ = some (.string ⟨#[44]⟩) := by rw [hown.cellAt 1 (by decide)]; rfl
  have Hb := Lib.hid hb1
  clear hown hg ht hsz hB Hs hb1
  go_wp2_with fail
  go_ret
  exact ⟨rfl, Hb.out⟩

/-- Texts of a size that is looked at. -/
def fewB (xs : List (List UInt8)) : Bool := decide (xs.length ≤ 60) && xs.all fun x => decide (x.length ≤ 1000)
theorem few_of {xs : List (List UInt8)} (h : fewB xs = true) : xs.length ≤ 60 ∧ ∀ x ∈ xs, x.length ≤ 1000 := by
  simpa [fewB] using h
theorem few_big {xs : List (List UInt8)} (h : 60 < xs.length) : fewB xs = false := by
  unfold fewB; rw [decide_eq_false (by omega)]; rfl
theorem few_long {xs : List (List UInt8)} {k : Nat} (hk : k < xs.length) (h : 1000 < xs[k].length) : fewB xs = false := by
  cases hf : fewB xs with
  | false => rfl
  | true => have := (few_of hf).2 _ (List.getElem_mem hk); omega
theorem few_all {xs : List (List UInt8)} (h : xs.length ≤ 60) (ha : ∀ j (hj : j < xs.length), xs[j].length ≤ 1000) : fewB xs = true := by
  unfold fewB
  rw [decide_eq_true h, Bool.true_and, List.all_eq_true]
  intro x hx
  obtain ⟨j, hj, rfl⟩ := List.getElem_of_mem hx
  exact decide_eq_true (ha j hj)

theorem few_any (v : Value) (xs : List (List UInt8)) (w : World) (h : Rd w v xs) (hx : xs.length ≤ 9223372036854775807) :
    Calls Try.prog 14 #[v] w fun e w' => e = .returned (.bool (fewB xs)) ∧ w = w' := by
  obtain ⟨ao, ca, rfl, hca, hax⟩ := h
  by_cases h2 : 60 < xs.length
  · have Hf := Lib.hid (few_big h2)
    clear hax
    go_enter Try.func14, Try.ntmps14
    go_wp2_with fail
    go_ret
    exact ⟨by rw [Hf.out]; rfl, rfl⟩
  by_cases h0 : xs = []
  · have Hf : Hid (fewB xs = true) := Lib.hid (by rw [h0]; rfl)
    have hz : xs.length = 0 := by rw [h0]; rfl
    rw [hz]
    clear hax h0 h2
    go_enter Try.func14, Try.ntmps14
    go_wp2_with fail
    go_loop [9] (fun i => i = .int .i64 0) (fun i => 0)
    case atStart => rfl
    case round =>
      subst hrel
      go_wp2_with fail
      go_ret
      exact ⟨by rw [Hf.out]; rfl, rfl⟩
  · rcases hax with hax | ⟨b1, o1, rfl, hb1, hc1⟩
    · exact absurd hax h0
    have H1 := Lib.hid hc1
    clear hc1 h0
    go_enter Try.func14, Try.ntmps14
    go_wp2_with fail
    go_loop [9] (fun i => ∃ k : Nat, k ≤ xs.length ∧ i = .int .i64 k ∧ Hid (∀ j (hj : j < xs.length), j < k → xs[j].length ≤ 1000)) (fun i => xs.length - (intOf i).toNat)
    case atStart => exact ⟨0, Nat.zero_le _, rfl, Lib.hid (fun j _ h => absurd h (Nat.not_lt_zero _))⟩
    case round =>
      obtain ⟨k, hk, rfl, HT⟩ := hrel
      by_cases hlt : k < xs.length
      · have k1 : w.cell? ⟨b1, o1 + k, none⟩ = some (.string (S xs[k])) := H1.out k _ (get_lt hlt)
        have hsz := S_size xs[k]
        by_cases he : 1000 < xs[k].length
        · have Hf := Lib.hid (few_long hlt he)
          clear HT
          generalize xs[k] = x at *
          have d1 : 1000 < (S x).size := by omega
          go_wp2_with fail
          go_ret
          exact ⟨by rw [Hf.out]; rfl, rfl⟩
        · have HT2 : Hid (∀ j (hj : j < xs.length), j < k + 1 → xs[j].length ≤ 1000) := Lib.hid (fun j hj h => by
            by_cases hjk : j = k
            · subst hjk; omega
            · exact HT.out j hj (by omega))
          clear HT
          generalize xs[k] = x at *
          have d1 : (S x).size ≤ 1000 := by omega
          go_wp2_with fail
          go_round
          case rel => exact ⟨k + 1, by omega, by go_num, HT2⟩
          case measure => simp [intOf]; omega
      · have Hf := Lib.hid (few_all (by omega) (fun j hj => HT.out j hj (by omega)))
        clear HT
        go_wp2_with fail
        go_ret
        exact ⟨by rw [Hf.out]; rfl, rfl⟩


theorem map_S (xs : List (List UInt8)) : (xs.map S).map (·.data.toList) = xs := by
  rw [List.map_map]
  conv => rhs; rw [← List.map_id xs]
  exact List.map_congr_left (fun x _ => S_list x)
theorem join_flat : ∀ xs : List (List UInt8), Lib.join xs [] = xs.flatten
  | [] => rfl
  | [x] => by simp [Lib.join]
  | x :: y :: r => by
    have h := join_flat (y :: r)
    rw [List.flatten_cons, ← h]
    simp [Lib.join]

theorem join_any (v : Value) (xs : List (List UInt8)) (w : World) (h : Rd w v xs) (hx : xs.length ≤ 1000000) (hf : xs.flatten.length ≤ 1000000) :
    Calls Try.prog 18 #[v] w fun r w' => r = .returned (.string (S xs.flatten)) ∧ Below w.heap.size w w' := by
  obtain ⟨ao, ca, rfl, hca, hax⟩ := h
  have HC : Hid (Calls Try.prog 27 #[.slice ao xs.length ca, .string ⟨#[]⟩] w fun r w' => r = .returned (.string (S xs.flatten)) ∧ Below w.heap.size w w') := by
    rcases hax with rfl | ⟨b, o, rfl, hlt, hcell⟩
    · exact Lib.hid ((Try.strings_Join_none ao ca ⟨#[]⟩ w).mono fun r w' ⟨hr, hw⟩ => ⟨hr, hw ▸ Below.refl _ _⟩)
    · have := Try.strings_Join b o ca (xs.map S) ⟨#[]⟩ w (fun j x hj => by
          rw [List.getElem?_map] at hj
          cases hx : xs[j]? with
          | none => rw [hx] at hj; simp at hj
          | some y => rw [hx] at hj; simp at hj; rw [← hj]; exact hcell j y hx) hlt (by rw [List.length_map]; omega) (by rw [List.length_map]; exact hca)
          (by rw [map_S]; show (Lib.join xs []).length ≤ _; rw [join_flat]; omega)
      rw [List.length_map, map_S] at this
      refine Lib.hid (this.mono fun r w' ⟨hr, hw⟩ => ⟨?_, hw⟩)
      rw [hr]
      show Ending.returned (.string ⟨(Lib.join xs []).toArray⟩) = _
      rw [join_flat]
      rfl
  clear hax
  go_enter Try.func18, Try.ntmps18
  go_wp2_with fail
  refine HC.out.mono ?_
  rintro r w1 ⟨rfl, hb⟩
  have Hb := Lib.hid hb
  clear hb
  go_wp2_with fail
  go_ret
  exact ⟨rfl, Hb.out⟩

end Go.Proofs.Ytjhmjdacjaefaaa.Tk
