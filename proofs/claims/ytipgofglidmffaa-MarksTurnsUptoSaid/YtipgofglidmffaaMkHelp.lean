/-
  CONTRACTS of the statements' own few and named.
-/
import Derived.Test.YtipgofglidmffaaMkAround
namespace Go.Proofs.Ytipgofglidmffaa.Mk
open Go.RowKit Go.Proofs.Ytipgofglidmffaa.Tk
set_option linter.unusedVariables false

/-- Lines of a size that is looked at. -/
def fewB (xs : List (List UInt8)) : Bool := decide (xs.length ≤ 40) && xs.all fun x => decide (x.length ≤ 2000)
theorem few_of {xs : List (List UInt8)} (h : fewB xs = true) : xs.length ≤ 40 ∧ ∀ x ∈ xs, x.length ≤ 2000 := by
  simpa [fewB] using h
theorem few_big {xs : List (List UInt8)} (h : 40 < xs.length) : fewB xs = false := by
  unfold fewB; rw [decide_eq_false (by omega)]; rfl
theorem few_long {xs : List (List UInt8)} {k : Nat} (hk : k < xs.length) (h : 2000 < xs[k].length) : fewB xs = false := by
  cases hf : fewB xs with
  | false => rfl
  | true => have := (few_of hf).2 _ (List.getElem_mem hk); omega
theorem few_all {xs : List (List UInt8)} (h : xs.length ≤ 40) (ha : ∀ j (hj : j < xs.length), xs[j].length ≤ 2000) : fewB xs = true := by
  unfold fewB
  rw [decide_eq_true h, Bool.true_and, List.all_eq_true]
  intro x hx
  obtain ⟨j, hj, rfl⟩ := List.getElem_of_mem hx
  exact decide_eq_true (ha j hj)

theorem few_any (v : Value) (xs : List (List UInt8)) (w : World) (h : Rd w v xs) (hx : xs.length ≤ 9223372036854775807) :
    Calls Try.prog 7 #[v] w fun e w' => e = .returned (.bool (fewB xs)) ∧ w = w' := by
  obtain ⟨ao, ca, rfl, hca, hax⟩ := h
  by_cases h2 : 40 < xs.length
  · have Hf := Lib.hid (few_big h2)
    clear hax
    go_enter Try.func7, Try.ntmps7
    go_wp2_with fail
    go_ret
    exact ⟨by rw [Hf.out]; rfl, rfl⟩
  by_cases h0 : xs = []
  · have Hf : Hid (fewB xs = true) := Lib.hid (by rw [h0]; rfl)
    have hz : xs.length = 0 := by rw [h0]; rfl
    rw [hz]
    clear hax h0 h2
    go_enter Try.func7, Try.ntmps7
    go_wp2_with fail
    go_loop [9] (fun i => i = .int .i64 0) (fun i => 0)
    case atStart => rfl
    case round =>
      subst hrel
      go_wp2_with fail
      go_ret
      exact ⟨by rw [Hf.out]; rfl, rfl⟩
  · rcases hax with hax | ⟨b1, o1, rfl, hb1, hc1⟩
    · exact absurd hax h0
    have H1 := Lib.hid hc1
    clear hc1 h0
    go_enter Try.func7, Try.ntmps7
    go_wp2_with fail
    go_loop [9] (fun i => ∃ k : Nat, k ≤ xs.length ∧ i = .int .i64 k ∧ Hid (∀ j (hj : j < xs.length), j < k → xs[j].length ≤ 2000)) (fun i => xs.length - (intOf i).toNat)
    case atStart => exact ⟨0, Nat.zero_le _, rfl, Lib.hid (fun j _ h => absurd h (Nat.not_lt_zero _))⟩
    case round =>
      obtain ⟨k, hk, rfl, HT⟩ := hrel
      by_cases hlt : k < xs.length
      · have k1 : w.cell? ⟨b1, o1 + k, none⟩ = some (.string (S xs[k])) := H1.out k _ (get_lt hlt)
        have hsz := S_size xs[k]
        by_cases he : 2000 < xs[k].length
        · have Hf := Lib.hid (few_long hlt he)
          clear HT
          generalize xs[k] = x at *
          have d1 : 2000 < (S x).size := by omega
          go_wp2_with fail
          go_ret
          exact ⟨by rw [Hf.out]; rfl, rfl⟩
        · have HT2 : Hid (∀ j (hj : j < xs.length), j < k + 1 → xs[j].length ≤ 2000) := Lib.hid (fun j hj h => by
            by_cases hjk : j = k
            · subst hjk; omega
            · exact HT.out j hj (by omega))
          clear HT
          generalize xs[k] = x at *
          have d1 : (S x).size ≤ 2000 := by omega
          go_wp2_with fail
          go_round
          case rel => exact ⟨k + 1, by omega, by go_num, HT2⟩
          case measure => simp [intOf]; omega
      · have Hf := Lib.hid (few_all (by omega) (fun j hj => HT.out j hj (by omega)))
        clear HT
        go_wp2_with fail
        go_ret
        exact ⟨by rw [Hf.out]; rfl, rfl⟩


theorem named_any (a b c : ByteArray) (w : World) (ha : a.size ≤ 140737488355328) (hb : b.size ≤ 140737488355328) (hc : c.size ≤ 140737488355328) :
    Calls Try.prog 8 #[.agg #[.string a, .string b, .string c]] w fun e w' => e = .returned (.bool (decide (a.size + b.size + c.size < 1000))) ∧ Below w.heap.size w w' := by
  have HB := Lib.hid ((Below.refl w.heap.size w).alloc (Nat.le_refl _) (.cells #[.string a, .string b, .string c] 23))
  have HD : Hid (decide (((a.size : Int) + (b.size : Int) + (c.size : Int)) < 1000) = decide (a.size + b.size + c.size < 1000)) := Lib.hid (by rw [decide_eq_decide]; omega)
  have w1 : IntKind.i64.wrap ((a.size : Int) + (b.size : Int)) = (a.size : Int) + (b.size : Int) := by rw [IntKind.wrap_i64]; omega
  have w2 : IntKind.i64.wrap ((a.size : Int) + (b.size : Int) + (c.size : Int)) = (a.size : Int) + (b.size : Int) + (c.size : Int) := by rw [IntKind.wrap_i64]; omega
  go_enter Try.func8, Try.ntmps8
  go_wp2_with fail
  go_ret
  refine ⟨?_, HB.out⟩
  rw [← HD.out]
  rfl

end Go.Proofs.Ytipgofglidmffaa.Mk
