/-
  CONTRACTS over slices of strings: the document's Same, Join (emendationref02), lines.Join, and the statements' own 'few', 'awake'.
-/
import Derived.Test.YtkldndmmjgodbaaDoorLnSplit
import Derived.BigQuiet
import Derived.WalkSmall
namespace Go.Proofs.YtkldndmmjgodbaaDoor.Ln
open Go.RowKit
set_option linter.unusedVariables false

/-- A slice that reads as these strings. -/
def Rd (w : World) (v : Value) (xs : List (List UInt8)) : Prop :=
  ∃ ao cap, v = .slice ao xs.length cap ∧ xs.length ≤ cap ∧ (xs = [] ∨ ∃ b o, ao = some ⟨b, o, none⟩ ∧ b < w.heap.size ∧ ∀ j x, xs[j]? = some x → w.cell? ⟨b, o + j, none⟩ = some (.string (S x)))
theorem Rd.below {w w' : World} {v : Value} {xs : List (List UInt8)} (h : Rd w v xs) (hb : Below w.heap.size w w') : Rd w' v xs := by
  obtain ⟨ao, cap, hv, hc, hx⟩ := h
  refine ⟨ao, cap, hv, hc, ?_⟩
  rcases hx with hx | ⟨b, o, hao, hlt, hcell⟩
  · exact Or.inl hx
  · exact Or.inr ⟨b, o, hao, Nat.lt_of_lt_of_le hlt hb.size, fun j x hj => (hb.cell (by exact hlt)).trans (hcell j x hj)⟩
theorem Rd.of_own {w : World} {B : Nat} {e : TypeId} {v : Value} {xs : List (List UInt8)} (h : w.ownsRow B e 1 v xs.length (xs.map encStr)) : Rd w v xs := by
  rcases h.2 with ⟨hv, hn⟩ | ⟨g, cap, cur, hv, hB, hg, hn, hm, hsz, ht⟩
  · exact ⟨none, 0, by rw [hv, hn], by omega, Or.inl (List.eq_nil_of_length_eq_zero hn)⟩
  · refine ⟨_, cap, hv, hn, Or.inr ⟨g, 0, rfl, (Array.getElem?_eq_some_iff.1 hg).1, fun j x hj => ?_⟩⟩
    have hjl := (List.getElem?_eq_some_iff.1 hj).1
    subst hv
    rw [Nat.zero_add, h.cellAt j (by omega), List.getElem?_map, hj]
    rfl
theorem Rd.len {w : World} {v : Value} {xs : List (List UInt8)} (h : Rd w v xs) : ∃ ao cap, v = .slice ao xs.length cap := by
  obtain ⟨ao, cap, hv, _⟩ := h; exact ⟨ao, cap, hv⟩

theorem get_lt {xs : List (List UInt8)} {k : Nat} (h : k < xs.length) : xs[k]? = some xs[k] := List.getElem?_eq_getElem h
theorem take_next {xs ys : List (List UInt8)} {k : Nat} (h1 : k < xs.length) (h2 : k < ys.length) (h : xs.take k = ys.take k) (e : xs[k] = ys[k]) : xs.take (k + 1) = ys.take (k + 1) := by
  rw [List.take_add_one, List.take_add_one, get_lt h1, get_lt h2, h, e]
theorem take_off {xs ys : List (List UInt8)} {k : Nat} (h1 : k < xs.length) (h2 : k < ys.length) (e : xs[k] ≠ ys[k]) : xs ≠ ys := by
  intro h; subst h; exact e rfl

set_option maxHeartbeats 800000 in
theorem same_any (a b : Value) (xs ys : List (List UInt8)) (w : World) (ha : Rd w a xs) (hb : Rd w b ys) (hx : xs.length ≤ 1000000) (hy : ys.length ≤ 1000000) :
    Calls Tryd.prog 14 #[a, b] w fun e w' => e = .returned (.bool (decide (xs = ys))) ∧ Below w.heap.size w w' := by
  obtain ⟨ao, ca, rfl, hca, hax⟩ := ha
  obtain ⟨bo, cb, rfl, hcb, hbx⟩ := hb
  by_cases hl : xs.length = ys.length
  · have e0 : ((xs.length : Int) == (ys.length : Int)) = true := by simp [hl]
    by_cases h0 : xs = []
    · have Hf : Hid (decide (xs = ys) = true) := Lib.hid (by subst h0; simpa using (List.eq_nil_of_length_eq_zero hl.symm))
      have hz : xs.length = 0 := by rw [h0]; rfl
      have hz2 : ys.length = 0 := by omega
      rw [hz, hz2]
      clear hax hbx h0 e0 hl
      go_enter Tryd.func14, Tryd.ntmps14
      go_wp2_with fail
      go_loop [13] (fun i => i = .int .i64 0) (fun i => 0)
      case atStart => rfl
      case round =>
        subst hrel
        go_wp2_with fail
        go_ret
        exact ⟨by rw [Hf.out]; rfl, Below.refl _ _⟩
    · rcases hax with hax | ⟨b1, o1, rfl, hb1, hc1⟩
      · exact absurd hax h0
      rcases hbx with hbx | ⟨b2, o2, rfl, hb2, hc2⟩
      · exact absurd (List.eq_nil_of_length_eq_zero (by rw [hl, hbx]; rfl)) h0
      have H1 := Lib.hid hc1
      have H2 := Lib.hid hc2
      clear hc1 hc2 h0
      go_enter Tryd.func14, Tryd.ntmps14
      go_wp2_with fail
      go_loopw [13] (fun i wr => ∃ k : Nat, k ≤ xs.length ∧ i = .int .i64 k ∧ Below w.heap.size w wr ∧ Hid (xs.take k = ys.take k)) (fun i _ => xs.length - (intOf i).toNat)
      case atStart => exact ⟨0, Nat.zero_le _, rfl, Below.refl _ _, Lib.hid rfl⟩
      case round =>
        obtain ⟨k, hk, rfl, hbel, HT⟩ := hrel
        by_cases hlt : k < xs.length
        · have hlt2 : k < ys.length := by omega
          have k1 : wr.cell? ⟨b1, o1 + k, none⟩ = some (.string (S xs[k])) := (hbel.cell (by exact hb1)).trans (H1.out k _ (get_lt hlt))
          have k2 : wr.cell? ⟨b2, o2 + k, none⟩ = some (.string (S ys[k])) := (hbel.cell (by exact hb2)).trans (H2.out k _ (get_lt hlt2))
          by_cases he : xs[k] = ys[k]
          · have HT2 := Lib.hid (take_next hlt hlt2 HT.out he)
            have e1 : ((S xs[k]).toList == (S ys[k]).toList) = true := by rw [he]; simp
            have Hb := Lib.hid hbel
            clear hbel HT he
            generalize xs[k] = x at *
            generalize ys[k] = y at *
            go_wp2_with fail
            go_quiet (fail)
            go_wp2_with fail
            go_roundw
            case rel => exact ⟨k + 1, by omega, by go_num, below_drewN Hb.out _, HT2⟩
            case measure => simp [intOf]; omega
          · have Hf : Hid (decide (xs = ys) = false) := Lib.hid (decide_eq_false (take_off hlt hlt2 he))
            have e1 : ((S xs[k]).toList == (S ys[k]).toList) = false := by rw [S_toList, S_toList]; simpa using he
            have Hb := Lib.hid hbel
            clear hbel HT he
            generalize xs[k] = x at *
            generalize ys[k] = y at *
            go_wp2_with fail
            go_quiet (fail)
            go_wp2_with fail
            go_ret
            exact ⟨by rw [Hf.out]; rfl, below_drewN Hb.out _⟩
        · have Hf : Hid (decide (xs = ys) = true) := Lib.hid (decide_eq_true (by have := HT.out; rwa [List.take_of_length_le (by omega), List.take_of_length_le (by omega)] at this))
          clear HT
          go_wp2_with fail
          go_ret
          exact ⟨by rw [Hf.out]; rfl, hbel⟩
  · have e0 : ((xs.length : Int) == (ys.length : Int)) = false := by simp; omega
    have Hf : Hid (decide (xs = ys) = false) := Lib.hid (decide_eq_false (fun h => hl (by rw [h])))
    clear hax hbx hl
    go_enter Tryd.func14, Tryd.ntmps14
    go_wp2_with fail
    go_ret
    exact ⟨by rw [Hf.out]; rfl, Below.refl _ _⟩

/-- Lines of a size that is looked at. -/
def fewB (xs : List (List UInt8)) : Bool := decide (xs.length ≤ 200) && xs.all fun x => decide (x.length ≤ 1000)
theorem few_of {xs : List (List UInt8)} (h : fewB xs = true) : xs.length ≤ 200 ∧ ∀ x ∈ xs, x.length ≤ 1000 := by
  simpa [fewB] using h
theorem few_big {xs : List (List UInt8)} (h : 200 < xs.length) : fewB xs = false := by
  unfold fewB; rw [decide_eq_false (by omega)]; rfl
theorem few_long {xs : List (List UInt8)} {k : Nat} (hk : k < xs.length) (h : 1000 < xs[k].length) : fewB xs = false := by
  cases hf : fewB xs with
  | false => rfl
  | true => have := (few_of hf).2 _ (List.getElem_mem hk); omega
theorem few_all {xs : List (List UInt8)} (h : xs.length ≤ 200) (ha : ∀ j (hj : j < xs.length), xs[j].length ≤ 1000) : fewB xs = true := by
  unfold fewB
  rw [decide_eq_true h, Bool.true_and, List.all_eq_true]
  intro x hx
  obtain ⟨j, hj, rfl⟩ := List.getElem_of_mem hx
  exact decide_eq_true (ha j hj)

theorem few_any (v : Value) (xs : List (List UInt8)) (w : World) (h : Rd w v xs) (hx : xs.length ≤ 9223372036854775807) :
    Calls Tryd.prog 11 #[v] w fun e w' => e = .returned (.bool (fewB xs)) ∧ w = w' := by
  obtain ⟨ao, ca, rfl, hca, hax⟩ := h
  by_cases h2 : 200 < xs.length
  · have Hf := Lib.hid (few_big h2)
    clear hax
    go_enter Tryd.func11, Tryd.ntmps11
    go_wp2_with fail
    go_ret
    exact ⟨by rw [Hf.out]; rfl, rfl⟩
  by_cases h0 : xs = []
  · have Hf : Hid (fewB xs = true) := Lib.hid (by rw [h0]; rfl)
    have hz : xs.length = 0 := by rw [h0]; rfl
    rw [hz]
    clear hax h0 h2
    go_enter Tryd.func11, Tryd.ntmps11
    go_wp2_with fail
    go_loop [9] (fun i => i = .int .i64 0) (fun i => 0)
    case atStart => rfl
    case round =>
      subst hrel
      go_wp2_with fail
      go_ret
      exact ⟨by rw [Hf.out]; rfl, rfl⟩
  · rcases hax with hax | ⟨b1, o1, rfl, hb1, hc1⟩
    · exact absurd hax h0
    have H1 := Lib.hid hc1
    clear hc1 h0
    go_enter Tryd.func11, Tryd.ntmps11
    go_wp2_with fail
    go_loop [9] (fun i => ∃ k : Nat, k ≤ xs.length ∧ i = .int .i64 k ∧ Hid (∀ j (hj : j < xs.length), j < k → xs[j].length ≤ 1000)) (fun i => xs.length - (intOf i).toNat)
    case atStart => exact ⟨0, Nat.zero_le _, rfl, Lib.hid (fun j _ h => absurd h (Nat.not_lt_zero _))⟩
    case round =>
      obtain ⟨k, hk, rfl, HT⟩ := hrel
      by_cases hlt : k < xs.length
      · have k1 : w.cell? ⟨b1, o1 + k, none⟩ = some (.string (S xs[k])) := H1.out k _ (get_lt hlt)
        have hsz := S_size xs[k]
        by_cases he : 1000 < xs[k].length
        · have Hf := Lib.hid (few_long hlt he)
          clear HT
          generalize xs[k] = x at *
          have d1 : 1000 < (S x).size := by omega
          go_wp2_with fail
          go_ret
          exact ⟨by rw [Hf.out]; rfl, rfl⟩
        · have HT2 : Hid (∀ j (hj : j < xs.length), j < k + 1 → xs[j].length ≤ 1000) := Lib.hid (fun j hj h => by
            by_cases hjk : j = k
            · subst hjk; omega
            · exact HT.out j hj (by omega))
          clear HT
          generalize xs[k] = x at *
          have d1 : (S x).size ≤ 1000 := by omega
          go_wp2_with fail
          go_round
          case rel => exact ⟨k + 1, by omega, by go_num, HT2⟩
          case measure => simp [intOf]; omega
      · have Hf := Lib.hid (few_all (by omega) (fun j hj => HT.out j hj (by omega)))
        clear HT
        go_wp2_with fail
        go_ret
        exact ⟨by rw [Hf.out]; rfl, rfl⟩

end Go.Proofs.YtkldndmmjgodbaaDoor.Ln
