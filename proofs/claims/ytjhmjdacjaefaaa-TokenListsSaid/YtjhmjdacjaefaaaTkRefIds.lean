/-
  CONTRACTS of the document's at, put, Ids, Same (emendationref03): the document's numbers.
-/
import Derived.Test.YtjhmjdacjaefaaaTkIds
namespace Go.Proofs.Ytjhmjdacjaefaaa.Tk
open Go.RowKit
set_option linter.unusedVariables false

theorem geti {xs : List Int} {k : Nat} (h : k < xs.length) : xs[k]? = some xs[k] := List.getElem?_eq_getElem h
theorem take_nextI {xs ys : List Int} {k : Nat} (h1 : k < xs.length) (h2 : k < ys.length) (h : xs.take k = ys.take k) (e : xs[k] = ys[k]) : xs.take (k + 1) = ys.take (k + 1) := by
  rw [List.take_add_one, List.take_add_one, geti h1, geti h2, h, e]

set_option maxHeartbeats 800000 in
theorem rsame_any (lo1 lo2 : Nat) (a b : Value) (xs ys : List Int) (w : World) (ha : RdI lo1 w a xs) (hb : RdI lo2 w b ys) (hx : xs.length ≤ 1000000) (hy : ys.length ≤ 1000000) :
    Calls Try.prog 16 #[a, b] w fun e w' => e = .returned (.bool (decide (xs = ys))) ∧ ∃ n, w' = w.drewN n := by
  obtain ⟨ao, ca, rfl, hax⟩ := ha
  obtain ⟨bo, cb, rfl, hbx⟩ := hb
  by_cases hl : xs.length = ys.length
  · have e0 : ((xs.length : Int) != (ys.length : Int)) = false := by simp [hl]
    by_cases h0 : xs = []
    · have Hf : Hid (decide (xs = ys) = true) := Lib.hid (by subst h0; simpa using (List.eq_nil_of_length_eq_zero hl.symm))
      have hz : xs.length = 0 := by rw [h0]; rfl
      have hz2 : ys.length = 0 := by omega
      rw [hz, hz2]
      clear hax hbx h0 e0 hl
      go_enter Try.func16, Try.ntmps16
      go_wp2_with fail
      go_loop [13] (fun i => i = .int .i64 0) (fun i => 0)
      case atStart => rfl
      case round =>
        subst hrel
        go_wp2_with fail
        go_ret
        exact ⟨by rw [Hf.out]; rfl, 0, rfl⟩
    · rcases hax with hax | ⟨b1, rfl, _, hb1, hc1⟩
      · exact absurd hax h0
      rcases hbx with hbx | ⟨b2, rfl, _, hb2, hc2⟩
      · exact absurd (List.eq_nil_of_length_eq_zero (by rw [hl, hbx]; rfl)) h0
      have H1 := Lib.hid hc1
      have H2 := Lib.hid hc2
      clear hc1 hc2 h0
      go_enter Try.func16, Try.ntmps16
      go_wp2_with fail
      go_loopw [13] (fun i wr => ∃ k n : Nat, k ≤ xs.length ∧ i = .int .i64 k ∧ wr = w.drewN n ∧ Hid (xs.take k = ys.take k)) (fun i _ => xs.length - (intOf i).toNat)
      case atStart => exact ⟨0, 0, Nat.zero_le _, rfl, rfl, Lib.hid rfl⟩
      case round =>
        obtain ⟨k, n, hk, rfl, hwr, HT⟩ := hrel
        by_cases hlt : k < xs.length
        · have hlt2 : k < ys.length := by omega
          have k1 : wr.cell? ⟨b1, k, none⟩ = some (.int .i64 xs[k]) := by rw [hwr]; exact H1.out k _ (geti hlt)
          have k2 : wr.cell? ⟨b2, k, none⟩ = some (.int .i64 ys[k]) := by rw [hwr]; exact H2.out k _ (geti hlt2)
          have hi1 : (k : Int) < (xs.length : Int) := by omega
          have hi2 : (k : Int) < (ys.length : Int) := by omega
          have HW := Lib.hid hwr
          by_cases he : xs[k] = ys[k]
          · have HT2 := Lib.hid (take_nextI hlt hlt2 HT.out he)
            have e1 : (xs[k] != ys[k]) = false := by simp [he]
            clear HT he hwr
            generalize xs[k] = x at *
            generalize ys[k] = y at *
            go_wp2_with fail
            go_quiet (fail)
            go_wp2_with fail
            go_roundw
            case rel => exact ⟨k + 1, n + nq, by omega, by go_num, by rw [HW.out, World.drewN_drewN], HT2⟩
            case measure => simp [intOf]; omega
          · have Hf : Hid (decide (xs = ys) = false) := Lib.hid (decide_eq_false (fun h => he (by subst h; rfl)))
            have e1 : (xs[k] != ys[k]) = true := by simpa using he
            clear HT he hwr
            generalize xs[k] = x at *
            generalize ys[k] = y at *
            go_wp2_with fail
            go_quiet (fail)
            go_wp2_with fail
            go_ret
            exact ⟨by rw [Hf.out]; rfl, n + nq, by rw [HW.out, World.drewN_drewN]⟩
        · have Hf : Hid (decide (xs = ys) = true) := Lib.hid (decide_eq_true (by have := HT.out; rwa [List.take_of_length_le (by omega), List.take_of_length_le (by omega)] at this))
          have HW := Lib.hid hwr
          clear HT hwr
          go_wp2_with fail
          go_ret
          exact ⟨by rw [Hf.out]; rfl, n, HW.out⟩
  · have e0 : ((xs.length : Int) != (ys.length : Int)) = true := by simp; omega
    have Hf : Hid (decide (xs = ys) = false) := Lib.hid (decide_eq_false (fun h => hl (by rw [h])))
    clear hax hbx hl
    go_enter Try.func16, Try.ntmps16
    go_wp2_with fail
    go_ret
    exact ⟨by rw [Hf.out]; rfl, 0, rfl⟩

set_option maxHeartbeats 800000 in
theorem rat_any (v : Value) (l : List Tx) (s : Tx) (w : World) (h : Rd w v l) (hl : l.length ≤ 1000000) :
    Calls Try.prog 26 #[v, .string (S s)] w fun e w' => e = .returned (.int .i64 (at_ l s)) ∧ w = w' := by
  obtain ⟨ao, ca, rfl, hca, hax⟩ := h
  have H := Lib.hid hax
  clear hax
  go_enter Try.func26, Try.ntmps26
  go_wp2_with fail
  go_loop [5] (fun i => ∃ k : Nat, k ≤ l.length ∧ i = .int .i64 k ∧ Hid (at_ l s = k + at_ (l.drop k) s)) (fun i => l.length - (intOf i).toNat)
  case atStart => exact ⟨0, Nat.zero_le _, rfl, Lib.hid (by simp)⟩
  case round =>
    obtain ⟨k, hk, rfl, HA⟩ := hrel
    by_cases hlt : k < l.length
    · rcases H.out with h0 | ⟨b, o, rfl, hbl, hcell⟩
      · rw [h0] at hlt; exact absurd hlt (Nat.not_lt_zero _)
      have k1 := hcell k _ (get_lt hlt)
      have hd : l.drop k = l[k] :: l.drop (k + 1) := List.drop_eq_getElem_cons hlt
      have d1 : decide ((k : Int) < (l.length : Int)) = true := decide_eq_true (by omega)
      have hs := S_less l[k] s
      by_cases hy : l[k] < s
      · have HA2 : Hid (at_ l s = (k + 1) + at_ (l.drop (k + 1)) s) := Lib.hid (by rw [HA.out, hd, at_cons_yes hy]; omega)
        rw [decide_eq_true hy] at hs
        clear hcell hd hy HA
        generalize S l[k] = y at *
        go_wp2_with fail
        go_round
        case rel => exact ⟨k + 1, by omega, by go_num, HA2⟩
        case measure => simp [intOf]; omega
      · have HA2 : Hid (at_ l s = k) := Lib.hid (by rw [HA.out, hd, at_cons_no hy]; rfl)
        rw [decide_eq_false hy] at hs
        clear hcell hd hy HA
        generalize S l[k] = y at *
        go_wp2_with fail
        go_ret
        exact ⟨by rw [HA2.out]; rfl, rfl⟩
    · have HA2 : Hid (at_ l s = k) := Lib.hid (by rw [HA.out, List.drop_eq_nil_of_le (by omega)]; rfl)
      have d1 : decide ((k : Int) < (l.length : Int)) = false := decide_eq_false (by omega)
      clear HA
      go_wp2_with fail
      go_ret
      exact ⟨by rw [HA2.out]; rfl, rfl⟩

end Go.Proofs.Ytjhmjdacjaefaaa.Tk
