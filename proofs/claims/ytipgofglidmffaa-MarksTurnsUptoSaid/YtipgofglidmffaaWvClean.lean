/-
  CONTRACTS of weave's part, of slices.Equal at ints, of Clean.
-/
import Derived.Test.YtipgofglidmffaaWvSmall
namespace Go.Proofs.Ytipgofglidmffaa.Wv
open Go.RowKit Go.Proofs.Ytipgofglidmffaa.Cm Go.Proofs.Ytipgofglidmffaa.Lc
set_option linter.unusedVariables false

set_option maxHeartbeats 1600000 in
theorem wpart_any (v : Value) (l : List Int) (i j : Nat) (w : World) (h : Rz w v l) (hij : i ≤ j) (hj : j ≤ l.length) (hl : l.length ≤ 1000000) :
    Calls Try.prog 32 #[v, .agg #[.int .i64 i, .int .i64 j]] w (PartOk w (part l i j)) := by
  have hpl := part_len l (a := i) hj
  have H := Lib.hid h
  obtain ⟨ao, ca, rfl, hca, hx⟩ := h
  by_cases h0 : l = []
  · have hz : l.length = 0 := by rw [h0]; rfl
    obtain rfl : j = 0 := by omega
    obtain rfl : i = 0 := by omega
    have HP : Hid (part l 0 0 = []) := Lib.hid (by rw [h0]; rfl)
    clear hx h0 hpl H
    rw [hz]
    have main : ∀ ao : Option Addr, (ao = none ∨ ∃ b o p, ao = some ⟨b, o, p⟩) → Calls Try.prog 32 #[.slice ao 0 ca, .agg #[.int .i64 ((0 : Nat) : Int), .int .i64 ((0 : Nat) : Int)]] w (PartOk w (part l 0 0)) := by
      intro ao hao
      rw [HP.out]
      rcases hao with rfl | ⟨b, o, p, rfl⟩
      all_goals (
        go_enter Try.func32, Try.ntmps32
        go_wp2_with fail
        go_ret
        exact ⟨_, rfl, ⟨_, _, rfl, Nat.zero_le _, Or.inl rfl⟩, (Below.refl _ _).alloc (Nat.le_refl _) _⟩)
    refine main ao ?_
    cases ao with
    | none => exact Or.inl rfl
    | some a => exact Or.inr ⟨a.block, a.off, a.spot, rfl⟩
  · rcases hx with hx | ⟨b, o, rfl, hb, hcell⟩
    · exact absurd hx h0
    have HC := Lib.hid hcell
    clear hcell h0 H
    by_cases hic : i < ca
    · have HR : Hid (∀ w', Below w.heap.size w w' → Rz w' (.slice (some ⟨b, o + i, none⟩) (j - i) (ca - i)) (part l i j)) := Lib.hid (fun w' hb' => by
        refine ⟨_, ca - i, by rw [hpl], by omega, Or.inr ⟨b, o + i, rfl, Nat.lt_of_lt_of_le hb hb'.size, fun q x hq => ?_⟩⟩
        have hql : q < j - i := by
          have := (List.getElem?_eq_some_iff.1 hq).1
          omega
        rw [part_getElem? l i j q hql] at hq
        rw [Nat.add_assoc]
        exact (hb'.cell (by exact hb)).trans (HC.out _ x hq))
      have ha := Lib.hid ((Below.refl w.heap.size w).alloc (Nat.le_refl _) (.cells #[.int .i64 (i : Int), .int .i64 (j : Int)] 58))
      have hicn : ¬ ca ≤ i := by omega
      go_enter Try.func32, Try.ntmps32
      go_wp2_with fail
      go_ret
      exact ⟨_, rfl, HR.out _ ha.out, ha.out⟩
    · obtain rfl : i = ca := by omega
      obtain rfl : j = i := by omega
      have HP : Hid (part l j j = []) := Lib.hid (List.eq_nil_of_length_eq_zero (by omega))
      have hlj : l.length = j := by omega
      have ha := Lib.hid ((Below.refl w.heap.size w).alloc (Nat.le_refl _) (.cells #[.int .i64 (j : Int), .int .i64 (j : Int)] 58))
      rw [HP.out]
      clear hic
      go_enter Try.func32, Try.ntmps32
      go_wp2_with fail
      go_ret
      exact ⟨_, rfl, ⟨_, _, rfl, Nat.zero_le _, Or.inl rfl⟩, ha.out⟩

set_option maxHeartbeats 800000 in
theorem equal_any (a b : Value) (xs ys : List Int) (w : World) (ha : Rz w a xs) (hb : Rz w b ys) (hx : xs.length ≤ 1000000) (hy : ys.length ≤ 1000000) :
    Calls Try.prog 33 #[a, b] w fun e w' => e = .returned (.bool (decide (xs = ys))) ∧ ∃ n, w' = w.drewN n := by
  obtain ⟨ao, ca, rfl⟩ := ha.len
  obtain ⟨bo, cb, rfl⟩ := hb.len
  have FA := Lib.hid ha.at
  have FB := Lib.hid hb.at
  clear ha hb
  by_cases hl : xs.length = ys.length
  · have e0 : ((xs.length : Int) != (ys.length : Int)) = false := by simp [hl]
    go_enter Try.func33, Try.ntmps33
    go_wp2_with fail
    go_loopw [13] (fun i wr => ∃ k n : Nat, k ≤ xs.length ∧ i = .int .i64 k ∧ wr = w.drewN n ∧ Hid (xs.take k = ys.take k)) (fun i _ => xs.length - (intOf i).toNat)
    case atStart => exact ⟨0, 0, Nat.zero_le _, rfl, rfl, Lib.hid rfl⟩
    case round =>
      obtain ⟨k, n, hk, rfl, hwr, HT⟩ := hrel
      have HW := Lib.hid hwr
      by_cases hlt : k < xs.length
      · have hlt2 : k < ys.length := by omega
        obtain ⟨b1, o1, rfl, hb1, c1⟩ := FA.out k hlt
        obtain ⟨b2, o2, rfl, hb2, c2⟩ := FB.out k hlt2
        have k1 : wr.cell? ⟨b1, o1 + k, none⟩ = some (.int .i64 xs[k]) := by rw [hwr]; exact c1
        have k2 : wr.cell? ⟨b2, o2 + k, none⟩ = some (.int .i64 ys[k]) := by rw [hwr]; exact c2
        have hi1 : (k : Int) < (xs.length : Int) := by omega
        have hi2 : (k : Int) < (ys.length : Int) := by omega
        by_cases he : xs[k] = ys[k]
        · have HT2 := Lib.hid (take_nextI hlt hlt2 HT.out he)
          have e1 : (xs[k] != ys[k]) = false := by simp [he]
          clear HT he hwr c1 c2
          generalize xs[k] = x at *
          generalize ys[k] = y at *
          go_wp2_with fail
          go_quiet (fail)
          go_wp2_with fail
          go_roundw
          case rel => exact ⟨k + 1, n + nq, by omega, by go_num, by rw [HW.out, World.drewN_drewN], HT2⟩
          case measure => simp [intOf] <;> omega
        · have Hf : Hid (decide (xs = ys) = false) := Lib.hid (decide_eq_false (fun h => he (by subst h; rfl)))
          have e1 : (xs[k] != ys[k]) = true := by simpa using he
          clear HT he hwr c1 c2
          generalize xs[k] = x at *
          generalize ys[k] = y at *
          go_wp2_with fail
          go_quiet (fail)
          go_wp2_with fail
          go_ret
          exact ⟨by rw [Hf.out]; rfl, n + nq, by rw [HW.out, World.drewN_drewN]⟩
      · have Hf : Hid (decide (xs = ys) = true) := Lib.hid (decide_eq_true (by have := HT.out; rwa [List.take_of_length_le (by omega), List.take_of_length_le (by omega)] at this))
        clear HT hwr
        go_wp2_with fail
        go_ret
        exact ⟨by rw [Hf.out]; rfl, n, HW.out⟩
  · have e0 : ((xs.length : Int) != (ys.length : Int)) = true := by simp; omega
    have Hf : Hid (decide (xs = ys) = false) := Lib.hid (decide_eq_false (fun h => hl (by rw [h])))
    clear hl
    go_enter Try.func33, Try.ntmps33
    go_wp2_with fail
    go_ret
    exact ⟨by rw [Hf.out]; rfl, 0, rfl⟩


/-- A place of a clash, or none. -/
def fst5 (l : List Ch) : Int := match l.findIdx? (fun c => c.out == 5) with | some i => i | none => -1
theorem fst5_pos (l : List Ch) : decide (0 ≤ fst5 l) = !(cleanB l) := by
  unfold fst5 cleanB
  cases h : l.findIdx? (fun c => c.out == 5) with
  | none =>
    rw [List.findIdx?_eq_none_iff] at h
    simp only
    rw [show decide ((0 : Int) ≤ -1) = false from rfl]
    symm
    rw [Bool.not_eq_false', List.all_eq_true]
    intro c hc
    have := h c hc
    simpa using this
  | some i =>
    obtain ⟨hi, h1, _⟩ := List.findIdx?_eq_some_iff_getElem.1 h
    simp only
    rw [decide_eq_true (by omega)]
    symm
    rw [Bool.not_eq_true', List.all_eq_false]
    exact ⟨l[i], List.getElem_mem hi, by simpa using h1⟩
theorem fst5_at {l : List Ch} {i : Nat} (hi : i < l.length) (h : l[i].out = 5) (hn : ∀ j (hj : j < l.length), j < i → l[j].out ≠ 5) : fst5 l = i := by
  unfold fst5
  rw [List.findIdx?_eq_some_iff_getElem.2 ⟨hi, by simpa using h, fun j hj => by simpa using hn j (by omega) hj⟩]
theorem fst5_none {l : List Ch} (hn : ∀ j (hj : j < l.length), l[j].out ≠ 5) : fst5 l = -1 := by
  unfold fst5
  rw [List.findIdx?_eq_none_iff.2 (fun c hc => by obtain ⟨j, hj, rfl⟩ := List.mem_iff_getElem.1 hc; simpa using hn j hj)]

end Go.Proofs.Ytipgofglidmffaa.Wv
