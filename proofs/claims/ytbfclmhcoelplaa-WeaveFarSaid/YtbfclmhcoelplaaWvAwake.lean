/-
  CONTRACTS of the document's Same over numbers (emendationref03), and of the statements' own 'awake'.
-/
import Derived.Test.YtbfclmhcoelplaaWvTold
namespace Go.Proofs.Ytbfclmhcoelplaa.Wv
open Go.RowKit Go.Proofs.Ytbfclmhcoelplaa.Cm Go.Proofs.Ytbfclmhcoelplaa.Lc
set_option linter.unusedVariables false

set_option maxHeartbeats 800000 in
theorem rsame3_any (a b : Value) (xs ys : List Int) (w : World) (ha : Rz w a xs) (hb : Rz w b ys) (hx : xs.length ≤ 1000000) (hy : ys.length ≤ 1000000) :
    Calls Try.prog 20 #[a, b] w fun e w' => e = .returned (.bool (decide (xs = ys))) ∧ ∃ n, w' = w.drewN n := by
  obtain ⟨ao, ca, rfl⟩ := ha.len
  obtain ⟨bo, cb, rfl⟩ := hb.len
  have FA := Lib.hid ha.at
  have FB := Lib.hid hb.at
  clear ha hb
  by_cases hl : xs.length = ys.length
  · have e0 : ((xs.length : Int) != (ys.length : Int)) = false := by simp [hl]
    go_enter Try.func20, Try.ntmps20
    go_wp2_with fail
    go_loopw [13] (fun i wr => ∃ k n : Nat, k ≤ xs.length ∧ i = .int .i64 k ∧ wr = w.drewN n ∧ Hid (xs.take k = ys.take k)) (fun i _ => xs.length - (intOf i).toNat)
    case atStart => exact ⟨0, 0, Nat.zero_le _, rfl, rfl, Lib.hid rfl⟩
    case round =>
      obtain ⟨k, n, hk, rfl, hwr, HT⟩ := hrel
      have HW := Lib.hid hwr
      by_cases hlt : k < xs.length
      · have hlt2 : k < ys.length := by omega
        obtain ⟨b1, o1, rfl, hb1, c1⟩ := FA.out k hlt
        obtain ⟨b2, o2, rfl, hb2, c2⟩ := FB.out k hlt2
        have k1 : wr.cell? ⟨b1, o1 + k, none⟩ = some (.int .i64 xs[k]) := by rw [hwr]; exact c1
        have k2 : wr.cell? ⟨b2, o2 + k, none⟩ = some (.int .i64 ys[k]) := by rw [hwr]; exact c2
        have hi1 : (k : Int) < (xs.length : Int) := by omega
        have hi2 : (k : Int) < (ys.length : Int) := by omega
        by_cases he : xs[k] = ys[k]
        · have HT2 := Lib.hid (take_nextI hlt hlt2 HT.out he)
          have e1 : (xs[k] != ys[k]) = false := by simp [he]
          clear HT he hwr c1 c2
          generalize xs[k] = x at *
          generalize ys[k] = y at *
          go_wp2_with fail
          go_quiet (fail)
          go_wp2_with fail
          go_roundw
          case rel => exact ⟨k + 1, n + nq, by omega, by go_num, by rw [HW.out, World.drewN_drewN], HT2⟩
          case measure => simp [intOf] <;> omega
        · have Hf : Hid (decide (xs = ys) = false) := Lib.hid (decide_eq_false (fun h => he (by subst h; rfl)))
          have e1 : (xs[k] != ys[k]) = true := by simpa using he
          clear HT he hwr c1 c2
          generalize xs[k] = x at *
          generalize ys[k] = y at *
          go_wp2_with fail
          go_quiet (fail)
          go_wp2_with fail
          go_ret
          exact ⟨by rw [Hf.out]; rfl, n + nq, by rw [HW.out, World.drewN_drewN]⟩
      · have Hf : Hid (decide (xs = ys) = true) := Lib.hid (decide_eq_true (by have := HT.out; rwa [List.take_of_length_le (by omega), List.take_of_length_le (by omega)] at this))
        clear HT hwr
        go_wp2_with fail
        go_ret
        exact ⟨by rw [Hf.out]; rfl, n, HW.out⟩
  · have e0 : ((xs.length : Int) != (ys.length : Int)) = true := by simp; omega
    have Hf : Hid (decide (xs = ys) = false) := Lib.hid (decide_eq_false (fun h => hl (by rw [h])))
    clear hl
    go_enter Try.func20, Try.ntmps20
    go_wp2_with fail
    go_ret
    exact ⟨by rw [Hf.out]; rfl, 0, rfl⟩


theorem merge_awake : merge [1, 2, 3] [1, 4, 3] [1, 2, 3, 5] = ([1, 4, 3, 5], true) := by
  have h1 : pairs [1, 2, 3] [1, 4, 3] = [(0, 0), (2, 2)] := by simp [pairs, pp, lcs]
  have h2 : pairs [1, 2, 3] [1, 2, 3, 5] = [(0, 0), (1, 1), (2, 2)] := by simp [pairs, pp]
  unfold merge chunks
  rw [h1, h2]
  rfl
theorem rz_lit {w : World} {xs : List Int} {us : Array Value} {t : TypeId} (h : us.toList = xs.map (Value.int .i64)) : Rz (w.alloc (.cells us t)) (.slice (some ⟨w.heap.size, 0, none⟩) xs.length xs.length) xs := by
  refine ⟨_, _, rfl, Nat.le_refl _, Or.inr ⟨w.heap.size, 0, rfl, by simp, fun j x hj => ?_⟩⟩
  rw [Nat.zero_add, World.cell?_alloc_new, ← Array.getElem?_toList, h, List.getElem?_map, hj]
  rfl
theorem rz_nil (w : World) : Rz w (.slice none 0 0) [] := ⟨none, 0, rfl, Nat.le_refl _, Or.inl rfl⟩

set_option maxHeartbeats 1600000 in
theorem awake5_any (K : Told) (w : World) :
    Calls Try.prog 10 #[] w fun e w' => e = .returned (.bool true) ∧ Below w.heap.size w w' := by
  have b1 : ∀ (w1 : World) o, Below w1.heap.size w1 (w1.alloc o) := fun w1 o => (Below.refl _ _).alloc (Nat.le_refl _) _
  have hm := K.merge _ _ _ [1, 2, 3] [1, 4, 3] [1, 2, 3, 5] (((w.alloc (.cells #[.int .i64 1, .int .i64 2, .int .i64 3] 3)).alloc (.cells #[.int .i64 1, .int .i64 4, .int .i64 3] 3)).alloc (.cells #[.int .i64 1, .int .i64 2, .int .i64 3, .int .i64 5] 3))
    (((rz_lit rfl).below (b1 _ _)).below (b1 _ _)) ((rz_lit rfl).below (b1 _ _)) (rz_lit rfl) (by decide) (by decide) (by decide)
  unfold MergeOk at hm
  rw [merge_awake] at hm
  have HM := Lib.hid hm
  have HB := Lib.hid ((((Below.refl w.heap.size w).alloc (Nat.le_refl _) (.cells #[.int .i64 1, .int .i64 2, .int .i64 3] 3)).alloc (by simp) (.cells #[.int .i64 1, .int .i64 4, .int .i64 3] 3)).alloc (by simp; omega) (.cells #[.int .i64 1, .int .i64 2, .int .i64 3, .int .i64 5] 3))
  clear hm b1
  go_enter Try.func10, Try.ntmps10
  go_wp2_with fail
  refine calls_at (by simp) HM.out ?_
  rintro e w1 ⟨v, rfl, r, hb⟩
  have B1 := Lib.hid (HB.out.trans (hb.mono (by simp; omega)))
  obtain ⟨ao, ca, rfl⟩ := r.len
  obtain ⟨b, o, rfl, hb1, c1⟩ := r.at 1 (by decide)
  obtain ⟨b', o', he, _, c3⟩ := r.at 3 (by decide)
  simp only [Option.some.injEq, Addr.mk.injEq, and_true] at he
  obtain ⟨rfl, rfl⟩ := he
  replace c1 : w1.cell? ⟨b, o + 1, none⟩ = some (.int .i64 4) := c1
  replace c3 : w1.cell? ⟨b, o + 3, none⟩ = some (.int .i64 5) := c3
  clear hb HB HM r
  simp only [List.length_cons, List.length_nil]
  go_wp2_with fail
  go_ret
  exact ⟨rfl, B1.out⟩

end Go.Proofs.Ytbfclmhcoelplaa.Wv
