/-
  CONTRACTS of weave's part, of slices.Equal at ints, of Clean.
-/
import Derived.Test.YtbfclmhcoelplaaWvSmall
namespace Go.Proofs.Ytbfclmhcoelplaa.Wv
open Go.RowKit Go.Proofs.Ytbfclmhcoelplaa.Cm Go.Proofs.Ytbfclmhcoelplaa.Lc
set_option linter.unusedVariables false

set_option maxHeartbeats 1600000 in
theorem wpart_any (v : Value) (l : List Int) (i j : Nat) (w : World) (h : Rz w v l) (hij : i ≤ j) (hj : j ≤ l.length) (hl : l.length ≤ 1000000) :
    Calls Try.prog 22 #[v, .agg #[.int .i64 i, .int .i64 j]] w (PartOk w (part l i j)) := by
  have hpl := part_len l (a := i) hj
  have H := Lib.hid h
  obtain ⟨ao, ca, rfl, hca, hx⟩ := h
  by_cases h0 : l = []
  · have hz : l.length = 0 := by rw [h0]; rfl
    obtain rfl : j = 0 := by omega
    obtain rfl : i = 0 := by omega
    have HP : Hid (part l 0 0 = []) := Lib.hid (by rw [h0]; rfl)
    clear hx h0 hpl H
    rw [hz]
    have main : ∀ ao : Option Addr, (ao = none ∨ ∃ b o p, ao = some ⟨b, o, p⟩) → Calls Try.prog 22 #[.slice ao 0 ca, .agg #[.int .i64 ((0 : Nat) : Int), .int .i64 ((0 : Nat) : Int)]] w (PartOk w (part l 0 0)) := by
      intro ao hao
      rw [HP.out]
      rcases hao with rfl | ⟨b, o, p, rfl⟩
      all_goals (
        go_enter Try.func22, Try.ntmps22
        go_wp2_with fail
        go_ret
        exact ⟨_, rfl, ⟨_, _, rfl, Nat.zero_le _, Or.inl rfl⟩, (Below.refl _ _).alloc (Nat.le_refl _) _⟩)
    refine main ao ?_
    cases ao with
    | none => exact Or.inl rfl
    | some a => exact Or.inr ⟨a.block, a.off, a.spot, rfl⟩
  · rcases hx with hx | ⟨b, o, rfl, hb, hcell⟩
    · exact absurd hx h0
    have HC := Lib.hid hcell
    clear hcell h0 H
    by_cases hic : i < ca
    · have HR : Hid (∀ w', Below w.heap.size w w' → Rz w' (.slice (some ⟨b, o + i, none⟩) (j - i) (ca - i)) (part l i j)) := Lib.hid (fun w' hb' => by
        refine ⟨_, ca - i, by rw [hpl], by omega, Or.inr ⟨b, o + i, rfl, Nat.lt_of_lt_of_le hb hb'.size, fun q x hq => ?_⟩⟩
        have hql : q < j - i := by
          have := (List.getElem?_eq_some_iff.1 hq).1
          omega
        rw [part_getElem? l i j q hql] at hq
        rw [Nat.add_assoc]
        exact (hb'.cell (by exact hb)).trans (HC.out _ x hq))
      have ha := Lib.hid ((Below.refl w.heap.size w).alloc (Nat.le_refl _) (.cells #[.int .i64 (i : Int), .int .i64 (j : Int)] 37))
      have hicn : ¬ ca ≤ i := by omega
      go_enter Try.func22, Try.ntmps22
      go_wp2_with fail
      go_ret
      exact ⟨_, rfl, HR.out _ ha.out, ha.out⟩
    · obtain rfl : i = ca := by omega
      obtain rfl : j = i := by omega
      have HP : Hid (part l j j = []) := Lib.hid (List.eq_nil_of_length_eq_zero (by omega))
      have hlj : l.length = j := by omega
      have ha := Lib.hid ((Below.refl w.heap.size w).alloc (Nat.le_refl _) (.cells #[.int .i64 (j : Int), .int .i64 (j : Int)] 37))
      rw [HP.out]
      clear hic
      go_enter Try.func22, Try.ntmps22
      go_wp2_with fail
      go_ret
      exact ⟨_, rfl, ⟨_, _, rfl, Nat.zero_le _, Or.inl rfl⟩, ha.out⟩

set_option maxHeartbeats 800000 in
theorem equal_any (a b : Value) (xs ys : List Int) (w : World) (ha : Rz w a xs) (hb : Rz w b ys) (hx : xs.length ≤ 1000000) (hy : ys.length ≤ 1000000) :
    Calls Try.prog 23 #[a, b] w fun e w' => e = .returned (.bool (decide (xs = ys))) ∧ ∃ n, w' = w.drewN n := by
  obtain ⟨ao, ca, rfl⟩ := ha.len
  obtain ⟨bo, cb, rfl⟩ := hb.len
  have FA := Lib.hid ha.at
  have FB := Lib.hid hb.at
  clear ha hb
  by_cases hl : xs.length = ys.length
  · have e0 : ((xs.length : Int) != (ys.length : Int)) = false := by simp [hl]
    go_enter Try.func23, Try.ntmps23
    go_wp2_with fail
    go_loopw [13] (fun i wr => ∃ k n : Nat, k ≤ xs.length ∧ i = .int .i64 k ∧ wr = w.drewN n ∧ Hid (xs.take k = ys.take k)) (fun i _ => xs.length - (intOf i).toNat)
    case atStart => exact ⟨0, 0, Nat.zero_le _, rfl, rfl, Lib.hid rfl⟩
    case round =>
      obtain ⟨k, n, hk, rfl, hwr, HT⟩ := hrel
      have HW := Lib.hid hwr
      by_cases hlt : k < xs.length
      · have hlt2 : k < ys.length := by omega
        obtain ⟨b1, o1, rfl, hb1, c1⟩ := FA.out k hlt
        obtain ⟨b2, o2, rfl, hb2, c2⟩ := FB.out k hlt2
        have k1 : wr.cell? ⟨b1, o1 + k, none⟩ = some (.int .i64 xs[k]) := by rw [hwr]; exact c1
        have k2 : wr.cell? ⟨b2, o2 + k, none⟩ = some (.int .i64 ys[k]) := by rw [hwr]; exact c2
        have hi1 : (k : Int) < (xs.length : Int) := by omega
        have hi2 : (k : Int) < (ys.length : Int) := by omega
        by_cases he : xs[k] = ys[k]
        · have HT2 := Lib.hid (take_nextI hlt hlt2 HT.out he)
          have e1 : (xs[k] != ys[k]) = false := by simp [he]
          clear HT he hwr c1 c2
          generalize xs[k] = x at *
          generalize ys[k] = y at *
          go_wp2_with fail
          go_quiet (fail)
          go_wp2_with fail
          go_roundw
          case rel => exact ⟨k + 1, n + nq, by omega, by go_num, by rw [HW.out, World.drewN_drewN], HT2⟩
          case measure => simp [intOf] <;> omega
        · have Hf : Hid (decide (xs = ys) = false) := Lib.hid (decide_eq_false (fun h => he (by subst h; rfl)))
          have e1 : (xs[k] != ys[k]) = true := by simpa using he
          clear HT he hwr c1 c2
          generalize xs[k] = x at *
          generalize ys[k] = y at *
          go_wp2_with fail
          go_quiet (fail)
          go_wp2_with fail
          go_ret
          exact ⟨by rw [Hf.out]; rfl, n + nq, by rw [HW.out, World.drewN_drewN]⟩
      · have Hf : Hid (decide (xs = ys) = true) := Lib.hid (decide_eq_true (by have := HT.out; rwa [List.take_of_length_le (by omega), List.take_of_length_le (by omega)] at this))
        clear HT hwr
        go_wp2_with fail
        go_ret
        exact ⟨by rw [Hf.out]; rfl, n, HW.out⟩
  · have e0 : ((xs.length : Int) != (ys.length : Int)) = true := by simp; omega
    have Hf : Hid (decide (xs = ys) = false) := Lib.hid (decide_eq_false (fun h => hl (by rw [h])))
    clear hl
    go_enter Try.func23, Try.ntmps23
    go_wp2_with fail
    go_ret
    exact ⟨by rw [Hf.out]; rfl, 0, rfl⟩


theorem clash_any (c : Ch) (w : World) :
    Calls Try.prog 36 #[vC c] w fun e w' => e = .returned (.bool (c.out == 5)) ∧ Below w.heap.size w w' := by
  obtain ⟨x, x', y, y', z, z', o⟩ := c
  have H : Hid (((o : Int) == 5) = (o == 5)) := Lib.hid (by rw [Bool.eq_iff_iff, beq_iff_eq, beq_iff_eq]; omega)
  show Calls Try.prog 36 #[.agg #[.int .i64 (x : Nat), .int .i64 (x' : Nat), .int .i64 (y : Nat), .int .i64 (y' : Nat), .int .i64 (z : Nat), .int .i64 (z' : Nat), .int .i64 (o : Nat)]] w _
  go_enter Try.func36, Try.ntmps36
  go_wp2_with fail
  go_ret
  exact ⟨by rw [← H.out]; rfl, (Below.refl _ w).alloc (Nat.le_refl _) _⟩

/-- A place of a clash, or none. -/
def fst5 (l : List Ch) : Int := match l.findIdx? (fun c => c.out == 5) with | some i => i | none => -1
theorem fst5_pos (l : List Ch) : decide (0 ≤ fst5 l) = !(cleanB l) := by
  unfold fst5 cleanB
  cases h : l.findIdx? (fun c => c.out == 5) with
  | none =>
    rw [List.findIdx?_eq_none_iff] at h
    simp only
    rw [show decide ((0 : Int) ≤ -1) = false from rfl]
    symm
    rw [Bool.not_eq_false', List.all_eq_true]
    intro c hc
    have := h c hc
    simpa using this
  | some i =>
    obtain ⟨hi, h1, _⟩ := List.findIdx?_eq_some_iff_getElem.1 h
    simp only
    rw [decide_eq_true (by omega)]
    symm
    rw [Bool.not_eq_true', List.all_eq_false]
    exact ⟨l[i], List.getElem_mem hi, by simpa using h1⟩
theorem fst5_at {l : List Ch} {i : Nat} (hi : i < l.length) (h : l[i].out = 5) (hn : ∀ j (hj : j < l.length), j < i → l[j].out ≠ 5) : fst5 l = i := by
  unfold fst5
  rw [List.findIdx?_eq_some_iff_getElem.2 ⟨hi, by simpa using h, fun j hj => by simpa using hn j (by omega) hj⟩]
theorem fst5_none {l : List Ch} (hn : ∀ j (hj : j < l.length), l[j].out ≠ 5) : fst5 l = -1 := by
  unfold fst5
  rw [List.findIdx?_eq_none_iff.2 (fun c hc => by obtain ⟨j, hj, rfl⟩ := List.mem_iff_getElem.1 hc; simpa using hn j hj)]

set_option maxHeartbeats 1600000 in
theorem indexFunc_any (v : Value) (l : List Ch) (w : World) (h : Rk 7 encC w v l) (hl : l.length ≤ 100000) :
    Calls Try.prog 40 #[v, .func (.func 36) #[] #[]] w fun e w' => e = .returned (.int .i64 (fst5 l)) ∧ Below w.heap.size w w' := by
  obtain ⟨ao, ca, rfl⟩ := h.len
  have F := Lib.hid (Rk.seven h)
  clear h
  go_enter Try.func40, Try.ntmps40
  go_wp2_with fail
  go_loopw [8] (fun s wr => ∃ k : Nat, k ≤ l.length ∧ s = .int .i64 k ∧ Below w.heap.size w wr ∧ Hid (∀ j (hj : j < l.length), j < k → l[j].out ≠ 5)) (fun s _ => l.length - (intOf s).toNat)
  case atStart => exact ⟨0, Nat.zero_le _, rfl, Below.refl _ _, Lib.hid (fun j _ hj => absurd hj (Nat.not_lt_zero _))⟩
  case round =>
    obtain ⟨k, hk, rfl, hbe, HN⟩ := hrel
    have Hb := Lib.hid hbe
    clear hbe
    by_cases hlt : k < l.length
    · obtain ⟨b, o, rfl, hb, f0, f1, f2, f3, f4, f5, f6⟩ := F.out k hlt
      have p0 : wr.cell? ⟨b, o + k * 7, none⟩ = some (.int .i64 l[k].b1) := (Hb.out.cell (by exact hb)).trans f0
      have p1 : wr.cell? ⟨b, o + k * 7 + 1, none⟩ = some (.int .i64 l[k].b2) := (Hb.out.cell (by exact hb)).trans f1
      have p2 : wr.cell? ⟨b, o + k * 7 + 2, none⟩ = some (.int .i64 l[k].o1) := (Hb.out.cell (by exact hb)).trans f2
      have p3 : wr.cell? ⟨b, o + k * 7 + 3, none⟩ = some (.int .i64 l[k].o2) := (Hb.out.cell (by exact hb)).trans f3
      have p4 : wr.cell? ⟨b, o + k * 7 + 4, none⟩ = some (.int .i64 l[k].t1) := (Hb.out.cell (by exact hb)).trans f4
      have p5 : wr.cell? ⟨b, o + k * 7 + 5, none⟩ = some (.int .i64 l[k].t2) := (Hb.out.cell (by exact hb)).trans f5
      have p6 : wr.cell? ⟨b, o + k * 7 + 6, none⟩ = some (.int .i64 l[k].out) := (Hb.out.cell (by exact hb)).trans f6
      have C := clash_any l[k] wr
      unfold vC at C
      obtain ⟨j, hj⟩ : ∃ j : Bool, (l[k].out == 5) = j := ⟨_, rfl⟩
      rw [hj] at C
      have HJ := Lib.hid hj
      clear f0 f1 f2 f3 f4 f5 f6 hj
      generalize (l[k].b1 : Int) = x0 at *
      generalize (l[k].b2 : Int) = x1 at *
      generalize (l[k].o1 : Int) = x2 at *
      generalize (l[k].o2 : Int) = x3 at *
      generalize (l[k].t1 : Int) = x4 at *
      generalize (l[k].t2 : Int) = x5 at *
      generalize (l[k].out : Int) = x6 at *
      go_wp2_with fail
      refine C.mono ?_
      rintro e w2 ⟨rfl, hb2⟩
      have Hb2 := Lib.hid (Hb.out.trans (hb2.mono Hb.out.size))
      clear hb2 C
      cases j with
      | true =>
        have HR := Lib.hid (fst5_at hlt (by simpa using HJ.out) HN.out)
        clear HJ HN
        go_wp2_with fail
        go_ret
        exact ⟨by rw [HR.out]; rfl, Hb2.out⟩
      | false =>
        have HN2 : Hid (∀ j (hj : j < l.length), j < k + 1 → l[j].out ≠ 5) := Lib.hid (fun i hi hik => by
          by_cases e : i = k
          · subst e; simpa using HJ.out
          · exact HN.out i hi (by omega))
        clear HJ HN
        go_wp2_with fail
        go_roundw
        case rel => exact ⟨k + 1, by omega, by go_num, Hb2.out, HN2⟩
        case measure => simp [intOf] <;> omega
    · have HR := Lib.hid (fst5_none (fun j hj => HN.out j hj (by omega)))
      clear HN
      go_wp2_with fail
      go_ret
      exact ⟨by rw [HR.out]; rfl, Hb.out⟩

theorem wclean_any (v : Value) (l : List Ch) (w : World) (h : Rk 7 encC w v l) (hl : l.length ≤ 100000) :
    Calls Try.prog 18 #[v] w fun e w' => e = .returned (.bool (cleanB l)) ∧ Below w.heap.size w w' := by
  have C := indexFunc_any v l w h hl
  have H := Lib.hid (fst5_pos l)
  obtain ⟨ao, ca, rfl⟩ := h.len
  generalize fst5 l = x at *
  generalize cleanB l = y at *
  clear h
  have C2 : Calls Try.prog 35 #[.slice ao l.length ca, .func (.func 36) #[] #[]] w fun e w' => e = .returned (.bool (!y)) ∧ Below w.heap.size w w' := by
    go_enter Try.func35, Try.ntmps35
    go_wp2_with fail
    refine C.mono ?_
    rintro e w2 ⟨rfl, hb2⟩
    have Hb2 := Lib.hid hb2
    clear hb2 C
    go_wp2_with fail
    go_ret
    exact ⟨by rw [← H.out]; rfl, Hb2.out⟩
  clear C H
  go_enter Try.func18, Try.ntmps18
  go_wp2_with fail
  refine C2.mono ?_
  rintro e w2 ⟨rfl, hb2⟩
  have Hb2 := Lib.hid hb2
  clear hb2 C2
  go_wp2_with fail
  go_ret
  exact ⟨by simp, Hb2.out⟩

end Go.Proofs.Ytbfclmhcoelplaa.Wv
