/-
  CONTRACTS of the document's Clean and Same over chunks (emendationref05), and of the statements' own 'list' and 'few'.
-/
import Derived.Test.YtbfclmhcoelplaaWvRef
namespace Go.Proofs.Ytbfclmhcoelplaa.Wv
open Go.RowKit Go.Proofs.Ytbfclmhcoelplaa.Cm Go.Proofs.Ytbfclmhcoelplaa.Lc
set_option linter.unusedVariables false

/-- A chunk, as it lies. -/
def encC (c : Ch) : List Value := [.int .i64 c.b1, .int .i64 c.b2, .int .i64 c.o1, .int .i64 c.o2, .int .i64 c.t1, .int .i64 c.t2, .int .i64 c.out]
theorem encC_len (c : Ch) : (encC c).length = 7 := rfl
theorem encC_one (c : Ch) : ∀ u ∈ encC c, u.oneCell' = true := by
  intro u hu
  simp [encC] at hu
  rcases hu with rfl | rfl | rfl | rfl | rfl | rfl | rfl <;> rfl
theorem infoC : (Try.prog.info? 62).map (fun i => (i.zero, i.size, i.bytes)) = some (some (.agg #[.int .i64 0, .int .i64 0, .int .i64 0, .int .i64 0, .int .i64 0, .int .i64 0, .int .i64 0]), 7, 56) := by kernel_rfl
theorem getc {xs : List Ch} {k : Nat} (h : k < xs.length) : xs[k]? = some xs[k] := List.getElem?_eq_getElem h
theorem take_nextC {xs ys : List Ch} {k : Nat} (h1 : k < xs.length) (h2 : k < ys.length) (h : xs.take k = ys.take k) (e : xs[k] = ys[k]) : xs.take (k + 1) = ys.take (k + 1) := by
  rw [List.take_add_one, List.take_add_one, getc h1, getc h2, h, e]
/-- All cells of a chunk. -/
def Seven (w : World) (b o : Nat) (c : Ch) : Prop :=
  w.cell? ⟨b, o, none⟩ = some (.int .i64 c.b1) ∧ w.cell? ⟨b, o + 1, none⟩ = some (.int .i64 c.b2) ∧ w.cell? ⟨b, o + 2, none⟩ = some (.int .i64 c.o1) ∧ w.cell? ⟨b, o + 3, none⟩ = some (.int .i64 c.o2) ∧
    w.cell? ⟨b, o + 4, none⟩ = some (.int .i64 c.t1) ∧ w.cell? ⟨b, o + 5, none⟩ = some (.int .i64 c.t2) ∧ w.cell? ⟨b, o + 6, none⟩ = some (.int .i64 c.out)
theorem Rk.seven {w : World} {ao : Option Addr} {n c : Nat} {xs : List Ch} (h : Rk 7 encC w (.slice ao n c) xs) : ∀ i (hi : i < xs.length), ∃ b o, ao = some ⟨b, o, none⟩ ∧ b < w.heap.size ∧ Seven w b (o + i * 7) xs[i] := by
  intro i hi
  obtain ⟨b, o, h1, h2, h3⟩ := h.at i hi
  exact ⟨b, o, h1, h2, h3 0 _ rfl, h3 1 _ rfl, h3 2 _ rfl, h3 3 _ rfl, h3 4 _ rfl, h3 5 _ rfl, h3 6 _ rfl⟩
theorem Seven.below {B : Nat} {w w' : World} {b o : Nat} {c : Ch} (h : Seven w b o c) (hb : Below B w w') (hl : b < B) : Seven w' b o c := by
  obtain ⟨h0, h1, h2, h3, h4, h5, h6⟩ := h
  exact ⟨(hb.cell (by exact hl)).trans h0, (hb.cell (by exact hl)).trans h1, (hb.cell (by exact hl)).trans h2, (hb.cell (by exact hl)).trans h3, (hb.cell (by exact hl)).trans h4, (hb.cell (by exact hl)).trans h5, (hb.cell (by exact hl)).trans h6⟩

theorem few5_any (va vb vc : Value) (a b c : List Int) (w : World) (ha : Rz w va a) (hb : Rz w vb b) (hc : Rz w vc c) :
    Calls Try.prog 11 #[va, vb, vc] w fun e w' => e = .returned (.bool (decide (a.length ≤ 40) && decide (b.length ≤ 40) && decide (c.length ≤ 40))) ∧ w = w' := by
  obtain ⟨ao, ca, rfl⟩ := ha.len
  obtain ⟨bo, cb, rfl⟩ := hb.len
  obtain ⟨co, cc, rfl⟩ := hc.len
  clear ha hb hc
  have e1 : ∀ n : Nat, decide ((n : Int) ≤ 40) = decide (n ≤ 40) := fun n => by rw [decide_eq_decide]; omega
  have E1 := Lib.hid (e1 a.length)
  have E2 := Lib.hid (e1 b.length)
  have E3 := Lib.hid (e1 c.length)
  clear e1
  by_cases h1 : a.length ≤ 40
  · by_cases h2 : b.length ≤ 40
    · by_cases h3 : c.length ≤ 40
      · rw [decide_eq_true h1, decide_eq_true h2, decide_eq_true h3]
        go_enter Try.func11, Try.ntmps11
        go_wp2_with fail
        go_ret
        exact ⟨by first | rfl | (rw [E3.out, decide_eq_true h3]; rfl), rfl⟩
      · rw [decide_eq_true h1, decide_eq_true h2, decide_eq_false h3]
        go_enter Try.func11, Try.ntmps11
        go_wp2_with fail
        go_ret
        exact ⟨by first | rfl | (rw [E3.out, decide_eq_false h3]; rfl), rfl⟩
    · rw [decide_eq_true h1, decide_eq_false h2]
      go_enter Try.func11, Try.ntmps11
      go_wp2_with fail
      go_ret
      exact ⟨rfl, rfl⟩
  · rw [decide_eq_false h1]
    go_enter Try.func11, Try.ntmps11
    go_wp2_with fail
    go_ret
    exact ⟨rfl, rfl⟩

theorem clean_drop {xs : List Ch} {k : Nat} (hk : k < xs.length) (h : cleanB xs = cleanB (xs.drop k)) : cleanB xs = ((xs[k].out != 5) && cleanB (xs.drop (k + 1))) := by
  rw [h, List.drop_eq_getElem_cons hk]; rfl

set_option maxHeartbeats 800000 in
theorem rclean_any (v : Value) (xs : List Ch) (w : World) (h : Rk 7 encC w v xs) (hx : xs.length ≤ 1000000) :
    Calls Try.prog 19 #[v] w fun e w' => e = .returned (.bool (cleanB xs)) ∧ w = w' := by
  obtain ⟨ao, ca, rfl⟩ := h.len
  have F := Lib.hid (Rk.seven h)
  clear h
  go_enter Try.func19, Try.ntmps19
  go_wp2_with fail
  go_loop [6] (fun s => ∃ k : Nat, k ≤ xs.length ∧ s = .int .i64 k ∧ Hid (cleanB xs = cleanB (xs.drop k))) (fun s => xs.length - (intOf s).toNat)
  case atStart => exact ⟨0, Nat.zero_le _, rfl, Lib.hid (by rw [List.drop_zero])⟩
  case round =>
    obtain ⟨k, hk, rfl, HK⟩ := hrel
    by_cases hlt : k < xs.length
    · obtain ⟨b, o, rfl, hb, _, _, _, _, _, _, c6⟩ := F.out k hlt
      have hd := clean_drop hlt HK.out
      by_cases he : xs[k].out = 5
      · have HR : Hid (cleanB xs = false) := Lib.hid (by rw [hd, he]; rfl)
        have e1 : ((xs[k].out : Int) == 5) = true := by rw [beq_iff_eq]; omega
        clear he hd HK
        generalize (xs[k].out : Int) = x at *
        go_wp2_with fail
        go_ret
        exact ⟨by rw [HR.out]; rfl, rfl⟩
      · have HR : Hid (cleanB xs = cleanB (xs.drop (k + 1))) := Lib.hid (by rw [hd, bne_iff_ne.2 he]; rfl)
        have e1 : ((xs[k].out : Int) == 5) = false := by rw [beq_eq_false_iff_ne]; omega
        clear he hd HK
        generalize (xs[k].out : Int) = x at *
        go_wp2_with fail
        go_round
        case rel => exact ⟨k + 1, by omega, by go_num, HR⟩
        case measure => simp [intOf] <;> omega
    · have HR : Hid (cleanB xs = true) := Lib.hid (by rw [HK.out, List.drop_eq_nil_of_le (by omega)]; rfl)
      clear HK
      go_wp2_with fail
      go_ret
      exact ⟨by rw [HR.out]; rfl, rfl⟩

theorem first_off {c d : Ch} (h : c ≠ d) : (((c.b1 : Int) == (d.b1 : Int)) = false) ∨ (((c.b1 : Int) == (d.b1 : Int)) = true ∧ ((c.b2 : Int) == (d.b2 : Int)) = false) ∨ (((c.b1 : Int) == (d.b1 : Int)) = true ∧ ((c.b2 : Int) == (d.b2 : Int)) = true ∧ ((c.o1 : Int) == (d.o1 : Int)) = false) ∨ (((c.b1 : Int) == (d.b1 : Int)) = true ∧ ((c.b2 : Int) == (d.b2 : Int)) = true ∧ ((c.o1 : Int) == (d.o1 : Int)) = true ∧ ((c.o2 : Int) == (d.o2 : Int)) = false) ∨ (((c.b1 : Int) == (d.b1 : Int)) = true ∧ ((c.b2 : Int) == (d.b2 : Int)) = true ∧ ((c.o1 : Int) == (d.o1 : Int)) = true ∧ ((c.o2 : Int) == (d.o2 : Int)) = true ∧ ((c.t1 : Int) == (d.t1 : Int)) = false) ∨ (((c.b1 : Int) == (d.b1 : Int)) = true ∧ ((c.b2 : Int) == (d.b2 : Int)) = true ∧ ((c.o1 : Int) == (d.o1 : Int)) = true ∧ ((c.o2 : Int) == (d.o2 : Int)) = true ∧ ((c.t1 : Int) == (d.t1 : Int)) = true ∧ ((c.t2 : Int) == (d.t2 : Int)) = false) ∨ (((c.b1 : Int) == (d.b1 : Int)) = true ∧ ((c.b2 : Int) == (d.b2 : Int)) = true ∧ ((c.o1 : Int) == (d.o1 : Int)) = true ∧ ((c.o2 : Int) == (d.o2 : Int)) = true ∧ ((c.t1 : Int) == (d.t1 : Int)) = true ∧ ((c.t2 : Int) == (d.t2 : Int)) = true ∧ ((c.out : Int) == (d.out : Int)) = false) := by
  have e : ∀ a b : Nat, ((a : Int) == (b : Int)) = decide (a = b) := fun a b => by rw [Bool.eq_iff_iff, beq_iff_eq, decide_eq_true_eq]; omega
  simp only [e]
  obtain ⟨c0, c1, c2, c3, c4, c5, c6⟩ := c
  obtain ⟨d0, d1, d2, d3, d4, d5, d6⟩ := d
  simp only [ne_eq, Ch.mk.injEq, not_and] at h
  simp only [decide_eq_true_eq, decide_eq_false_iff_not]
  omega

set_option maxHeartbeats 3200000 in
theorem rsameC_any (va vb : Value) (xs ys : List Ch) (w : World) (ha : Rk 7 encC w va xs) (hb : Rk 7 encC w vb ys) (hx : xs.length ≤ 1000000) (hy : ys.length ≤ 1000000) :
    Calls Try.prog 16 #[va, vb] w fun e w' => e = .returned (.bool (decide (xs = ys))) ∧ ∃ n, w' = w.drewN n := by
  obtain ⟨ao, ca, rfl⟩ := ha.len
  obtain ⟨bo, cb, rfl⟩ := hb.len
  have FA := Lib.hid (Rk.seven ha)
  have FB := Lib.hid (Rk.seven hb)
  clear ha hb
  by_cases hl : xs.length = ys.length
  · have e0 : ((xs.length : Int) != (ys.length : Int)) = false := by simp [hl]
    go_enter Try.func16, Try.ntmps16
    go_wp2_with fail
    go_loopw [13] (fun i wr => ∃ k n : Nat, k ≤ xs.length ∧ i = .int .i64 k ∧ wr = w.drewN n ∧ Hid (xs.take k = ys.take k)) (fun i _ => xs.length - (intOf i).toNat)
    case atStart => exact ⟨0, 0, Nat.zero_le _, rfl, rfl, Lib.hid rfl⟩
    case round =>
      obtain ⟨k, n, hk, rfl, hwr, HT⟩ := hrel
      have HW := Lib.hid hwr
      by_cases hlt : k < xs.length
      · have hlt2 : k < ys.length := by omega
        obtain ⟨b1, o1, rfl, hb1, c0, c1, c2, c3, c4, c5, c6⟩ := FA.out k hlt
        obtain ⟨b2, o2, rfl, hb2, d0, d1, d2, d3, d4, d5, d6⟩ := FB.out k hlt2
        have p0 : wr.cell? ⟨b1, o1 + k * 7, none⟩ = some (.int .i64 xs[k].b1) := by rw [hwr]; exact c0
        have p1 : wr.cell? ⟨b1, o1 + k * 7 + 1, none⟩ = some (.int .i64 xs[k].b2) := by rw [hwr]; exact c1
        have p2 : wr.cell? ⟨b1, o1 + k * 7 + 2, none⟩ = some (.int .i64 xs[k].o1) := by rw [hwr]; exact c2
        have p3 : wr.cell? ⟨b1, o1 + k * 7 + 3, none⟩ = some (.int .i64 xs[k].o2) := by rw [hwr]; exact c3
        have p4 : wr.cell? ⟨b1, o1 + k * 7 + 4, none⟩ = some (.int .i64 xs[k].t1) := by rw [hwr]; exact c4
        have p5 : wr.cell? ⟨b1, o1 + k * 7 + 5, none⟩ = some (.int .i64 xs[k].t2) := by rw [hwr]; exact c5
        have p6 : wr.cell? ⟨b1, o1 + k * 7 + 6, none⟩ = some (.int .i64 xs[k].out) := by rw [hwr]; exact c6
        have q0 : wr.cell? ⟨b2, o2 + k * 7, none⟩ = some (.int .i64 ys[k].b1) := by rw [hwr]; exact d0
        have q1 : wr.cell? ⟨b2, o2 + k * 7 + 1, none⟩ = some (.int .i64 ys[k].b2) := by rw [hwr]; exact d1
        have q2 : wr.cell? ⟨b2, o2 + k * 7 + 2, none⟩ = some (.int .i64 ys[k].o1) := by rw [hwr]; exact d2
        have q3 : wr.cell? ⟨b2, o2 + k * 7 + 3, none⟩ = some (.int .i64 ys[k].o2) := by rw [hwr]; exact d3
        have q4 : wr.cell? ⟨b2, o2 + k * 7 + 4, none⟩ = some (.int .i64 ys[k].t1) := by rw [hwr]; exact d4
        have q5 : wr.cell? ⟨b2, o2 + k * 7 + 5, none⟩ = some (.int .i64 ys[k].t2) := by rw [hwr]; exact d5
        have q6 : wr.cell? ⟨b2, o2 + k * 7 + 6, none⟩ = some (.int .i64 ys[k].out) := by rw [hwr]; exact d6
        have hi1 : (k : Int) < (xs.length : Int) := by omega
        have hi2 : (k : Int) < (ys.length : Int) := by omega
        by_cases he : xs[k] = ys[k]
        · have HT2 := Lib.hid (take_nextC hlt hlt2 HT.out he)
          clear HT hwr c0 c1 c2 c3 c4 c5 c6 d0 d1 d2 d3 d4 d5 d6
          rw [← he] at q0 q1 q2 q3 q4 q5 q6
          clear he
          generalize (xs[k].b1 : Int) = x0 at *
          generalize (xs[k].b2 : Int) = x1 at *
          generalize (xs[k].o1 : Int) = x2 at *
          generalize (xs[k].o2 : Int) = x3 at *
          generalize (xs[k].t1 : Int) = x4 at *
          generalize (xs[k].t2 : Int) = x5 at *
          generalize (xs[k].out : Int) = x6 at *
          go_wp2_with fail
          go_quiet (fail)
          go_wp2_with fail
          go_roundw
          case rel => exact ⟨k + 1, n + nq, by omega, by go_num, by rw [HW.out, World.drewN_drewN], HT2⟩
          case measure => simp [intOf] <;> omega
        · have Hf : Hid (decide (xs = ys) = false) := Lib.hid (decide_eq_false (fun h => he (by subst h; rfl)))
          have hne := first_off he
          clear HT hwr c0 c1 c2 c3 c4 c5 c6 d0 d1 d2 d3 d4 d5 d6 he
          generalize (xs[k].b1 : Int) = x0 at *
          generalize (xs[k].b2 : Int) = x1 at *
          generalize (xs[k].o1 : Int) = x2 at *
          generalize (xs[k].o2 : Int) = x3 at *
          generalize (xs[k].t1 : Int) = x4 at *
          generalize (xs[k].t2 : Int) = x5 at *
          generalize (xs[k].out : Int) = x6 at *
          generalize (ys[k].b1 : Int) = y0 at *
          generalize (ys[k].b2 : Int) = y1 at *
          generalize (ys[k].o1 : Int) = y2 at *
          generalize (ys[k].o2 : Int) = y3 at *
          generalize (ys[k].t1 : Int) = y4 at *
          generalize (ys[k].t2 : Int) = y5 at *
          generalize (ys[k].out : Int) = y6 at *
          rcases hne with h0 | ⟨h0, h1⟩ | ⟨h0, h1, h2⟩ | ⟨h0, h1, h2, h3⟩ | ⟨h0, h1, h2, h3, h4⟩ | ⟨h0, h1, h2, h3, h4, h5⟩ | ⟨h0, h1, h2, h3, h4, h5, h6⟩
          all_goals (
            go_wp2_with fail
            go_quiet (fail)
            go_wp2_with fail
            go_ret
            exact ⟨by rw [Hf.out]; rfl, n + nq, by rw [HW.out, World.drewN_drewN]⟩)
      · have Hf : Hid (decide (xs = ys) = true) := Lib.hid (decide_eq_true (by have := HT.out; rwa [List.take_of_length_le (by omega), List.take_of_length_le (by omega)] at this))
        clear HT hwr
        go_wp2_with fail
        go_ret
        exact ⟨by rw [Hf.out]; rfl, n, HW.out⟩
  · have e0 : ((xs.length : Int) != (ys.length : Int)) = true := by simp; omega
    have Hf : Hid (decide (xs = ys) = false) := Lib.hid (decide_eq_false (fun h => hl (by rw [h])))
    clear hl
    go_enter Try.func16, Try.ntmps16
    go_wp2_with fail
    go_ret
    exact ⟨by rw [Hf.out]; rfl, 0, rfl⟩

end Go.Proofs.Ytbfclmhcoelplaa.Wv
