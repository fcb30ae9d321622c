/-
  CONTRACTS of the document's Same over pairs (emendationref04), and of the statements' own 'list' and 'common'.
-/
import Derived.Test.YtgmonfeookljmaaLcRef
namespace Go.Proofs.Ytgmonfeookljmaa.Lc
open Go.RowKit Go.Proofs.Ytgmonfeookljmaa.Cm
set_option linter.unusedVariables false

theorem getp {xs : List (Nat × Nat)} {k : Nat} (h : k < xs.length) : xs[k]? = some xs[k] := List.getElem?_eq_getElem h
theorem take_nextP {xs ys : List (Nat × Nat)} {k : Nat} (h1 : k < xs.length) (h2 : k < ys.length) (h : xs.take k = ys.take k) (e : xs[k] = ys[k]) : xs.take (k + 1) = ys.take (k + 1) := by
  rw [List.take_add_one, List.take_add_one, getp h1, getp h2, h, e]
/-- Both cells of a pair. -/
theorem Rk.two {w : World} {ao : Option Addr} {n c : Nat} {xs : List (Nat × Nat)} (h : Rk 2 encP w (.slice ao n c) xs) : ∀ i (hi : i < xs.length), ∃ b o, ao = some ⟨b, o, none⟩ ∧ b < w.heap.size ∧ w.cell? ⟨b, o + i * 2, none⟩ = some (.int .i64 xs[i].1) ∧ w.cell? ⟨b, o + i * 2 + 1, none⟩ = some (.int .i64 xs[i].2) := by
  intro i hi
  obtain ⟨b, o, h1, h2, h3⟩ := h.at i hi
  exact ⟨b, o, h1, h2, h3 0 _ rfl, h3 1 _ rfl⟩

set_option maxHeartbeats 1600000 in
theorem rsameP_any (va vb : Value) (xs ys : List (Nat × Nat)) (w : World) (ha : Rk 2 encP w va xs) (hb : Rk 2 encP w vb ys) (hx : xs.length ≤ 1000000) (hy : ys.length ≤ 1000000) :
    Calls Try.prog 12 #[va, vb] w fun e w' => e = .returned (.bool (decide (xs = ys))) ∧ ∃ n, w' = w.drewN n := by
  obtain ⟨ao, ca, rfl⟩ := ha.len
  obtain ⟨bo, cb, rfl⟩ := hb.len
  have FA := Lib.hid (Rk.two ha)
  have FB := Lib.hid (Rk.two hb)
  clear ha hb
  by_cases hl : xs.length = ys.length
  · have e0 : ((xs.length : Int) != (ys.length : Int)) = false := by simp [hl]
    go_enter Try.func12, Try.ntmps12
    go_wp2_with fail
    go_loopw [13] (fun i wr => ∃ k n : Nat, k ≤ xs.length ∧ i = .int .i64 k ∧ wr = w.drewN n ∧ Hid (xs.take k = ys.take k)) (fun i _ => xs.length - (intOf i).toNat)
    case atStart => exact ⟨0, 0, Nat.zero_le _, rfl, rfl, Lib.hid rfl⟩
    case round =>
      obtain ⟨k, n, hk, rfl, hwr, HT⟩ := hrel
      by_cases hlt : k < xs.length
      · have hlt2 : k < ys.length := by omega
        obtain ⟨b1, o1, rfl, hb1, c1, c2⟩ := FA.out k hlt
        obtain ⟨b2, o2, rfl, hb2, c3, c4⟩ := FB.out k hlt2
        have k1 : wr.cell? ⟨b1, o1 + k * 2, none⟩ = some (.int .i64 xs[k].1) := by rw [hwr]; exact c1
        have k2 : wr.cell? ⟨b1, o1 + k * 2 + 1, none⟩ = some (.int .i64 xs[k].2) := by rw [hwr]; exact c2
        have k3 : wr.cell? ⟨b2, o2 + k * 2, none⟩ = some (.int .i64 ys[k].1) := by rw [hwr]; exact c3
        have k4 : wr.cell? ⟨b2, o2 + k * 2 + 1, none⟩ = some (.int .i64 ys[k].2) := by rw [hwr]; exact c4
        have hi1 : (k : Int) < (xs.length : Int) := by omega
        have hi2 : (k : Int) < (ys.length : Int) := by omega
        have HW := Lib.hid hwr
        by_cases he : xs[k] = ys[k]
        · have HT2 := Lib.hid (take_nextP hlt hlt2 HT.out he)
          clear HT hwr c1 c2 c3 c4
          rw [← he] at k3 k4
          clear he
          generalize (xs[k].1 : Int) = x at *
          generalize (xs[k].2 : Int) = y at *
          go_wp2_with fail
          go_quiet (fail)
          go_wp2_with fail
          go_roundw
          case rel => exact ⟨k + 1, n + nq, by omega, by go_num, by rw [HW.out, World.drewN_drewN], HT2⟩
          case measure => simp [intOf] <;> omega
        · have Hf : Hid (decide (xs = ys) = false) := Lib.hid (decide_eq_false (fun h => he (by subst h; rfl)))
          have hne : ((xs[k].1 : Int) == (ys[k].1 : Int)) = false ∨ (((xs[k].1 : Int) == (ys[k].1 : Int)) = true ∧ ((xs[k].2 : Int) == (ys[k].2 : Int)) = false) := by
            by_cases h1 : xs[k].1 = ys[k].1
            · right
              refine ⟨by simp [h1], ?_⟩
              rw [beq_eq_false_iff_ne]
              intro h2
              exact he (Prod.ext h1 (by omega))
            · left
              rw [beq_eq_false_iff_ne]
              omega
          clear HT hwr c1 c2 c3 c4 he
          generalize (xs[k].1 : Int) = x at *
          generalize (xs[k].2 : Int) = y at *
          generalize (ys[k].1 : Int) = x' at *
          generalize (ys[k].2 : Int) = y' at *
          rcases hne with h1 | ⟨h1, h2⟩
          · go_wp2_with fail
            go_quiet (fail)
            go_wp2_with fail
            go_ret
            exact ⟨by rw [Hf.out]; rfl, n + nq, by rw [HW.out, World.drewN_drewN]⟩
          · go_wp2_with fail
            go_quiet (fail)
            go_wp2_with fail
            go_ret
            exact ⟨by rw [Hf.out]; rfl, n + nq, by rw [HW.out, World.drewN_drewN]⟩
      · have Hf : Hid (decide (xs = ys) = true) := Lib.hid (decide_eq_true (by have := HT.out; rwa [List.take_of_length_le (by omega), List.take_of_length_le (by omega)] at this))
        have HW := Lib.hid hwr
        clear HT hwr
        go_wp2_with fail
        go_ret
        exact ⟨by rw [Hf.out]; rfl, n, HW.out⟩
  · have e0 : ((xs.length : Int) != (ys.length : Int)) = true := by simp; omega
    have Hf : Hid (decide (xs = ys) = false) := Lib.hid (decide_eq_false (fun h => hl (by rw [h])))
    clear hl
    go_enter Try.func12, Try.ntmps12
    go_wp2_with fail
    go_ret
    exact ⟨by rw [Hf.out]; rfl, 0, rfl⟩

set_option maxHeartbeats 1600000 in
theorem list_any (v : Value) (xs : List (Nat × Nat)) (w : World) (h : Rk 2 encP w v xs) (hx : xs.length ≤ 1000000) :
    Calls Try.prog 13 #[v] w fun e w' => ∃ v', e = .returned v' ∧ Rk 2 encP w' v' xs ∧ Below w.heap.size w w' := by
  obtain ⟨i0, hi, hz0, hz1, hz2⟩ := info_parts infoP
  obtain ⟨ao, ca, rfl⟩ := h.len
  have FA := Lib.hid (Rk.two h)
  clear h
  go_enter Try.func13, Try.ntmps13
  go_wp2_with fail
  go_loopw [3, 7] (fun v' i wr => ∃ k : Nat, k ≤ xs.length ∧ i = .int .i64 k ∧ wr.ownsRow w.heap.size 46 2 v' (xs.take k).length ((xs.take k).flatMap encP) ∧ Below w.heap.size w wr) (fun _ i _ => xs.length - (intOf i).toNat)
  case atStart => exact ⟨0, Nat.zero_le _, rfl, World.ownsRow_nil _ _ _ _, Below.refl _ _⟩
  case round =>
    obtain ⟨k, hk, rfl, hown, hbe⟩ := hrel
    have hB := hbe.size
    by_cases hlt : k < xs.length
    · obtain ⟨b1, o1, rfl, hb1, c1, c2⟩ := FA.out k hlt
      have k1 : wr.cell? ⟨b1, o1 + k * 2, none⟩ = some (.int .i64 xs[k].1) := (hbe.cell (by exact hb1)).trans c1
      have k2 : wr.cell? ⟨b1, o1 + k * 2 + 1, none⟩ = some (.int .i64 xs[k].2) := (hbe.cell (by exact hb1)).trans c2
      have HN : Hid (xs.take (k + 1) = xs.take k ++ [xs[k]]) := Lib.hid (by rw [List.take_add_one, getp hlt]; rfl)
      have hlk : (xs.take k).length = k := by rw [List.length_take]; omega
      have HLK := Lib.hid hlk
      have hi1 : (k : Int) < (xs.length : Int) := by omega
      have Ho := Lib.hid hown
      have Hb := Lib.hid hbe
      clear c1 c2 hown hbe hlk
      have hp : Hid (encP xs[k] = [.int .i64 (xs[k].1 : Int), .int .i64 (xs[k].2 : Int)]) := Lib.hid rfl
      generalize xs[k] = p at *
      generalize xs.take k = os at *
      go_wp2_with (at_builtin; refine wpList_append_own _ rfl _ _ 26 rfl w.heap.size 46 i0 (.agg #[.int .i64 0, .int .i64 0]) 2 16 Try.underlying26 hi hz0 hz1 hz2 rfl (by decide) _ _ _ rfl (Ho.out.alloc _) ⟨wr.heap.size, 0, none⟩ 1 1 (encP p) rfl rfl newsK (encP_one _) (by unfold maxLen; have := HLK.out; omega) (by have := HLK.out; omega) (by simp; omega) ?_)
      intro v' w2 hown' hgrow _
      have R := own_pushK Ho.out Hb.out hB hown' hgrow
      rw [← HN.out] at R
      have R1 := Lib.hid R.1
      have R2 := Lib.hid R.2
      clear R hown' hgrow
      go_wp2_with fail
      go_roundw
      case rel => exact ⟨k + 1, by omega, by go_num, R1.out, R2.out⟩
      case measure => simp [intOf] <;> omega
    · have hx2 : xs.take k = xs := List.take_of_length_le (by omega)
      rw [hx2] at hown
      have HR := Lib.hid (Rk.of_own encP_len hown)
      have Hb := Lib.hid hbe
      obtain rfl : k = xs.length := by omega
      clear hown hbe hx2
      go_wp2_with fail
      go_ret
      exact ⟨_, rfl, HR.out, Hb.out⟩

set_option maxHeartbeats 3200000 in
set_option maxRecDepth 100000 in
theorem common_any (va vb vl : Value) (a b : List Int) (l : List (Nat × Nat)) (w : World) (ha : Rz w va a) (hb : Rz w vb b) (hl : Rk 2 encP w vl l) (hla : a.length ≤ 1000000) (hlb : b.length ≤ 1000000) (hll : l.length ≤ 1000000)
    (hok : ∀ p ∈ l, ∃ (h1 : p.1 < a.length) (h2 : p.2 < b.length), a[p.1] = b[p.2]) (hr : l.Pairwise (fun p q => p.1 < q.1 ∧ p.2 < q.2)) :
    Calls Try.prog 18 #[va, vb, vl] w fun e w' => e = .returned (.bool true) ∧ ∃ n, w' = w.drewN n := by
  obtain ⟨aoa, ca, rfl⟩ := ha.len
  obtain ⟨aob, cb, rfl⟩ := hb.len
  obtain ⟨aol, cl, rfl⟩ := hl.len
  have FA := Lib.hid ha.at
  have FB := Lib.hid hb.at
  have FL := Lib.hid (Rk.two hl)
  have HO := Lib.hid hok
  have HP := Lib.hid hr
  clear ha hb hl hok hr
  go_enter Try.func18, Try.ntmps18
  go_wp2_with fail
  go_loopw [12] (fun s wr => ∃ i n : Nat, i ≤ l.length ∧ s = .int .i64 i ∧ wr = w.drewN n) (fun s _ => l.length - (intOf s).toNat)
  case atStart => exact ⟨0, 0, Nat.zero_le _, rfl, rfl⟩
  case round =>
    obtain ⟨i, n, hil, rfl, hwr⟩ := hrel
    have HW := Lib.hid hwr
    by_cases hlt : i < l.length
    · obtain ⟨bl, ol, rfl, hbl, c1, c2⟩ := FL.out i hlt
      obtain ⟨p1, p2, hab⟩ := HO.out l[i] (List.getElem_mem hlt)
      obtain ⟨ba, oa, rfl, hba, c3⟩ := FA.out l[i].1 p1
      obtain ⟨bb, ob, rfl, hbb, c4⟩ := FB.out l[i].2 p2
      have k1 : wr.cell? ⟨bl, ol + i * 2, none⟩ = some (.int .i64 l[i].1) := by rw [hwr]; exact c1
      have k2 : wr.cell? ⟨bl, ol + i * 2 + 1, none⟩ = some (.int .i64 l[i].2) := by rw [hwr]; exact c2
      have k3 : wr.cell? ⟨ba, oa + l[i].1, none⟩ = some (.int .i64 a[l[i].1]) := by rw [hwr]; exact c3
      have k4 : wr.cell? ⟨bb, ob + l[i].2, none⟩ = some (.int .i64 b[l[i].2]) := by rw [hwr]; exact c4
      have e5 : (a[l[i].1] != b[l[i].2]) = false := by simpa using hab
      have HPV : Hid (∀ j (hj : j + 1 = i), ∃ x' y' : Nat, w.cell? ⟨bl, ol + j * 2, none⟩ = some (.int .i64 x') ∧ w.cell? ⟨bl, ol + j * 2 + 1, none⟩ = some (.int .i64 y') ∧ x' < l[i].1 ∧ y' < l[i].2) := Lib.hid (fun j hj => by
        have hjl : j < l.length := by omega
        obtain ⟨b', o', he, _, d1, d2⟩ := FL.out j hjl
        simp only [Option.some.injEq, Addr.mk.injEq, and_true] at he
        obtain ⟨rfl, rfl⟩ := he
        have := List.pairwise_iff_getElem.1 HP.out j i hjl hlt (by omega)
        exact ⟨_, _, d1, d2, this.1, this.2⟩)
      clear c1 c2 c3 c4 hab hwr
      generalize l[i].1 = x at *
      generalize l[i].2 = y at *
      generalize a[x] = av at *
      generalize b[y] = bv at *
      have t1 : (x : Int) < (a.length : Int) := by omega
      have t2 : (y : Int) < (b.length : Int) := by omega
      have t3 : (i : Int) < (l.length : Int) := by omega
      have f1 : decide ((x : Int) < 0) = false := decide_eq_false (by omega)
      have f2 : decide ((y : Int) < 0) = false := decide_eq_false (by omega)
      have f3 : decide ((a.length : Int) ≤ (x : Int)) = false := decide_eq_false (by omega)
      have f4 : decide ((b.length : Int) ≤ (y : Int)) = false := decide_eq_false (by omega)
      have f5 : decide (a.length ≤ x) = false := decide_eq_false (by omega)
      have f6 : decide (b.length ≤ y) = false := decide_eq_false (by omega)
      by_cases hi0 : 0 < i
      · obtain ⟨j, hj⟩ : ∃ j, j + 1 = i := ⟨i - 1, by omega⟩
        obtain ⟨x', y', d1, d2, lx, ly⟩ := HPV.out j hj
        have f7 : decide ((0 : Int) < (i : Int)) = true := decide_eq_true (by omega)
        have ej : IntKind.i64.wrap ((i : Int) - 1) = (j : Int) := by rw [IntKind.wrap_i64]; omega
        have t4 : (j : Int) < (l.length : Int) := by omega
        have t5 : j < l.length := by omega
        have f8 : decide ((x : Int) ≤ (x' : Int)) = false := decide_eq_false (by omega)
        have f9 : decide ((y : Int) ≤ (y' : Int)) = false := decide_eq_false (by omega)
        have g8 : decide (x ≤ x') = false := decide_eq_false (by omega)
        have g9 : decide (y ≤ y') = false := decide_eq_false (by omega)
        have k5 : wr.cell? ⟨bl, ol + j * 2, none⟩ = some (.int .i64 x') := by rw [HW.out]; exact d1
        have k6 : wr.cell? ⟨bl, ol + j * 2 + 1, none⟩ = some (.int .i64 y') := by rw [HW.out]; exact d2
        have HJ := Lib.hid hj
        clear HPV d1 d2 hj
        go_wp2_with fail
        go_quiet (fail)
        generalize hw5 : wr.drewN nq = w5
        have q1 : w5.cell? ⟨ba, oa + x, none⟩ = some (.int .i64 av) := by rw [← hw5]; exact k3
        have q2 : w5.cell? ⟨bb, ob + y, none⟩ = some (.int .i64 bv) := by rw [← hw5]; exact k4
        have q3 : w5.cell? ⟨bl, ol + j * 2, none⟩ = some (.int .i64 x') := by rw [← hw5]; exact k5
        have q4 : w5.cell? ⟨bl, ol + j * 2 + 1, none⟩ = some (.int .i64 y') := by rw [← hw5]; exact k6
        have HW5 : Hid (∃ r, w5 = w.drewN r) := Lib.hid ⟨n + nq, by rw [← hw5, HW.out, World.drewN_drewN]⟩
        clear hw5 k1 k2 k3 k4 k5 k6
        go_wp2_with fail
        go_quiet (fail)
        have HW6 : Hid (∃ r, w5.drewN nq = w.drewN r) := Lib.hid (by obtain ⟨r, hr⟩ := HW5.out; exact ⟨r + nq, by rw [hr, World.drewN_drewN]⟩)
        go_wp2_with fail
        go_roundw
        case rel => exact ⟨i + 1, HW6.out.choose, by omega, by go_num, HW6.out.choose_spec⟩
        case measure => simp [intOf] <;> omega
      · have f7 : decide ((0 : Int) < (i : Int)) = false := decide_eq_false (by omega)
        have hi1 : i ≤ 0 := by omega
        clear HPV
        go_wp2_with fail
        go_quiet (fail)
        generalize hw5 : wr.drewN nq = w5
        have q1 : w5.cell? ⟨ba, oa + x, none⟩ = some (.int .i64 av) := by rw [← hw5]; exact k3
        have q2 : w5.cell? ⟨bb, ob + y, none⟩ = some (.int .i64 bv) := by rw [← hw5]; exact k4
        have HW5 : Hid (∃ r, w5 = w.drewN r) := Lib.hid ⟨n + nq, by rw [← hw5, HW.out, World.drewN_drewN]⟩
        clear hw5 k1 k2 k3 k4
        go_wp2_with fail
        go_quiet (fail)
        have HW6 : Hid (∃ r, w5.drewN nq = w.drewN r) := Lib.hid (by obtain ⟨r, hr⟩ := HW5.out; exact ⟨r + nq, by rw [hr, World.drewN_drewN]⟩)
        go_wp2_with fail
        go_roundw
        case rel => exact ⟨i + 1, HW6.out.choose, by omega, by go_num, HW6.out.choose_spec⟩
        case measure => simp [intOf] <;> omega
    · obtain rfl : i = l.length := by omega
      clear hlt hwr
      go_wp2_with fail
      go_ret
      exact ⟨rfl, n, HW.out⟩

end Go.Proofs.Ytgmonfeookljmaa.Lc
