/-
  CONTRACTS of the document's kept, same, part, outcome (emendationref05).
-/
import Derived.Test.YtbfclmhcoelplaaLcHelp
import Derived.Test.YtbfclmhcoelplaaWvPlain
namespace Go.Proofs.Ytbfclmhcoelplaa.Wv
open Go.RowKit Go.Proofs.Ytbfclmhcoelplaa.Cm Go.Proofs.Ytbfclmhcoelplaa.Lc
set_option linter.unusedVariables false

/-- A place that is kept, as the document's kept answers it. -/
def kpI (l : List (Nat × Nat)) (i : Nat) : Int := match kp l i with | some j => j | none => -1
theorem kp_nil (i : Nat) : kp [] i = none := rfl
theorem kp_yes {p : Nat × Nat} {i : Nat} (h : p.1 = i) (l : List (Nat × Nat)) : kp (p :: l) i = some p.2 := by
  unfold kp; rw [List.find?_cons_of_pos (by simpa using h)]; rfl
theorem kp_no {p : Nat × Nat} {i : Nat} (h : p.1 ≠ i) (l : List (Nat × Nat)) : kp (p :: l) i = kp l i := by
  unfold kp; rw [List.find?_cons_of_neg (by simpa using h)]

set_option maxHeartbeats 800000 in
theorem kept_any (v : Value) (l : List (Nat × Nat)) (i : Nat) (w : World) (h : Rk 2 encP w v l) (hl : l.length ≤ 1000000) :
    Calls Try.prog 32 #[v, .int .i64 i] w fun e w' => e = .returned (.int .i64 (kpI l i)) ∧ w = w' := by
  obtain ⟨ao, ca, rfl⟩ := h.len
  have FL := Lib.hid (Rk.two h)
  clear h
  go_enter Try.func32, Try.ntmps32
  go_wp2_with fail
  go_loop [8] (fun s => ∃ k : Nat, k ≤ l.length ∧ s = .int .i64 k ∧ Hid (kp l i = kp (l.drop k) i)) (fun s => l.length - (intOf s).toNat)
  case atStart => exact ⟨0, Nat.zero_le _, rfl, Lib.hid (by rw [List.drop_zero])⟩
  case round =>
    obtain ⟨k, hk, rfl, HK⟩ := hrel
    by_cases hlt : k < l.length
    · obtain ⟨b, o, rfl, hb, c1, c2⟩ := FL.out k hlt
      have hd : l.drop k = l[k] :: l.drop (k + 1) := List.drop_eq_getElem_cons hlt
      by_cases he : l[k].1 = i
      · have HR : Hid (kpI l i = (l[k].2 : Int)) := Lib.hid (by unfold kpI; rw [HK.out, hd, kp_yes he])
        have e1 : ((l[k].1 : Int) == (i : Int)) = true := by rw [beq_iff_eq]; omega
        clear he hd HK
        generalize (l[k].1 : Int) = x at *
        generalize (l[k].2 : Int) = y at *
        go_wp2_with fail
        go_ret
        exact ⟨by rw [HR.out]; rfl, rfl⟩
      · have HR : Hid (kp l i = kp (l.drop (k + 1)) i) := Lib.hid (by rw [HK.out, hd, kp_no he])
        have e1 : ((l[k].1 : Int) == (i : Int)) = false := by rw [beq_eq_false_iff_ne]; omega
        clear he hd HK c2
        generalize (l[k].1 : Int) = x at *
        go_wp2_with fail
        go_round
        case rel => exact ⟨k + 1, by omega, by go_num, HR⟩
        case measure => simp [intOf] <;> omega
    · have HR : Hid (kpI l i = -1) := Lib.hid (by unfold kpI; rw [HK.out, List.drop_eq_nil_of_le (by omega), kp_nil])
      clear HK
      go_wp2_with fail
      go_ret
      exact ⟨by rw [HR.out]; rfl, rfl⟩

set_option maxHeartbeats 800000 in
theorem rsame5_any (a b : Value) (xs ys : List Int) (w : World) (ha : Rz w a xs) (hb : Rz w b ys) (hx : xs.length ≤ 1000000) (hy : ys.length ≤ 1000000) :
    Calls Try.prog 39 #[a, b] w fun e w' => e = .returned (.bool (decide (xs = ys))) ∧ ∃ n, w' = w.drewN n := by
  obtain ⟨ao, ca, rfl⟩ := ha.len
  obtain ⟨bo, cb, rfl⟩ := hb.len
  have FA := Lib.hid ha.at
  have FB := Lib.hid hb.at
  clear ha hb
  by_cases hl : xs.length = ys.length
  · have e0 : ((xs.length : Int) != (ys.length : Int)) = false := by simp [hl]
    go_enter Try.func39, Try.ntmps39
    go_wp2_with fail
    go_loopw [13] (fun i wr => ∃ k n : Nat, k ≤ xs.length ∧ i = .int .i64 k ∧ wr = w.drewN n ∧ Hid (xs.take k = ys.take k)) (fun i _ => xs.length - (intOf i).toNat)
    case atStart => exact ⟨0, 0, Nat.zero_le _, rfl, rfl, Lib.hid rfl⟩
    case round =>
      obtain ⟨k, n, hk, rfl, hwr, HT⟩ := hrel
      have HW := Lib.hid hwr
      by_cases hlt : k < xs.length
      · have hlt2 : k < ys.length := by omega
        obtain ⟨b1, o1, rfl, hb1, c1⟩ := FA.out k hlt
        obtain ⟨b2, o2, rfl, hb2, c2⟩ := FB.out k hlt2
        have k1 : wr.cell? ⟨b1, o1 + k, none⟩ = some (.int .i64 xs[k]) := by rw [hwr]; exact c1
        have k2 : wr.cell? ⟨b2, o2 + k, none⟩ = some (.int .i64 ys[k]) := by rw [hwr]; exact c2
        have hi1 : (k : Int) < (xs.length : Int) := by omega
        have hi2 : (k : Int) < (ys.length : Int) := by omega
        by_cases he : xs[k] = ys[k]
        · have HT2 := Lib.hid (take_nextI hlt hlt2 HT.out he)
          have e1 : (xs[k] != ys[k]) = false := by simp [he]
          clear HT he hwr c1 c2
          generalize xs[k] = x at *
          generalize ys[k] = y at *
          go_wp2_with fail
          go_quiet (fail)
          go_wp2_with fail
          go_roundw
          case rel => exact ⟨k + 1, n + nq, by omega, by go_num, by rw [HW.out, World.drewN_drewN], HT2⟩
          case measure => simp [intOf] <;> omega
        · have Hf : Hid (decide (xs = ys) = false) := Lib.hid (decide_eq_false (fun h => he (by subst h; rfl)))
          have e1 : (xs[k] != ys[k]) = true := by simpa using he
          clear HT he hwr c1 c2
          generalize xs[k] = x at *
          generalize ys[k] = y at *
          go_wp2_with fail
          go_quiet (fail)
          go_wp2_with fail
          go_ret
          exact ⟨by rw [Hf.out]; rfl, n + nq, by rw [HW.out, World.drewN_drewN]⟩
      · have Hf : Hid (decide (xs = ys) = true) := Lib.hid (decide_eq_true (by have := HT.out; rwa [List.take_of_length_le (by omega), List.take_of_length_le (by omega)] at this))
        clear HT hwr
        go_wp2_with fail
        go_ret
        exact ⟨by rw [Hf.out]; rfl, n, HW.out⟩
  · have e0 : ((xs.length : Int) != (ys.length : Int)) = true := by simp; omega
    have Hf : Hid (decide (xs = ys) = false) := Lib.hid (decide_eq_false (fun h => hl (by rw [h])))
    clear hl
    go_enter Try.func39, Try.ntmps39
    go_wp2_with fail
    go_ret
    exact ⟨by rw [Hf.out]; rfl, 0, rfl⟩

set_option maxHeartbeats 800000 in
theorem outcome_any (vb vo vt : Value) (b o t : List Int) (w : World) (hb : Rz w vb b) (ho : Rz w vo o) (ht : Rz w vt t) (lb : b.length ≤ 1000000) (lo : o.length ≤ 1000000) (lt : t.length ≤ 1000000) :
    Calls Try.prog 33 #[vb, vo, vt] w fun e w' => e = .returned (.int .i64 (outc b o t)) ∧ ∃ n, w' = w.drewN n := by
  have S1 := Lib.hid (fun n => rsame5_any vo vt o t (w.drewN n) ho ht lo lt)
  have S2 := Lib.hid (fun n => rsame5_any vo vb o b (w.drewN n) ho hb lo lb)
  have S3 := Lib.hid (fun n => rsame5_any vt vb t b (w.drewN n) ht hb lt lb)
  have HO : Hid (outc b o t = if o = t then 4 else if o = b then 3 else if t = b then 2 else 5) := Lib.hid rfl
  clear hb ho ht
  go_enter Try.func33, Try.ntmps33
  go_wp2_with fail
  refine (S1.out 0).mono ?_
  rintro e w1 ⟨rfl, n1, rfl⟩
  by_cases h1 : o = t
  · rw [if_pos h1] at HO
    rw [decide_eq_true h1]
    clear h1
    go_wp2_with fail
    go_ret
    exact ⟨by rw [HO.out]; rfl, n1, rfl⟩
  · rw [if_neg h1] at HO
    rw [decide_eq_false h1]
    clear h1
    go_wp2_with fail
    refine (S2.out n1).mono ?_
    rintro e w2 ⟨rfl, n2, rfl⟩
    by_cases h2 : o = b
    · rw [if_pos h2] at HO
      rw [decide_eq_true h2]
      clear h2
      go_wp2_with fail
      go_ret
      exact ⟨by rw [HO.out]; rfl, n1 + n2, by first | rfl | rw [World.drewN_drewN]⟩
    · rw [if_neg h2] at HO
      rw [decide_eq_false h2]
      clear h2
      go_wp2_with fail
      refine (S3.out (n1 + n2)).mono ?_
      rintro e w3 ⟨rfl, n3, rfl⟩
      by_cases h3 : t = b
      · rw [if_pos h3] at HO
        rw [decide_eq_true h3]
        clear h3
        go_wp2_with fail
        go_ret
        exact ⟨by rw [HO.out]; rfl, n1 + n2 + n3, by first | rfl | rw [World.drewN_drewN]⟩
      · rw [if_neg h3] at HO
        rw [decide_eq_false h3]
        clear h3
        go_wp2_with fail
        go_ret
        exact ⟨by rw [HO.out]; rfl, n1 + n2 + n3, by first | rfl | rw [World.drewN_drewN]⟩

/-- What 'part' answers reads as the part. -/
def PartOk (w : World) (xs : List Int) (e : Ending) (w' : World) : Prop := ∃ v', e = .returned v' ∧ Rz w' v' xs ∧ Below w.heap.size w w'

set_option maxHeartbeats 1600000 in
theorem part_any (v : Value) (l : List Int) (i j : Nat) (w : World) (h : Rz w v l) (hij : i ≤ j) (hj : j ≤ l.length) (hl : l.length ≤ 1000000) :
    Calls Try.prog 34 #[v, .agg #[.int .i64 i, .int .i64 j]] w (PartOk w (part l i j)) := by
  have hpl := part_len l (a := i) hj
  have H := Lib.hid h
  obtain ⟨ao, ca, rfl, hca, hx⟩ := h
  by_cases h0 : l = []
  · have hz : l.length = 0 := by rw [h0]; rfl
    obtain rfl : j = 0 := by omega
    obtain rfl : i = 0 := by omega
    have HP : Hid (part l 0 0 = []) := Lib.hid (by rw [h0]; rfl)
    clear hx h0 hpl H
    rw [hz]
    have main : ∀ ao : Option Addr, (ao = none ∨ ∃ b o p, ao = some ⟨b, o, p⟩) → Calls Try.prog 34 #[.slice ao 0 ca, .agg #[.int .i64 ((0 : Nat) : Int), .int .i64 ((0 : Nat) : Int)]] w (PartOk w (part l 0 0)) := by
      intro ao hao
      rw [HP.out]
      rcases hao with rfl | ⟨b, o, p, rfl⟩
      all_goals (
        go_enter Try.func34, Try.ntmps34
        go_wp2_with fail
        go_ret
        exact ⟨_, rfl, ⟨_, _, rfl, Nat.zero_le _, Or.inl rfl⟩, (Below.refl _ _).alloc (Nat.le_refl _) _⟩)
    refine main ao ?_
    cases ao with
    | none => exact Or.inl rfl
    | some a => exact Or.inr ⟨a.block, a.off, a.spot, rfl⟩
  · rcases hx with hx | ⟨b, o, rfl, hb, hcell⟩
    · exact absurd hx h0
    have HC := Lib.hid hcell
    clear hcell h0 H
    by_cases hic : i < ca
    · have HR : Hid (∀ w', Below w.heap.size w w' → Rz w' (.slice (some ⟨b, o + i, none⟩) (j - i) (ca - i)) (part l i j)) := Lib.hid (fun w' hb' => by
        refine ⟨_, ca - i, by rw [hpl], by omega, Or.inr ⟨b, o + i, rfl, Nat.lt_of_lt_of_le hb hb'.size, fun q x hq => ?_⟩⟩
        have hql : q < j - i := by
          have := (List.getElem?_eq_some_iff.1 hq).1
          omega
        rw [part_getElem? l i j q hql] at hq
        rw [Nat.add_assoc]
        exact (hb'.cell (by exact hb)).trans (HC.out _ x hq))
      have ha := Lib.hid ((Below.refl w.heap.size w).alloc (Nat.le_refl _) (.cells #[.int .i64 (i : Int), .int .i64 (j : Int)] 60))
      have hicn : ¬ ca ≤ i := by omega
      go_enter Try.func34, Try.ntmps34
      go_wp2_with fail
      go_ret
      exact ⟨_, rfl, HR.out _ ha.out, ha.out⟩
    · obtain rfl : i = ca := by omega
      obtain rfl : j = i := by omega
      have HP : Hid (part l j j = []) := Lib.hid (List.eq_nil_of_length_eq_zero (by omega))
      have hlj : l.length = j := by omega
      have ha := Lib.hid ((Below.refl w.heap.size w).alloc (Nat.le_refl _) (.cells #[.int .i64 (j : Int), .int .i64 (j : Int)] 60))
      rw [HP.out]
      clear hic
      go_enter Try.func34, Try.ntmps34
      go_wp2_with fail
      go_ret
      exact ⟨_, rfl, ⟨_, _, rfl, Nat.zero_le _, Or.inl rfl⟩, ha.out⟩

end Go.Proofs.Ytbfclmhcoelplaa.Wv
