/-
  CONTRACT of the document's table (emendationref04): what can be had in common from each two places on.
-/
import Derived.Test.YtldllbmbcnipoaaGreatDoorPkTB
import Derived.Test.YtldllbmbcnipoaaGreatDoorLcPlain
namespace Go.Proofs.YtldllbmbcnipoaaGreatDoor.Lc
open Go.RowKit Go.Proofs.YtldllbmbcnipoaaGreatDoor.Cm
set_option linter.unusedVariables false

theorem infoT : (Tryz.prog.info? 30).map (fun i => (i.zero, i.size, i.bytes)) = some (some (.slice none 0 0), 1, 24) := by kernel_rfl
/-- The rows from i on are done: they lie in blocks between B and G. -/
def Tb (w0 : World) (B n m G : Nat) (t : Nat → Nat → Nat) (i : Nat) (wr : World) (xs : List Value) : Prop :=
  wr.ownsRow B 30 1 (.slice (some ⟨B, 0, none⟩) n n) n xs ∧ Below B w0 wr ∧ B < G ∧ G ≤ wr.heap.size ∧
    ∀ j, i ≤ j → j < n → ∃ g, B < g ∧ g < G ∧ xs[j]? = some (.slice (some ⟨g, 0, none⟩) m m) ∧ ∀ k, k < m → wr.cell? ⟨g, k, none⟩ = some (.int .i64 (t j k))
/-- The row i is filled from the right: k cells are still to do. -/
def In (w0 : World) (B n m G : Nat) (t : Nat → Nat → Nat) (i : Nat) (k : Nat) (wr : World) : Prop :=
  ∃ xs ys, Tb w0 B n m G t (i + 1) wr xs ∧ xs[i]? = some (.slice (some ⟨G, 0, none⟩) m m) ∧ wr.ownsRow G 3 1 (.slice (some ⟨G, 0, none⟩) m m) m ys ∧ ∀ j, k ≤ j → j < m → ys[j]? = some (.int .i64 (t i j))
theorem Tb.start {w0 wr : World} {n m : Nat} {t : Nat → Nat → Nat} {xs : List Value} (h : wr.ownsRow w0.heap.size 30 1 (.slice (some ⟨w0.heap.size, 0, none⟩) n n) n xs) (hg : w0.grownBy wr none) : Tb w0 w0.heap.size n m wr.heap.size t n wr xs :=
  ⟨h, (Below.refl _ _).grown hg (Nat.le_refl _) (fun k h => by cases h), (h.lt _ rfl).2, Nat.le_refl _, fun j h1 h2 => by omega⟩
theorem Tb.make {w0 wr w2 : World} {B n m i : Nat} {t : Nat → Nat → Nat} {xs ys : List Value} (h : Tb w0 B n m wr.heap.size t (i + 1) wr xs) (hi : i < n)
    (h2 : w2.ownsRow wr.heap.size 3 1 (.slice (some ⟨wr.heap.size, 0, none⟩) m m) m ys) (hg : wr.grownBy w2 none) (k : Nat) (hk : ∀ j, k ≤ j → j < m → ys[j]? = some (.int .i64 (t i j))) :
    In w0 B n m wr.heap.size t i k (w2.setCell ⟨B, i, none⟩ (.slice (some ⟨wr.heap.size, 0, none⟩) m m)) := by
  obtain ⟨o, hb, hB, hG, hr⟩ := h
  have hBl : B < wr.heap.size := hB
  have o2 := o.kept hg (Or.inr (by simp [Value.ownBlock]))
  obtain ⟨o3, _⟩ := o2.stored i (.slice (some ⟨wr.heap.size, 0, none⟩) m m)
  have hl : xs.length = n * 1 := o.1
  refine ⟨_, ys, ⟨o3, ?_, hB, ?_, fun j h1 h3 => ?_⟩, List.getElem?_set_self (by omega), ?_, hk⟩
  · exact (hb.grown hg (by omega) (fun k h => by cases h)).setCell (Nat.le_refl _) _
  · have := hg.size; simp [World.setCell]; omega
  · obtain ⟨g, g1, g2, g3, g4⟩ := hr j h1 h3
    refine ⟨g, g1, g2, by rw [List.getElem?_set_ne (by omega)]; exact g3, fun k hk => ?_⟩
    have c2 : w2.cell? ⟨g, k, none⟩ = some (.int .i64 (t j k)) := hg.cell (g4 k hk) (by simp)
    rw [← c2]
    apply World.cell?_setCell_other
    intro e
    have : B = g := congrArg Addr.block e
    omega
  · exact own_block h2 (Below.heap_setCell _ _ _ _ (by show wr.heap.size ≠ B; omega))
theorem In.step {w0 wr : World} {B n m G i k : Nat} {t : Nat → Nat → Nat} (h : In w0 B n m G t i (k + 1) wr) (hk : k < m) : In w0 B n m G t i k (wr.setCell ⟨G, k, none⟩ (.int .i64 (t i k))) := by
  obtain ⟨xs, ys, ⟨o, hb, hB, hG, hr⟩, hx, o2, hy⟩ := h
  obtain ⟨o3, _⟩ := o2.stored k (.int .i64 (t i k))
  have hl : ys.length = m * 1 := o2.1
  refine ⟨xs, _, ⟨own_block o (Below.heap_setCell _ _ _ _ (by show B ≠ G; omega)), hb.setCell (by show B ≤ G; omega) _, hB, by simpa [World.setCell] using hG, fun j h1 h3 => ?_⟩, hx, o3, fun j h1 h3 => ?_⟩
  · obtain ⟨g, g1, g2, g3, g4⟩ := hr j h1 h3
    refine ⟨g, g1, g2, g3, fun k' hk' => ?_⟩
    rw [← g4 k' hk']
    apply World.cell?_setCell_other
    intro e
    have : G = g := congrArg Addr.block e
    omega
  · by_cases e : j = k
    · subst e
      rw [List.getElem?_set_self (by omega)]
    · rw [List.getElem?_set_ne (by omega)]
      exact hy j (by omega) h3
theorem In.done {w0 wr : World} {B n m G i : Nat} {t : Nat → Nat → Nat} (h : In w0 B n m G t i 0 wr) : ∃ xs, Tb w0 B n m wr.heap.size t i wr xs := by
  obtain ⟨xs, ys, ⟨o, hb, hB, hG, hr⟩, hx, o2, hy⟩ := h
  have hGl : G < wr.heap.size := (o2.lt G rfl).2
  refine ⟨xs, o, hb, by omega, Nat.le_refl _, fun j h1 h3 => ?_⟩
  by_cases e : j = i
  · subst e
    refine ⟨G, hB, hGl, hx, fun k hk => ?_⟩
    rw [o2.cellAt k (by omega)]
    exact hy k (Nat.zero_le _) hk
  · obtain ⟨g, g1, g2, g3, g4⟩ := hr j (by omega) h3
    exact ⟨g, g1, by omega, g3, g4⟩
theorem In.drew {w0 wr : World} {B n m G i k : Nat} {t : Nat → Nat → Nat} (h : In w0 B n m G t i k wr) (q : Nat) : In w0 B n m G t i k (wr.drewN q) := by
  obtain ⟨xs, ys, ⟨o, hb, hB, hG, hr⟩, hx, o2, hy⟩ := h
  exact ⟨xs, ys, ⟨o, below_drewN hb q, hB, hG, hr⟩, hx, o2, hy⟩
/-- What the round reads. -/
theorem In.row {w0 wr : World} {B n m G i k : Nat} {t : Nat → Nat → Nat} (h : In w0 B n m G t i k wr) (hi : i < n) : wr.cell? ⟨B, i, none⟩ = some (.slice (some ⟨G, 0, none⟩) m m) := by
  obtain ⟨xs, ys, ⟨o, hb, hB, hG, hr⟩, hx, o2, hy⟩ := h
  rw [o.cellAt i (by omega)]; exact hx
theorem In.cell {w0 wr : World} {B n m G i k : Nat} {t : Nat → Nat → Nat} (h : In w0 B n m G t i k wr) (j : Nat) (h1 : k ≤ j) (h2 : j < m) : wr.cell? ⟨G, j, none⟩ = some (.int .i64 (t i j)) := by
  obtain ⟨xs, ys, ⟨o, hb, hB, hG, hr⟩, hx, o2, hy⟩ := h
  rw [o2.cellAt j (by omega)]; exact hy j h1 h2
theorem In.room {w0 wr : World} {B n m G i k : Nat} {t : Nat → Nat → Nat} (h : In w0 B n m G t i k wr) (j : Nat) (h2 : j < m) : (∃ v, wr.cell? ⟨G, j, none⟩ = some v) ∧ wr.frozen? ⟨G, j, none⟩ = false := by
  obtain ⟨xs, ys, ⟨o, hb, hB, hG, hr⟩, hx, o2, hy⟩ := h
  have hl : ys.length = m * 1 := o2.1
  exact ⟨⟨_, (o2.cellAt j (by omega)).trans (List.getElem?_eq_getElem (by omega))⟩, o2.frozenAt j⟩
theorem In.next {w0 wr : World} {B n m G i k : Nat} {t : Nat → Nat → Nat} (h : In w0 B n m G t i k wr) (hi : i + 1 < n) : ∃ g, wr.cell? ⟨B, i + 1, none⟩ = some (.slice (some ⟨g, 0, none⟩) m m) ∧ ∀ k, k < m → wr.cell? ⟨g, k, none⟩ = some (.int .i64 (t (i + 1) k)) := by
  obtain ⟨xs, ys, ⟨o, hb, hB, hG, hr⟩, hx, o2, hy⟩ := h
  obtain ⟨g, g1, g2, g3, g4⟩ := hr (i + 1) (Nat.le_refl _) hi
  exact ⟨g, by rw [o.cellAt (i + 1) (by omega)]; exact g3, g4⟩
theorem In.below {w0 wr : World} {B n m G i k : Nat} {t : Nat → Nat → Nat} (h : In w0 B n m G t i k wr) : Below B w0 wr := by
  obtain ⟨xs, ys, ⟨o, hb, _⟩, _⟩ := h; exact hb
/-- A table, as it is read. -/
def Tab (w : World) (v : Value) (n m : Nat) (t : Nat → Nat → Nat) : Prop :=
  ∃ B, v = .slice (some ⟨B, 0, none⟩) n n ∧ B < w.heap.size ∧ ∀ j, j < n → ∃ g, g < w.heap.size ∧ w.cell? ⟨B, j, none⟩ = some (.slice (some ⟨g, 0, none⟩) m m) ∧ ∀ k, k < m → w.cell? ⟨g, k, none⟩ = some (.int .i64 (t j k))
theorem Tb.tab {w0 wr : World} {B n m : Nat} {t : Nat → Nat → Nat} {xs : List Value} (h : Tb w0 B n m wr.heap.size t 0 wr xs) : Tab wr (.slice (some ⟨B, 0, none⟩) n n) n m t := by
  obtain ⟨o, hb, hB, hG, hr⟩ := h
  refine ⟨B, rfl, hB, fun j hj => ?_⟩
  obtain ⟨g, g1, g2, g3, g4⟩ := hr j (Nat.zero_le _) hj
  exact ⟨g, g2, by rw [o.cellAt j (by omega)]; exact g3, g4⟩
theorem Tab.below {w w' : World} {v : Value} {n m : Nat} {t : Nat → Nat → Nat} (h : Tab w v n m t) (hb : Below w.heap.size w w') : Tab w' v n m t := by
  obtain ⟨B, hv, hB, hr⟩ := h
  refine ⟨B, hv, Nat.lt_of_lt_of_le hB hb.size, fun j hj => ?_⟩
  obtain ⟨g, g1, g2, g3⟩ := hr j hj
  exact ⟨g, Nat.lt_of_lt_of_le g1 hb.size, (hb.cell (by exact hB)).trans g2, fun k hk => (hb.cell (by exact g1)).trans (g3 k hk)⟩

theorem max2 (w : World) (x y : Int) : (Builtin.max_ #[3, 3] 3 #[.int .i64 x, .int .i64 y]).run Tryz.prog w = .ok (.int .i64 (max x y)) w := by
  have e : ∀ x y : Int, (if y > x then y else x) = max x y := fun x y => by
    rw [Int.max_def]
    split <;> split <;> omega
  simp [Builtin.max_, Builtin.max2, e]

set_option maxHeartbeats 3200000 in
set_option maxRecDepth 100000 in
theorem table_any (va vb : Value) (a b : List Int) (w : World) (ha : Rz w va a) (hb : Rz w vb b) (hla : a.length ≤ 100000) (hlb : b.length ≤ 100000) :
    Calls Tryz.prog 65 #[va, vb] w fun e w' => ∃ v, e = .returned v ∧ Tab w' v (a.length + 1) (b.length + 1) (tb a b) ∧ Below w.heap.size w w' := by
  obtain ⟨i0, hi, hz0, hz1, hz2⟩ := info_parts infoI
  obtain ⟨j0, hj, hy0, hy1, hy2⟩ := info_parts infoT
  obtain ⟨aoa, ca, rfl⟩ := ha.len
  obtain ⟨aob, cb, rfl⟩ := hb.len
  have FA := Lib.hid ha.at
  have FB := Lib.hid hb.at
  clear ha hb
  obtain ⟨n1, hn1⟩ : ∃ n1, a.length + 1 = n1 := ⟨_, rfl⟩
  obtain ⟨m, hm⟩ : ∃ m, b.length + 1 = m := ⟨_, rfl⟩
  have e1 : IntKind.i64.wrap ((a.length : Int) + 1) = (n1 : Int) := by rw [IntKind.wrap_i64]; omega
  have e2 : IntKind.i64.wrap ((b.length : Int) + 1) = (m : Int) := by rw [IntKind.wrap_i64]; omega
  go_enter Tryz.func65, Tryz.ntmps65
  go_wp2_with (at_make; refine wpList_make_full _ rfl _ _ 25 rfl w.heap.size 30 j0 (.slice none 0 0) 1 Tryz.underlying25 hj hy0 hy1 _ _ _ _ n1 rfl rfl rfl rfl (by rw [hy2]; omega) (by unfold maxLen; omega) (Nat.le_refl _) ?_)
  intro W2 hown hgrow
  have HT0 : Hid (∃ xs, Tb w w.heap.size n1 m W2.heap.size (tb a b) n1 W2 xs) := Lib.hid ⟨_, Tb.start hown hgrow⟩
  clear hown hgrow
  go_wp2_with fail
  go_loopw [6] (fun s wr => ∃ k : Nat, k ≤ n1 ∧ s = .int .i64 ((k : Int) - 1) ∧ Hid (∃ xs, Tb w w.heap.size n1 m wr.heap.size (tb a b) k wr xs)) (fun s _ => (intOf s + 1).toNat)
  case atStart => exact ⟨n1, Nat.le_refl _, by rw [← hn1]; go_num, HT0⟩
  case round =>
    clear HT0
    obtain ⟨k, hk, rfl, HT⟩ := hrel
    rcases k with _ | i
    · obtain ⟨xs, hx⟩ := HT.out
      have HF := Lib.hid hx.tab
      have HF2 : Hid (Tab wr (.slice (some ⟨w.heap.size, 0, none⟩) n1 n1) (a.length + 1) (b.length + 1) (tb a b)) := Lib.hid (by rw [hm, hn1]; exact HF.out)
      have HB : Hid (Below w.heap.size w wr) := Lib.hid hx.2.1
      clear hx HT
      have hneg : ((0 : Nat) : Int) - 1 = -1 := by omega
      rw [hneg]
      go_wp2_with fail
      go_ret
      first | exact ⟨_, rfl, HF2.out, HB.out⟩ | exact ⟨_, rfl, HF.out, HB.out⟩
    · have hil : i < n1 := by omega
      rw [show ((i + 1 : Nat) : Int) - 1 = (i : Int) by omega]
      generalize hwo : wr = wo at *
      clear hwo
      obtain ⟨xs, hx⟩ := HT.out
      have hbo : Below w.heap.size w wo := hx.2.1
      have hwl : w.heap.size < wo.heap.size := hx.2.2.1
      have hll : xs.length = n1 * 1 := hx.1.1
      have cB : ∃ v, wo.cell? ⟨w.heap.size, i, none⟩ = some v := ⟨_, (hx.1.cellAt i (by omega)).trans (List.getElem?_eq_getElem (by omega))⟩
      obtain ⟨vB, cB⟩ := cB
      have fB := hx.1.frozenAt i
      have HX := Lib.hid hx
      clear hx HT
      go_wp2_with (at_make; refine wpList_make_full _ rfl _ _ 30 rfl wo.heap.size 3 i0 (.int .i64 0) 1 Tryz.underlying30 hi hz0 hz1 _ _ _ _ m rfl rfl rfl rfl (by rw [hz2]; omega) (by unfold maxLen; omega) (Nat.le_refl _) ?_)
      intro W5 hown hgrow
      have hz : ∀ j, j < m → (madeCells #[Value.int .i64 0] m).toList[j]? = some (.int .i64 0) := fun j hj => by
        rw [toList_madeCells_one]
        rw [List.getElem?_replicate, if_pos (by omega)]
      have c5 : W5.cell? ⟨w.heap.size, i, none⟩ = some vB := hgrow.cell cB (by simp)
      have f5 : W5.frozen? ⟨w.heap.size, i, none⟩ = false := by
        rw [← fB]
        exact World.frozen?_of_block (hgrow.block _ hwl (by simp))
      by_cases hia : i < a.length
      · have HI0 : Hid (In w w.heap.size n1 m wo.heap.size (tb a b) i b.length (W5.setCell ⟨w.heap.size, i, none⟩ (.slice (some ⟨wo.heap.size, 0, none⟩) m m))) := Lib.hid (HX.out.make hil hown hgrow b.length (fun j h1 h2 => by
          rw [hz j h2, tb_end2 a b i j h1]; rfl))
        clear hown hgrow hz HX
        obtain ⟨ba, oa, rfl, hba, fa⟩ := FA.out i hia
        go_wp2_with fail
        go_loopw [7] (fun s wr => ∃ k : Nat, k ≤ b.length ∧ s = .int .i64 ((k : Int) - 1) ∧ Hid (In w w.heap.size n1 m wo.heap.size (tb a b) i k wr)) (fun s _ => (intOf s + 1).toNat)
        case atStart => exact ⟨b.length, Nat.le_refl _, by go_num, HI0⟩
        case round =>
          clear HI0
          obtain ⟨k, hk2, rfl, HI⟩ := hrel
          rcases k with _ | q
          · have HD := Lib.hid HI.out.done
            have hneg : ((0 : Nat) : Int) - 1 = -1 := by omega
            rw [hneg]
            clear HI
            go_wp2_with fail
            go_roundw
            case rel => exact ⟨i, by omega, by go_num, HD⟩
            case measure => simp [intOf] <;> omega
          · rw [show ((q + 1 : Nat) : Int) - 1 = (q : Int) by omega]
            have hqb : q < b.length := by omega
            obtain ⟨bb, ob, rfl, hbb, fb⟩ := FB.out q hqb
            have hbw := HI.out.below
            have ka : wr.cell? ⟨ba, oa + i, none⟩ = some (.int .i64 a[i]) := (hbw.cell (by exact hba)).trans fa
            have kb : wr.cell? ⟨bb, ob + q, none⟩ = some (.int .i64 b[q]) := (hbw.cell (by exact hbb)).trans fb
            obtain ⟨i1, hi1⟩ : ∃ i1, i + 1 = i1 := ⟨_, rfl⟩
            obtain ⟨q1, hq1⟩ : ∃ q1, q + 1 = q1 := ⟨_, rfl⟩
            have ei : IntKind.i64.wrap ((i : Int) + 1) = (i1 : Int) := by rw [IntKind.wrap_i64]; omega
            have eq : IntKind.i64.wrap ((q : Int) + 1) = (q1 : Int) := by rw [IntKind.wrap_i64]; omega
            have t1 : (i : Int) < (a.length : Int) := by omega
            have t2 : (q : Int) < (b.length : Int) := by omega
            have t3 : (i : Int) < (n1 : Int) := by omega
            have t4 : (i1 : Int) < (n1 : Int) := by omega
            have t5 : (q : Int) < (m : Int) := by omega
            have t6 : (q1 : Int) < (m : Int) := by omega
            have t7 : i1 < n1 := by omega
            have t8 : q1 < m := by omega
            have t9 : q < m := by omega
            have g0 : decide ((0 : Int) ≤ (q : Int)) = true := decide_eq_true (by omega)
            clear hbw fb
            by_cases hab : a[i] = b[q]
            · have HT : Hid (tb a b i q = tb a b (i + 1) (q + 1) + 1) := Lib.hid (tb_yes hia hqb hab)
              have e3 : (a[i] == b[q]) = true := by simpa using hab
              clear hab fa
              generalize a[i] = av at *
              generalize b[q] = bv at *
              go_wp2_with fail
              go_quiet (fail)
              generalize hw9 : wr.drewN nq = w9
              have HI9 : Hid (In w w.heap.size n1 m wo.heap.size (tb a b) i (q + 1) w9) := Lib.hid (by rw [← hw9]; exact HI.out.drew nq)
              clear hw9 HI
              have c1 := HI9.out.row hil
              obtain ⟨g, c2, cg⟩ := HI9.out.next (by omega)
              rw [hi1] at c2
              have c3 := cg (q + 1) (by omega)
              have c4 : True := trivial
              rw [hi1, hq1] at c3
              obtain ⟨⟨v0, cr⟩, fr⟩ := HI9.out.room q (by omega)
              have Hst := HI9.out.step (show q < m by omega)
              rw [HT.out] at Hst
              clear cg HI9
              rw [hi1, hq1] at Hst
              have hx1 := tb_le a b i1 q1
              generalize tb a b i1 q1 = x at *
              obtain ⟨y, hy⟩ : ∃ y, x + 1 = y := ⟨_, rfl⟩
              rw [hy] at Hst
              have ex : IntKind.i64.wrap ((x : Int) + 1) = (y : Int) := by rw [IntKind.wrap_i64]; omega
              have d1 : ({ heap := w9.heap, tape := w9.tape, drawn := w9.drawn + 1, os := w9.os, output := w9.output } : World).cell? ⟨w.heap.size, i, none⟩ = _ := c1
              have d2 : ({ heap := w9.heap, tape := w9.tape, drawn := w9.drawn + 1, os := w9.os, output := w9.output } : World).cell? ⟨w.heap.size, i1, none⟩ = _ := c2
              have d3 : ({ heap := w9.heap, tape := w9.tape, drawn := w9.drawn + 1, os := w9.os, output := w9.output } : World).cell? ⟨g, q1, none⟩ = _ := c3
              have HH := Lib.hid Hst
              have HY := Lib.hid hy
              clear Hst hy
              go_wp2_with fail
              go_still_tail 16, (by kernel_rfl)
              change wpList _ _ _ _ _ w9.drew
              generalize hw10 : w9.drew = w10
              have cr10 : w10.cell? ⟨wo.heap.size, q, none⟩ = some v0 := by rw [← hw10]; exact cr
              have fr10 : w10.frozen? ⟨wo.heap.size, q, none⟩ = false := by rw [← hw10]; exact fr
              have Hs10 : Hid (In w w.heap.size n1 m wo.heap.size (tb a b) i q (w10.setCell ⟨wo.heap.size, q, none⟩ (.int .i64 (y : Int)))) := Lib.hid (by rw [← hw10]; exact HH.out.drew 1)
              clear hw10 cr fr HH c1 c2 c3 c4 d1 d2 d3
              go_wp2_with fail
              go_roundw
              case rel => exact ⟨q, by omega, by go_num, Hs10⟩
              case measure => simp [intOf] <;> omega
            · have HT : Hid (tb a b i q = max (tb a b (i + 1) q) (tb a b i (q + 1))) := Lib.hid (tb_no hia hqb hab)
              have e3 : (a[i] == b[q]) = false := by simpa using hab
              clear hab fa
              generalize a[i] = av at *
              generalize b[q] = bv at *
              go_wp2_with fail
              go_quiet (fail)
              generalize hw9 : wr.drewN nq = w9
              have HI9 : Hid (In w w.heap.size n1 m wo.heap.size (tb a b) i (q + 1) w9) := Lib.hid (by rw [← hw9]; exact HI.out.drew nq)
              clear hw9 HI
              have c1 := HI9.out.row hil
              obtain ⟨g, c2, cg⟩ := HI9.out.next (by omega)
              rw [hi1] at c2
              have c3 := cg q (by omega)
              rw [hi1] at c3
              have c4 := HI9.out.cell (q + 1) (Nat.le_refl _) (by omega)
              rw [hq1] at c4
              obtain ⟨⟨v0, cr⟩, fr⟩ := HI9.out.room q (by omega)
              have Hst := HI9.out.step (show q < m by omega)
              rw [HT.out] at Hst
              clear cg HI9
              rw [hi1, hq1] at Hst
              have hx1 := tb_le a b i1 q
              have hx2 := tb_le a b i q1
              generalize tb a b i1 q = x at *
              generalize tb a b i q1 = z at *
              obtain ⟨y, hy⟩ : ∃ y, max x z = y := ⟨_, rfl⟩
              rw [hy] at Hst
              have ex : ∀ w, (Builtin.max_ #[3, 3] 3 #[.int .i64 (x : Int), .int .i64 (z : Int)]).run Tryz.prog w = .ok (.int .i64 (y : Int)) w := fun w => by rw [max2, ← hy]; congr 2; omega
              have d1 : ({ heap := w9.heap, tape := w9.tape, drawn := w9.drawn + 1, os := w9.os, output := w9.output } : World).cell? ⟨w.heap.size, i, none⟩ = _ := c1
              have d2 : ({ heap := w9.heap, tape := w9.tape, drawn := w9.drawn + 1, os := w9.os, output := w9.output } : World).cell? ⟨w.heap.size, i1, none⟩ = _ := c2
              have d3 : ({ heap := w9.heap, tape := w9.tape, drawn := w9.drawn + 1, os := w9.os, output := w9.output } : World).cell? ⟨g, q, none⟩ = _ := c3
              have d4 : ({ heap := w9.heap, tape := w9.tape, drawn := w9.drawn + 1, os := w9.os, output := w9.output } : World).cell? ⟨wo.heap.size, q1, none⟩ = _ := c4
              have HH := Lib.hid Hst
              have HY := Lib.hid hy
              clear Hst hy
              go_wp2_with fail
              go_still_tail 23, (by kernel_rfl)
              change wpList _ _ _ _ _ w9.drew
              generalize hw10 : w9.drew = w10
              have cr10 : w10.cell? ⟨wo.heap.size, q, none⟩ = some v0 := by rw [← hw10]; exact cr
              have fr10 : w10.frozen? ⟨wo.heap.size, q, none⟩ = false := by rw [← hw10]; exact fr
              have Hs10 : Hid (In w w.heap.size n1 m wo.heap.size (tb a b) i q (w10.setCell ⟨wo.heap.size, q, none⟩ (.int .i64 (y : Int)))) := Lib.hid (by rw [← hw10]; exact HH.out.drew 1)
              clear hw10 cr fr HH c1 c2 c3 c4 d1 d2 d3 d4
              go_wp2_with fail
              go_roundw
              case rel => exact ⟨q, by omega, by go_num, Hs10⟩
              case measure => simp [intOf] <;> omega
      · obtain rfl : i = a.length := by omega
        have HI0 : Hid (In w w.heap.size n1 m wo.heap.size (tb a b) a.length 0 (W5.setCell ⟨w.heap.size, a.length, none⟩ (.slice (some ⟨wo.heap.size, 0, none⟩) m m))) := Lib.hid (HX.out.make hil hown hgrow 0 (fun j h1 h2 => by
          rw [hz j h2, tb_end a b a.length j (Nat.le_refl _)]; rfl))
        clear hown hgrow hz HX hia
        obtain ⟨z, hzb⟩ : ∃ z : Int, (b.length : Int) - 1 = z := ⟨_, rfl⟩
        have HZ := Lib.hid hzb
        have d0 : decide (a.length < a.length) = false := decide_eq_false (Nat.lt_irrefl _)
        go_wp2_with fail
        go_loopw [7] (fun s wr => s = .int .i64 z ∧ Hid (In w w.heap.size n1 m wo.heap.size (tb a b) a.length 0 wr)) (fun s _ => 0)
        case atStart => exact ⟨by first | rfl | (rw [← HZ.out]), HI0⟩
        case round =>
          clear HI0 hzb
          obtain ⟨rfl, HI⟩ := hrel
          have HD := Lib.hid HI.out.done
          clear HI
          by_cases hz0 : 0 ≤ z
          · go_wp2_with fail
            go_roundw
            case rel => exact ⟨a.length, by omega, by go_num, HD⟩
            case measure => simp [intOf] <;> omega
          · go_wp2_with fail
            go_roundw
            case rel => exact ⟨a.length, by omega, by go_num, HD⟩
            case measure => simp [intOf] <;> omega

end Go.Proofs.YtldllbmbcnipoaaGreatDoor.Lc
