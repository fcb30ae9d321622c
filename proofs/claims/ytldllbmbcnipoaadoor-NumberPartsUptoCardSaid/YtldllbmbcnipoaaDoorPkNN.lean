/-
  Several texts in one:
  CONTRACT of the document's table (emendationref04): what can be had in common from each two places on.
  CONTRACTS of the document's Length, Dice, Pairs, Same (emendationref04).
  A SLICE OF A SLICE of numbers, 's[lo:hi]': its run, and how it reads. No function of the program is named.
-/
import Derived.Test.YtldllbmbcnipoaaDoorPkNB
import Derived.Test.YtldllbmbcnipoaaDoorLcPlain
import Derived.Test.YtldllbmbcnipoaaDoorPkNC
import Derived.Deep.RegionLaw
namespace Go.Proofs.YtldllbmbcnipoaaDoor.Lc
open Go.RowKit Go.Proofs.YtldllbmbcnipoaaDoor.Cm
set_option linter.unusedVariables false

theorem infoT : (Tryd.prog.info? 27).map (fun i => (i.zero, i.size, i.bytes)) = some (some (.slice none 0 0), 1, 24) := by kernel_rfl
/-- The rows from i on are done: they lie in blocks between B and G. -/
def Tb (w0 : World) (B n m G : Nat) (t : Nat → Nat → Nat) (i : Nat) (wr : World) (xs : List Value) : Prop :=
  wr.ownsRow B 27 1 (.slice (some ⟨B, 0, none⟩) n n) n xs ∧ Below B w0 wr ∧ B < G ∧ G ≤ wr.heap.size ∧
    ∀ j, i ≤ j → j < n → ∃ g, B < g ∧ g < G ∧ xs[j]? = some (.slice (some ⟨g, 0, none⟩) m m) ∧ ∀ k, k < m → wr.cell? ⟨g, k, none⟩ = some (.int .i64 (t j k))
/-- The row i is filled from the right: k cells are still to do. -/
def In (w0 : World) (B n m G : Nat) (t : Nat → Nat → Nat) (i : Nat) (k : Nat) (wr : World) : Prop :=
  ∃ xs ys, Tb w0 B n m G t (i + 1) wr xs ∧ xs[i]? = some (.slice (some ⟨G, 0, none⟩) m m) ∧ wr.ownsRow G 3 1 (.slice (some ⟨G, 0, none⟩) m m) m ys ∧ ∀ j, k ≤ j → j < m → ys[j]? = some (.int .i64 (t i j))
theorem Tb.start {w0 wr : World} {n m : Nat} {t : Nat → Nat → Nat} {xs : List Value} (h : wr.ownsRow w0.heap.size 27 1 (.slice (some ⟨w0.heap.size, 0, none⟩) n n) n xs) (hg : w0.grownBy wr none) : Tb w0 w0.heap.size n m wr.heap.size t n wr xs :=
  ⟨h, (Below.refl _ _).grown hg (Nat.le_refl _) (fun k h => by cases h), (h.lt _ rfl).2, Nat.le_refl _, fun j h1 h2 => by omega⟩
theorem Tb.make {w0 wr w2 : World} {B n m i : Nat} {t : Nat → Nat → Nat} {xs ys : List Value} (h : Tb w0 B n m wr.heap.size t (i + 1) wr xs) (hi : i < n)
    (h2 : w2.ownsRow wr.heap.size 3 1 (.slice (some ⟨wr.heap.size, 0, none⟩) m m) m ys) (hg : wr.grownBy w2 none) (k : Nat) (hk : ∀ j, k ≤ j → j < m → ys[j]? = some (.int .i64 (t i j))) :
    In w0 B n m wr.heap.size t i k (w2.setCell ⟨B, i, none⟩ (.slice (some ⟨wr.heap.size, 0, none⟩) m m)) := by
  obtain ⟨o, hb, hB, hG, hr⟩ := h
  have hBl : B < wr.heap.size := hB
  have o2 := o.kept hg (Or.inr (by simp [Value.ownBlock]))
  obtain ⟨o3, _⟩ := o2.stored i (.slice (some ⟨wr.heap.size, 0, none⟩) m m)
  have hl : xs.length = n * 1 := o.1
  refine ⟨_, ys, ⟨o3, ?_, hB, ?_, fun j h1 h3 => ?_⟩, List.getElem?_set_self (by omega), ?_, hk⟩
  · exact (hb.grown hg (by omega) (fun k h => by cases h)).setCell (Nat.le_refl _) _
  · have := hg.size; simp [World.setCell]; omega
  · obtain ⟨g, g1, g2, g3, g4⟩ := hr j h1 h3
    refine ⟨g, g1, g2, by rw [List.getElem?_set_ne (by omega)]; exact g3, fun k hk => ?_⟩
    have c2 : w2.cell? ⟨g, k, none⟩ = some (.int .i64 (t j k)) := hg.cell (g4 k hk) (by simp)
    rw [← c2]
    apply World.cell?_setCell_other
    intro e
    have : B = g := congrArg Addr.block e
    omega
  · exact own_block h2 (Below.heap_setCell _ _ _ _ (by show wr.heap.size ≠ B; omega))
theorem In.step {w0 wr : World} {B n m G i k : Nat} {t : Nat → Nat → Nat} (h : In w0 B n m G t i (k + 1) wr) (hk : k < m) : In w0 B n m G t i k (wr.setCell ⟨G, k, none⟩ (.int .i64 (t i k))) := by
  obtain ⟨xs, ys, ⟨o, hb, hB, hG, hr⟩, hx, o2, hy⟩ := h
  obtain ⟨o3, _⟩ := o2.stored k (.int .i64 (t i k))
  have hl : ys.length = m * 1 := o2.1
  refine ⟨xs, _, ⟨own_block o (Below.heap_setCell _ _ _ _ (by show B ≠ G; omega)), hb.setCell (by show B ≤ G; omega) _, hB, by simpa [World.setCell] using hG, fun j h1 h3 => ?_⟩, hx, o3, fun j h1 h3 => ?_⟩
  · obtain ⟨g, g1, g2, g3, g4⟩ := hr j h1 h3
    refine ⟨g, g1, g2, g3, fun k' hk' => ?_⟩
    rw [← g4 k' hk']
    apply World.cell?_setCell_other
    intro e
    have : G = g := congrArg Addr.block e
    omega
  · by_cases e : j = k
    · subst e
      rw [List.getElem?_set_self (by omega)]
    · rw [List.getElem?_set_ne (by omega)]
      exact hy j (by omega) h3
theorem In.done {w0 wr : World} {B n m G i : Nat} {t : Nat → Nat → Nat} (h : In w0 B n m G t i 0 wr) : ∃ xs, Tb w0 B n m wr.heap.size t i wr xs := by
  obtain ⟨xs, ys, ⟨o, hb, hB, hG, hr⟩, hx, o2, hy⟩ := h
  have hGl : G < wr.heap.size := (o2.lt G rfl).2
  refine ⟨xs, o, hb, by omega, Nat.le_refl _, fun j h1 h3 => ?_⟩
  by_cases e : j = i
  · subst e
    refine ⟨G, hB, hGl, hx, fun k hk => ?_⟩
    rw [o2.cellAt k (by omega)]
    exact hy k (Nat.zero_le _) hk
  · obtain ⟨g, g1, g2, g3, g4⟩ := hr j (by omega) h3
    exact ⟨g, g1, by omega, g3, g4⟩
theorem In.drew {w0 wr : World} {B n m G i k : Nat} {t : Nat → Nat → Nat} (h : In w0 B n m G t i k wr) (q : Nat) : In w0 B n m G t i k (wr.drewN q) := by
  obtain ⟨xs, ys, ⟨o, hb, hB, hG, hr⟩, hx, o2, hy⟩ := h
  exact ⟨xs, ys, ⟨o, below_drewN hb q, hB, hG, hr⟩, hx, o2, hy⟩
/-- What the round reads. -/
theorem In.row {w0 wr : World} {B n m G i k : Nat} {t : Nat → Nat → Nat} (h : In w0 B n m G t i k wr) (hi : i < n) : wr.cell? ⟨B, i, none⟩ = some (.slice (some ⟨G, 0, none⟩) m m) := by
  obtain ⟨xs, ys, ⟨o, hb, hB, hG, hr⟩, hx, o2, hy⟩ := h
  rw [o.cellAt i (by omega)]; exact hx
theorem In.cell {w0 wr : World} {B n m G i k : Nat} {t : Nat → Nat → Nat} (h : In w0 B n m G t i k wr) (j : Nat) (h1 : k ≤ j) (h2 : j < m) : wr.cell? ⟨G, j, none⟩ = some (.int .i64 (t i j)) := by
  obtain ⟨xs, ys, ⟨o, hb, hB, hG, hr⟩, hx, o2, hy⟩ := h
  rw [o2.cellAt j (by omega)]; exact hy j h1 h2
theorem In.room {w0 wr : World} {B n m G i k : Nat} {t : Nat → Nat → Nat} (h : In w0 B n m G t i k wr) (j : Nat) (h2 : j < m) : (∃ v, wr.cell? ⟨G, j, none⟩ = some v) ∧ wr.frozen? ⟨G, j, none⟩ = false := by
  obtain ⟨xs, ys, ⟨o, hb, hB, hG, hr⟩, hx, o2, hy⟩ := h
  have hl : ys.length = m * 1 := o2.1
  exact ⟨⟨_, (o2.cellAt j (by omega)).trans (List.getElem?_eq_getElem (by omega))⟩, o2.frozenAt j⟩
theorem In.next {w0 wr : World} {B n m G i k : Nat} {t : Nat → Nat → Nat} (h : In w0 B n m G t i k wr) (hi : i + 1 < n) : ∃ g, wr.cell? ⟨B, i + 1, none⟩ = some (.slice (some ⟨g, 0, none⟩) m m) ∧ ∀ k, k < m → wr.cell? ⟨g, k, none⟩ = some (.int .i64 (t (i + 1) k)) := by
  obtain ⟨xs, ys, ⟨o, hb, hB, hG, hr⟩, hx, o2, hy⟩ := h
  obtain ⟨g, g1, g2, g3, g4⟩ := hr (i + 1) (Nat.le_refl _) hi
  exact ⟨g, by rw [o.cellAt (i + 1) (by omega)]; exact g3, g4⟩
theorem In.below {w0 wr : World} {B n m G i k : Nat} {t : Nat → Nat → Nat} (h : In w0 B n m G t i k wr) : Below B w0 wr := by
  obtain ⟨xs, ys, ⟨o, hb, _⟩, _⟩ := h; exact hb
/-- A table, as it is read. -/
def Tab (w : World) (v : Value) (n m : Nat) (t : Nat → Nat → Nat) : Prop :=
  ∃ B, v = .slice (some ⟨B, 0, none⟩) n n ∧ B < w.heap.size ∧ ∀ j, j < n → ∃ g, g < w.heap.size ∧ w.cell? ⟨B, j, none⟩ = some (.slice (some ⟨g, 0, none⟩) m m) ∧ ∀ k, k < m → w.cell? ⟨g, k, none⟩ = some (.int .i64 (t j k))
theorem Tb.tab {w0 wr : World} {B n m : Nat} {t : Nat → Nat → Nat} {xs : List Value} (h : Tb w0 B n m wr.heap.size t 0 wr xs) : Tab wr (.slice (some ⟨B, 0, none⟩) n n) n m t := by
  obtain ⟨o, hb, hB, hG, hr⟩ := h
  refine ⟨B, rfl, hB, fun j hj => ?_⟩
  obtain ⟨g, g1, g2, g3, g4⟩ := hr j (Nat.zero_le _) hj
  exact ⟨g, g2, by rw [o.cellAt j (by omega)]; exact g3, g4⟩
theorem Tab.below {w w' : World} {v : Value} {n m : Nat} {t : Nat → Nat → Nat} (h : Tab w v n m t) (hb : Below w.heap.size w w') : Tab w' v n m t := by
  obtain ⟨B, hv, hB, hr⟩ := h
  refine ⟨B, hv, Nat.lt_of_lt_of_le hB hb.size, fun j hj => ?_⟩
  obtain ⟨g, g1, g2, g3⟩ := hr j hj
  exact ⟨g, Nat.lt_of_lt_of_le g1 hb.size, (hb.cell (by exact hB)).trans g2, fun k hk => (hb.cell (by exact g1)).trans (g3 k hk)⟩

theorem max2 (w : World) (x y : Int) : (Builtin.max_ #[3, 3] 3 #[.int .i64 x, .int .i64 y]).run Tryd.prog w = .ok (.int .i64 (max x y)) w := by
  have e : ∀ x y : Int, (if y > x then y else x) = max x y := fun x y => by
    rw [Int.max_def]
    split <;> split <;> omega
  simp [Builtin.max_, Builtin.max2, e]

end Go.Proofs.YtldllbmbcnipoaaDoor.Lc

namespace Go.Proofs.YtldllbmbcnipoaaDoor.Lc
open Go.RowKit Go.Proofs.YtldllbmbcnipoaaDoor.Cm
set_option linter.unusedVariables false

/-- A pair, as it lies. -/
def encP (p : Nat × Nat) : List Value := [.int .i64 p.1, .int .i64 p.2]
theorem encP_len (p : Nat × Nat) : (encP p).length = 2 := rfl
theorem encP_one (p : Nat × Nat) : ∀ u ∈ encP p, u.oneCell' = true := by
  intro u hu
  simp [encP] at hu
  rcases hu with rfl | rfl <;> rfl
theorem own_low {w : World} {B B' e z n : Nat} {v : Value} {xs : List Value} (h : w.ownsRow B' e z v n xs) (hB : B ≤ B') : w.ownsRow B e z v n xs := by
  refine ⟨h.1, ?_⟩
  rcases h.2 with hn | ⟨g, cap, cur, hv, hg, rest⟩
  · exact .inl hn
  · exact .inr ⟨g, cap, cur, hv, Nat.le_trans hB hg, rest⟩
/-- The pairs so far, and what is left. -/
def Pp (a b : List Int) (i k : Nat) (o : List (Nat × Nat)) : Prop := pairs a b = o ++ pp i k (a.drop i) (b.drop k)

end Go.Proofs.YtldllbmbcnipoaaDoor.Lc

namespace Go.Proofs.YtldllbmbcnipoaaDoor.Cm
open Go.RowKit
set_option linter.unusedVariables false

/-- 's[lo:hi]': its run, and how it reads. -/
theorem slice_run {w0 : World} {ao : Option Addr} {c : Nat} {l : List Int} (h : Rz w0 (.slice ao l.length c) l) (lo hi : Nat) (h1 : lo ≤ hi) (h2 : hi ≤ l.length) (hl : l.length ≤ 1000000) :
    ∃ v, (∀ w, (Instr.slice 27 (.slice ao l.length c) (some (.int .i64 (lo : Int))) (some (.int .i64 (hi : Int))) none).run Tryd.prog w = .ok v w) ∧ ∀ w', Below w0.heap.size w0 w' → Rz w' v ((l.drop lo).take (hi - lo)) := by
  have u := Tryd.underlying27
  have hz : Tryd.prog.cellsOf 3 = 1 := by kernel_rfl
  obtain ⟨ao', c', hv, hc, hx⟩ := h
  simp only [Value.slice.injEq, true_and] at hv
  obtain ⟨rfl, rfl⟩ := hv
  have hpl : ((l.drop lo).take (hi - lo)).length = hi - lo := by rw [List.length_take, List.length_drop]; omega
  by_cases h0 : l = []
  · have hz : l.length = 0 := by rw [h0]; rfl
    obtain rfl : hi = 0 := by omega
    obtain rfl : lo = 0 := by omega
    rw [hz]
    refine ⟨.slice ao 0 c, fun w => ?_, fun w' _ => ⟨_, _, by rw [hpl], by omega, Or.inl (List.eq_nil_of_length_eq_zero (by omega))⟩⟩
    cases ao <;> go_simp
  · rcases hx with hx | ⟨b, o, rfl, hb, hcell⟩
    · exact absurd hx h0
    by_cases hic : lo < c
    · refine ⟨.slice (some ⟨b, o + lo, none⟩) (hi - lo) (c - lo), fun w => ?_, fun w' hb' => ?_⟩
      · have hicn : ¬ c ≤ lo := by omega
        have hn : ¬ c - lo = 0 := by omega
        go_simp
        rw [if_pos (show hi ≤ c by omega), if_neg (show ¬ c = lo by omega)]
      · refine ⟨_, c - lo, by rw [hpl], by omega, Or.inr ⟨b, o + lo, rfl, Nat.lt_of_lt_of_le hb hb'.size, fun q x hq => ?_⟩⟩
        have hql : q < hi - lo := by
          have := (List.getElem?_eq_some_iff.1 hq).1
          omega
        rw [List.getElem?_take_of_lt hql, List.getElem?_drop] at hq
        rw [Nat.add_assoc]
        exact (hb'.cell (by exact hb)).trans (hcell _ x hq)
    · obtain rfl : lo = c := by omega
      obtain rfl : hi = lo := by omega
      refine ⟨.slice (some ⟨b, o, none⟩) 0 0, fun w => ?_, fun w' _ => ⟨some ⟨b, o, none⟩, 0, by rw [hpl, Nat.sub_self], by omega, Or.inl (List.eq_nil_of_length_eq_zero (by omega))⟩⟩
      go_simp

/-- 's[:hi]'. -/
theorem slice_to {w0 : World} {ao : Option Addr} {c : Nat} {l : List Int} (h : Rz w0 (.slice ao l.length c) l) (hi : Nat) (h2 : hi ≤ l.length) (hl : l.length ≤ 1000000) :
    ∃ v, (∀ w, (Instr.slice 27 (.slice ao l.length c) none (some (.int .i64 (hi : Int))) none).run Tryd.prog w = .ok v w) ∧ ∀ w', Below w0.heap.size w0 w' → Rz w' v (l.take hi) := by
  have u := Tryd.underlying27
  have hz : Tryd.prog.cellsOf 3 = 1 := by kernel_rfl
  obtain ⟨ao', c', hv, hc, hx⟩ := h
  simp only [Value.slice.injEq, true_and] at hv
  obtain ⟨rfl, rfl⟩ := hv
  have hpl : (l.take hi).length = hi := by rw [List.length_take]; omega
  by_cases h0 : l = []
  · have hz : l.length = 0 := by rw [h0]; rfl
    obtain rfl : hi = 0 := by omega
    rw [hz]
    refine ⟨.slice ao 0 c, fun w => ?_, fun w' _ => ⟨_, _, by rw [hpl], by omega, Or.inl rfl⟩⟩
    cases ao <;> go_simp
  · rcases hx with hx | ⟨b, o, rfl, hb, hcell⟩
    · exact absurd hx h0
    refine ⟨.slice (some ⟨b, o, none⟩) hi c, fun w => ?_, fun w' hb' => ?_⟩
    · have hhc : hi ≤ c := by omega
      go_simp
    · refine ⟨_, c, by rw [hpl], by omega, Or.inr ⟨b, o, rfl, Nat.lt_of_lt_of_le hb hb'.size, fun q x hq => ?_⟩⟩
      have hql : q < hi := by
        have := (List.getElem?_eq_some_iff.1 hq).1
        omega
      rw [List.getElem?_take_of_lt hql] at hq
      exact (hb'.cell (by exact hb)).trans (hcell _ x hq)
/-- 's[lo:]'. -/
theorem slice_from {w0 : World} {ao : Option Addr} {c : Nat} {l : List Int} (h : Rz w0 (.slice ao l.length c) l) (lo : Nat) (h2 : lo ≤ l.length) (hl : l.length ≤ 1000000) :
    ∃ v, (∀ w, (Instr.slice 27 (.slice ao l.length c) (some (.int .i64 (lo : Int))) none none).run Tryd.prog w = .ok v w) ∧ ∀ w', Below w0.heap.size w0 w' → Rz w' v (l.drop lo) := by
  have u := Tryd.underlying27
  have hz : Tryd.prog.cellsOf 3 = 1 := by kernel_rfl
  obtain ⟨ao', c', hv, hc, hx⟩ := h
  simp only [Value.slice.injEq, true_and] at hv
  obtain ⟨rfl, rfl⟩ := hv
  have hpl : (l.drop lo).length = l.length - lo := List.length_drop
  by_cases h0 : l = []
  · have hz : l.length = 0 := by rw [h0]; rfl
    obtain rfl : lo = 0 := by omega
    rw [hz]
    refine ⟨.slice ao 0 c, fun w => ?_, fun w' _ => ⟨_, _, by rw [hpl, hz], by omega, Or.inl (List.eq_nil_of_length_eq_zero (by omega))⟩⟩
    cases ao <;> go_simp
  · rcases hx with hx | ⟨b, o, rfl, hb, hcell⟩
    · exact absurd hx h0
    by_cases hic : lo < c
    · refine ⟨.slice (some ⟨b, o + lo, none⟩) (l.length - lo) (c - lo), fun w => ?_, fun w' hb' => ?_⟩
      · have hicn : ¬ c ≤ lo := by omega
        have hn : ¬ c - lo = 0 := by omega
        go_simp
        try omega
      · refine ⟨_, c - lo, by rw [hpl], by omega, Or.inr ⟨b, o + lo, rfl, Nat.lt_of_lt_of_le hb hb'.size, fun q x hq => ?_⟩⟩
        rw [List.getElem?_drop] at hq
        rw [Nat.add_assoc]
        exact (hb'.cell (by exact hb)).trans (hcell _ x hq)
    · obtain rfl : lo = c := by omega
      have hll : l.length = lo := by omega
      refine ⟨.slice (some ⟨b, o, none⟩) 0 0, fun w => ?_, fun w' _ => ⟨some ⟨b, o, none⟩, 0, by rw [hpl, hll, Nat.sub_self], by omega, Or.inl (List.eq_nil_of_length_eq_zero (by omega))⟩⟩
      rw [hll]
      go_simp
/-- An append whose run is known, as one step of a region that draws. -/
theorem step_append_run {P : Program} {ops : Array Oper} {o : Oper} {a : Act} {w : World} {K : Act → World → Prop} {Q : Exit → Act → World → Prop} {E : Prop}
    (hg : o.guard = none) (s x : Operand) (t tn : TypeId) (hop : o.op = Op.call { callee := Callee.builtin Builtin.append, args := #[s, x], argTypes := #[t, tn] })
    (vs vx : Value) (hs : a.eval s = vs) (hx : a.eval x = vx) (v' : Value) (w' : World) (hr : ∀ ty, (Builtin.append_ #[t, tn] ty #[vs, vx]).run P w = .ok v' w') (hK : K (a.put o.dst v') w') :
    if Region.wanted o (yielded ops a.tmps) = true then Oper.wp P o a w K Q else E := by
  have hw : Region.wanted o (yielded ops a.tmps) = true := by simp [Region.wanted, hg]
  rw [if_pos hw]
  have hrun := hr o.type
  unfold Oper.wp
  simp [execOp, hop, resolve, invoke, builtin, hs, hx, hrun, Result.andThen]
  exact hK

end Go.Proofs.YtldllbmbcnipoaaDoor.Cm
