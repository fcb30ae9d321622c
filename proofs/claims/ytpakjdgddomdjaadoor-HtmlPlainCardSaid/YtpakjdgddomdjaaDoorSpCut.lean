/-
  A ROW OF SPANS that a statement makes: append as a step of a region that draws; 's[:hi]', 's[lo:]'.
-/
import Derived.Test.YtpakjdgddomdjaaDoorSpRow
import Derived.Test.YtpakjdgddomdjaaDoorCmSlice
import Derived.Test.YtpakjdgddomdjaaDoorCmKeep
namespace Go.Proofs.YtpakjdgddomdjaaDoor.Sp
open Go.RowKit
open Go.Proofs.YtpakjdgddomdjaaDoor.Tk (S S_of S_list S_size S_toList S_app ret_int)
open Go.Proofs.YtpakjdgddomdjaaDoor.Cm (calls_at Rk Rk.of_own flat_get Keep own_keep cell_at alloc_new alloc_at lt_of_at step_append_run)
set_option linter.unusedVariables false

/-- 's[:hi]'. -/
theorem slice_toT {w0 : World} {ao : Option Addr} {c : Nat} {l : List (Sp × Value)} (h : Rk 3 encT w0 (.slice ao l.length c) l) (hi : Nat) (h2 : hi ≤ l.length) (hl : l.length ≤ 1000000) :
    ∃ v, (∀ w, (Instr.slice 23 (.slice ao l.length c) none (some (.int .i64 (hi : Int))) none).run Tryd.prog w = .ok v w) ∧ ∀ w', Below w0.heap.size w0 w' → Rk 3 encT w' v (l.take hi) := by
  have u := Tryd.underlying23
  have hz : Tryd.prog.cellsOf 37 = 3 := by kernel_rfl
  obtain ⟨ao', c', hv, hc, hx⟩ := h
  simp only [Value.slice.injEq, true_and] at hv
  obtain ⟨rfl, rfl⟩ := hv
  have hpl : (l.take hi).length = hi := by rw [List.length_take]; omega
  by_cases h0 : l = []
  · have hz : l.length = 0 := by rw [h0]; rfl
    obtain rfl : hi = 0 := by omega
    rw [hz]
    refine ⟨.slice ao 0 c, fun w => ?_, fun w' _ => ⟨_, _, by rw [hpl], by omega, Or.inl rfl⟩⟩
    cases ao <;> go_simp
  · rcases hx with hx | ⟨b, o, rfl, hb, hcell⟩
    · exact absurd hx h0
    refine ⟨.slice (some ⟨b, o, none⟩) hi c, fun w => ?_, fun w' hb' => ?_⟩
    · have hhc : hi ≤ c := by omega
      go_simp
    · refine ⟨_, c, by rw [hpl], by omega, Or.inr ⟨b, o, rfl, Nat.lt_of_lt_of_le hb hb'.size, fun q x hq r u hr => ?_⟩⟩
      have hql : q < hi := by
        have := (List.getElem?_eq_some_iff.1 hq).1
        omega
      rw [List.getElem?_take_of_lt hql] at hq
      exact (hb'.cell (by exact hb)).trans (hcell _ x hq r u hr)
/-- 's[lo:]'. -/
theorem slice_fromT {w0 : World} {ao : Option Addr} {c : Nat} {l : List (Sp × Value)} (h : Rk 3 encT w0 (.slice ao l.length c) l) (lo : Nat) (h2 : lo ≤ l.length) (hl : l.length ≤ 1000000) :
    ∃ v, (∀ w, (Instr.slice 23 (.slice ao l.length c) (some (.int .i64 (lo : Int))) none none).run Tryd.prog w = .ok v w) ∧ ∀ w', Below w0.heap.size w0 w' → Rk 3 encT w' v (l.drop lo) := by
  have u := Tryd.underlying23
  have hz : Tryd.prog.cellsOf 37 = 3 := by kernel_rfl
  obtain ⟨ao', c', hv, hc, hx⟩ := h
  simp only [Value.slice.injEq, true_and] at hv
  obtain ⟨rfl, rfl⟩ := hv
  have hpl : (l.drop lo).length = l.length - lo := List.length_drop
  by_cases h0 : l = []
  · have hz : l.length = 0 := by rw [h0]; rfl
    obtain rfl : lo = 0 := by omega
    rw [hz]
    refine ⟨.slice ao 0 c, fun w => ?_, fun w' _ => ⟨_, _, by rw [hpl, hz], by omega, Or.inl (List.eq_nil_of_length_eq_zero (by omega))⟩⟩
    cases ao <;> go_simp
  · rcases hx with hx | ⟨b, o, rfl, hb, hcell⟩
    · exact absurd hx h0
    by_cases hic : lo < c
    · refine ⟨.slice (some ⟨b, o + lo * 3, none⟩) (l.length - lo) (c - lo), fun w => ?_, fun w' hb' => ?_⟩
      · have hicn : ¬ c ≤ lo := by omega
        have hn : ¬ c - lo = 0 := by omega
        go_simp
        try omega
      · refine ⟨_, c - lo, by rw [hpl], by omega, Or.inr ⟨b, o + lo * 3, rfl, Nat.lt_of_lt_of_le hb hb'.size, fun q x hq r u hr => ?_⟩⟩
        rw [List.getElem?_drop] at hq
        rw [show o + lo * 3 + q * 3 + r = o + (lo + q) * 3 + r by rw [Nat.add_mul]; omega]
        exact (hb'.cell (by exact hb)).trans (hcell _ x hq r u hr)
    · obtain rfl : lo = c := by omega
      have hll : l.length = lo := by omega
      refine ⟨.slice (some ⟨b, o, none⟩) 0 0, fun w => ?_, fun w' hb' => ⟨some ⟨b, o, none⟩, 0, by rw [hpl, hll, Nat.sub_self], by omega, Or.inl (List.eq_nil_of_length_eq_zero (by omega))⟩⟩
      rw [hll]
      go_simp


/-- A row of the statement's own, above the world w0. -/
structure Acc (w0 w : World) (v : Value) (ps : List (Sp × Value)) : Prop where
  bel : Below w0.heap.size w0 w
  own : w.ownsRow w0.heap.size 37 3 v ps.length (ps.flatMap encT)
theorem bel_a {w0 w : World} (h : Below w0.heap.size w0 w) (o : Obj) : Below w0.heap.size w0 (w.alloc o) := h.alloc h.size o
theorem bel_d {w0 w : World} (h : Below w0.heap.size w0 w) : Below w0.heap.size w0 w.drew := h.drew
theorem Acc.go {w0 w w' : World} {v : Value} {ps : List (Sp × Value)} (h : Acc w0 w v ps) (hb : Below w.heap.size w w') : Acc w0 w' v ps :=
  ⟨h.bel.trans (hb.mono h.bel.size), own_keep h.own (Keep.of_below (S := fun _ => False) hb) (fun _ _ h => h)⟩
theorem Acc.alloc {w0 w : World} {v : Value} {ps : List (Sp × Value)} (h : Acc w0 w v ps) (o : Obj) : Acc w0 (w.alloc o) v ps := h.go ((Below.refl _ _).alloc (Nat.le_refl _) _)
theorem Acc.drew {w0 w : World} {v : Value} {ps : List (Sp × Value)} (h : Acc w0 w v ps) : Acc w0 w.drew v ps := h.go (Below.refl _ _).drew
theorem Acc.lit {w0 w : World} (hb : Below w0.heap.size w0 w) : Acc w0 (w.alloc (.cells #[] 37)) (.slice (some ⟨w.heap.size, 0, none⟩) 0 0) [] :=
  ⟨bel_a hb _, World.ownsRow_lit w #[] 0 hb.size (Nat.zero_le _) rfl⟩
theorem Acc.lit2 {w0 w : World} (hb : Below w0.heap.size w0 w) (o : Obj) : Acc w0 ((w.alloc o).alloc (.cells #[] 37)) (.slice (some ⟨w.heap.size + 1, 0, none⟩) 0 0) [] := by
  have h := Acc.lit (bel_a hb o)
  rw [show (w.alloc o).heap.size = w.heap.size + 1 by simp] at h
  exact h
/-- A slice of one span, as a literal lays it. -/
theorem one_rk {w : World} {g : Nat} {a b c : Value} {t : TypeId} {fr : Nat × Nat} {p : Sp × Value} (h : w.heap[g]? = some (.cells #[a, b, c] t fr)) (he : encT p = [a, b, c]) : Rk 3 encT w (.slice (some ⟨g, 0, none⟩) 1 1) [p] := by
  refine ⟨_, 1, rfl, Nat.le_refl _, Or.inr ⟨g, 0, rfl, lt_of_at h, fun j x hj q u hq => ?_⟩⟩
  match j, hj with
  | 0, hj =>
    simp at hj
    subst hj
    rw [Nat.zero_mul, Nat.zero_add, cell_at h]
    rw [he] at hq
    simpa using hq
theorem new_aT {w : World} (o o' : Obj) : ((w.alloc o).alloc o').heap[w.heap.size]? = some o := alloc_at (alloc_new w o) o'
theorem new_bT {w : World} (o o' : Obj) : ((w.alloc o).alloc o').heap[w.heap.size + 1]? = some o' := by
  have h := alloc_new (w.alloc o) o'
  rw [show (w.alloc o).heap.size = w.heap.size + 1 by simp] at h
  exact h
theorem step_sp {P : Program} (hP : P = Tryd.prog) {ops : Array Oper} {o : Oper} {a : Act} {w : World} {K : Act → World → Prop} {Q : Exit → Act → World → Prop} {E : Prop} {w0 : World} {vs vx : Value} {os ys : List (Sp × Value)} (hg : o.guard = none) (s x : Operand)
    (hop : o.op = Op.call { callee := Callee.builtin Builtin.append, args := #[s, x], argTypes := #[23, 23] }) (hs : a.eval s = vs) (hx : a.eval x = vx)
    (h : Acc w0 w vs os) (hu : Rk 3 encT w vx ys ∧ ∀ p ∈ ys, Tr w p.2 p.1.kids) (hl : os.length + ys.length ≤ 1000000)
    (hK : ∀ v' w', Acc w0 w' v' (os ++ ys) → (∀ k, k < w.heap.size → vs.ownBlock ≠ some k → w'.heap[k]? = w.heap[k]?) → K (a.put o.dst v') w') :
    if Region.wanted o (yielded ops a.tmps) = true then Oper.wp P o a w K Q else E := by
  subst hP
  obtain ⟨v', w', hr, hf, hk⟩ := run_append_sp h.own hu.1 hu.2 h.bel.size hl
  exact step_append_run hg s x _ _ hop _ _ hs hx v' w' hr (hK v' w' ⟨h.bel.grown hk h.bel.size (fun k hk => (h.own.lt k hk).1), hf⟩ (fun k hk1 hs1 => hk.block k hk1 (fun e => hs1 e.symm)))

end Go.Proofs.YtpakjdgddomdjaaDoor.Sp
