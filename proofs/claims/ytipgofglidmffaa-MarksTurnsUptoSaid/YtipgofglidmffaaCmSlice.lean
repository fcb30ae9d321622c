/-
  A SLICE OF A SLICE of numbers, 's[lo:hi]': its run, and how it reads. No function of the program is named.
-/
import Derived.Test.YtipgofglidmffaaCmInt
import Derived.Deep.RegionLaw
namespace Go.Proofs.Ytipgofglidmffaa.Cm
open Go.RowKit
set_option linter.unusedVariables false

/-- 's[lo:hi]': its run, and how it reads. -/
theorem slice_run {w0 : World} {ao : Option Addr} {c : Nat} {l : List Int} (h : Rz w0 (.slice ao l.length c) l) (lo hi : Nat) (h1 : lo ≤ hi) (h2 : hi ≤ l.length) (hl : l.length ≤ 1000000) :
    ∃ v, (∀ w, (Instr.slice 56 (.slice ao l.length c) (some (.int .i64 (lo : Int))) (some (.int .i64 (hi : Int))) none).run Try.prog w = .ok v w) ∧ ∀ w', Below w0.heap.size w0 w' → Rz w' v ((l.drop lo).take (hi - lo)) := by
  have u := Try.underlying56
  have hz : Try.prog.cellsOf 3 = 1 := by kernel_rfl
  obtain ⟨ao', c', hv, hc, hx⟩ := h
  simp only [Value.slice.injEq, true_and] at hv
  obtain ⟨rfl, rfl⟩ := hv
  have hpl : ((l.drop lo).take (hi - lo)).length = hi - lo := by rw [List.length_take, List.length_drop]; omega
  by_cases h0 : l = []
  · have hz : l.length = 0 := by rw [h0]; rfl
    obtain rfl : hi = 0 := by omega
    obtain rfl : lo = 0 := by omega
    rw [hz]
    refine ⟨.slice ao 0 c, fun w => ?_, fun w' _ => ⟨_, _, by rw [hpl], by omega, Or.inl (List.eq_nil_of_length_eq_zero (by omega))⟩⟩
    cases ao <;> go_simp
  · rcases hx with hx | ⟨b, o, rfl, hb, hcell⟩
    · exact absurd hx h0
    by_cases hic : lo < c
    · refine ⟨.slice (some ⟨b, o + lo, none⟩) (hi - lo) (c - lo), fun w => ?_, fun w' hb' => ?_⟩
      · have hicn : ¬ c ≤ lo := by omega
        have hn : ¬ c - lo = 0 := by omega
        go_simp
        rw [if_pos (show hi ≤ c by omega), if_neg (show ¬ c = lo by omega)]
      · refine ⟨_, c - lo, by rw [hpl], by omega, Or.inr ⟨b, o + lo, rfl, Nat.lt_of_lt_of_le hb hb'.size, fun q x hq => ?_⟩⟩
        have hql : q < hi - lo := by
          have := (List.getElem?_eq_some_iff.1 hq).1
          omega
        rw [List.getElem?_take_of_lt hql, List.getElem?_drop] at hq
        rw [Nat.add_assoc]
        exact (hb'.cell (by exact hb)).trans (hcell _ x hq)
    · obtain rfl : lo = c := by omega
      obtain rfl : hi = lo := by omega
      refine ⟨.slice (some ⟨b, o, none⟩) 0 0, fun w => ?_, fun w' _ => ⟨some ⟨b, o, none⟩, 0, by rw [hpl, Nat.sub_self], by omega, Or.inl (List.eq_nil_of_length_eq_zero (by omega))⟩⟩
      go_simp

/-- 's[:hi]'. -/
theorem slice_to {w0 : World} {ao : Option Addr} {c : Nat} {l : List Int} (h : Rz w0 (.slice ao l.length c) l) (hi : Nat) (h2 : hi ≤ l.length) (hl : l.length ≤ 1000000) :
    ∃ v, (∀ w, (Instr.slice 56 (.slice ao l.length c) none (some (.int .i64 (hi : Int))) none).run Try.prog w = .ok v w) ∧ ∀ w', Below w0.heap.size w0 w' → Rz w' v (l.take hi) := by
  have u := Try.underlying56
  have hz : Try.prog.cellsOf 3 = 1 := by kernel_rfl
  obtain ⟨ao', c', hv, hc, hx⟩ := h
  simp only [Value.slice.injEq, true_and] at hv
  obtain ⟨rfl, rfl⟩ := hv
  have hpl : (l.take hi).length = hi := by rw [List.length_take]; omega
  by_cases h0 : l = []
  · have hz : l.length = 0 := by rw [h0]; rfl
    obtain rfl : hi = 0 := by omega
    rw [hz]
    refine ⟨.slice ao 0 c, fun w => ?_, fun w' _ => ⟨_, _, by rw [hpl], by omega, Or.inl rfl⟩⟩
    cases ao <;> go_simp
  · rcases hx with hx | ⟨b, o, rfl, hb, hcell⟩
    · exact absurd hx h0
    refine ⟨.slice (some ⟨b, o, none⟩) hi c, fun w => ?_, fun w' hb' => ?_⟩
    · have hhc : hi ≤ c := by omega
      go_simp
    · refine ⟨_, c, by rw [hpl], by omega, Or.inr ⟨b, o, rfl, Nat.lt_of_lt_of_le hb hb'.size, fun q x hq => ?_⟩⟩
      have hql : q < hi := by
        have := (List.getElem?_eq_some_iff.1 hq).1
        omega
      rw [List.getElem?_take_of_lt hql] at hq
      exact (hb'.cell (by exact hb)).trans (hcell _ x hq)
/-- 's[lo:]'. -/
theorem slice_from {w0 : World} {ao : Option Addr} {c : Nat} {l : List Int} (h : Rz w0 (.slice ao l.length c) l) (lo : Nat) (h2 : lo ≤ l.length) (hl : l.length ≤ 1000000) :
    ∃ v, (∀ w, (Instr.slice 56 (.slice ao l.length c) (some (.int .i64 (lo : Int))) none none).run Try.prog w = .ok v w) ∧ ∀ w', Below w0.heap.size w0 w' → Rz w' v (l.drop lo) := by
  have u := Try.underlying56
  have hz : Try.prog.cellsOf 3 = 1 := by kernel_rfl
  obtain ⟨ao', c', hv, hc, hx⟩ := h
  simp only [Value.slice.injEq, true_and] at hv
  obtain ⟨rfl, rfl⟩ := hv
  have hpl : (l.drop lo).length = l.length - lo := List.length_drop
  by_cases h0 : l = []
  · have hz : l.length = 0 := by rw [h0]; rfl
    obtain rfl : lo = 0 := by omega
    rw [hz]
    refine ⟨.slice ao 0 c, fun w => ?_, fun w' _ => ⟨_, _, by rw [hpl, hz], by omega, Or.inl (List.eq_nil_of_length_eq_zero (by omega))⟩⟩
    cases ao <;> go_simp
  · rcases hx with hx | ⟨b, o, rfl, hb, hcell⟩
    · exact absurd hx h0
    by_cases hic : lo < c
    · refine ⟨.slice (some ⟨b, o + lo, none⟩) (l.length - lo) (c - lo), fun w => ?_, fun w' hb' => ?_⟩
      · have hicn : ¬ c ≤ lo := by omega
        have hn : ¬ c - lo = 0 := by omega
        go_simp
        try omega
      · refine ⟨_, c - lo, by rw [hpl], by omega, Or.inr ⟨b, o + lo, rfl, Nat.lt_of_lt_of_le hb hb'.size, fun q x hq => ?_⟩⟩
        rw [List.getElem?_drop] at hq
        rw [Nat.add_assoc]
        exact (hb'.cell (by exact hb)).trans (hcell _ x hq)
    · obtain rfl : lo = c := by omega
      have hll : l.length = lo := by omega
      refine ⟨.slice (some ⟨b, o, none⟩) 0 0, fun w => ?_, fun w' _ => ⟨some ⟨b, o, none⟩, 0, by rw [hpl, hll, Nat.sub_self], by omega, Or.inl (List.eq_nil_of_length_eq_zero (by omega))⟩⟩
      rw [hll]
      go_simp
/-- An append whose run is known, as one step of a region that draws. -/
theorem step_append_run {P : Program} {ops : Array Oper} {o : Oper} {a : Act} {w : World} {K : Act → World → Prop} {Q : Exit → Act → World → Prop} {E : Prop}
    (hg : o.guard = none) (s x : Operand) (t tn : TypeId) (hop : o.op = Op.call { callee := Callee.builtin Builtin.append, args := #[s, x], argTypes := #[t, tn] })
    (vs vx : Value) (hs : a.eval s = vs) (hx : a.eval x = vx) (v' : Value) (w' : World) (hr : ∀ ty, (Builtin.append_ #[t, tn] ty #[vs, vx]).run P w = .ok v' w') (hK : K (a.put o.dst v') w') :
    if Region.wanted o (yielded ops a.tmps) = true then Oper.wp P o a w K Q else E := by
  have hw : Region.wanted o (yielded ops a.tmps) = true := by simp [Region.wanted, hg]
  rw [if_pos hw]
  have hrun := hr o.type
  unfold Oper.wp
  simp [execOp, hop, resolve, invoke, builtin, hs, hx, hrun, Result.andThen]
  exact hK

end Go.Proofs.Ytipgofglidmffaa.Cm
