/-
  STABLE PLACES in a row: contracts of weave's stableSpots and runFrom.
-/
import Derived.Test.YtipgofglidmffaaWvSmall
namespace Go.Proofs.Ytipgofglidmffaa.Wv
open Go.RowKit Go.Proofs.Ytipgofglidmffaa.Cm Go.Proofs.Ytipgofglidmffaa.Lc
set_option linter.unusedVariables false

/-- 's[lo:]'. -/
theorem slice_fromP {w0 : World} {ao : Option Addr} {c : Nat} {l : List (Nat × Nat)} (h : Rk 2 encP w0 (.slice ao l.length c) l) (lo : Nat) (h2 : lo ≤ l.length) (hl : l.length ≤ 1000000) :
    ∃ v, (∀ w, (Instr.slice 73 (.slice ao l.length c) (some (.int .i64 (lo : Int))) none none).run Try.prog w = .ok v w) ∧ ∀ w', Below w0.heap.size w0 w' → Rk 2 encP w' v (l.drop lo) := by
  have u := Try.underlying73
  have hz : Try.prog.cellsOf 90 = 2 := by kernel_rfl
  obtain ⟨ao', c', hv, hc, hx⟩ := h
  simp only [Value.slice.injEq, true_and] at hv
  obtain ⟨rfl, rfl⟩ := hv
  have hpl : (l.drop lo).length = l.length - lo := List.length_drop
  by_cases h0 : l = []
  · have hz : l.length = 0 := by rw [h0]; rfl
    obtain rfl : lo = 0 := by omega
    rw [hz]
    refine ⟨.slice ao 0 c, fun w => ?_, fun w' _ => ⟨_, _, by rw [hpl, hz], by omega, Or.inl (List.eq_nil_of_length_eq_zero (by omega))⟩⟩
    cases ao <;> go_simp
  · rcases hx with hx | ⟨b, o, rfl, hb, hcell⟩
    · exact absurd hx h0
    by_cases hic : lo < c
    · refine ⟨.slice (some ⟨b, o + lo * 2, none⟩) (l.length - lo) (c - lo), fun w => ?_, fun w' hb' => ?_⟩
      · have hicn : ¬ c ≤ lo := by omega
        have hn : ¬ c - lo = 0 := by omega
        go_simp
        try omega
      · refine ⟨_, c - lo, by rw [hpl], by omega, Or.inr ⟨b, o + lo * 2, rfl, Nat.lt_of_lt_of_le hb hb'.size, fun q x hq r u hr => ?_⟩⟩
        rw [List.getElem?_drop] at hq
        rw [show o + lo * 2 + q * 2 + r = o + (lo + q) * 2 + r by rw [Nat.add_mul]; omega]
        exact (hb'.cell (by exact hb)).trans (hcell _ x hq r u hr)
    · obtain rfl : lo = c := by omega
      have hll : l.length = lo := by omega
      refine ⟨.slice (some ⟨b, o, none⟩) 0 0, fun w => ?_, fun w' hb' => ⟨some ⟨b, o, none⟩, 0, by rw [hpl, hll, Nat.sub_self], by omega, Or.inl (List.eq_nil_of_length_eq_zero (by omega))⟩⟩
      rw [hll]
      go_simp

/-- 's[lo:]'. -/
theorem slice_fromS {w0 : World} {ao : Option Addr} {c : Nat} {l : List (Spot)} (h : Rk 3 encS w0 (.slice ao l.length c) l) (lo : Nat) (h2 : lo ≤ l.length) (hl : l.length ≤ 1000000) :
    ∃ v, (∀ w, (Instr.slice 71 (.slice ao l.length c) (some (.int .i64 (lo : Int))) none none).run Try.prog w = .ok v w) ∧ ∀ w', Below w0.heap.size w0 w' → Rk 3 encS w' v (l.drop lo) := by
  have u := Try.underlying71
  have hz : Try.prog.cellsOf 76 = 3 := by kernel_rfl
  obtain ⟨ao', c', hv, hc, hx⟩ := h
  simp only [Value.slice.injEq, true_and] at hv
  obtain ⟨rfl, rfl⟩ := hv
  have hpl : (l.drop lo).length = l.length - lo := List.length_drop
  by_cases h0 : l = []
  · have hz : l.length = 0 := by rw [h0]; rfl
    obtain rfl : lo = 0 := by omega
    rw [hz]
    refine ⟨.slice ao 0 c, fun w => ?_, fun w' _ => ⟨_, _, by rw [hpl, hz], by omega, Or.inl (List.eq_nil_of_length_eq_zero (by omega))⟩⟩
    cases ao <;> go_simp
  · rcases hx with hx | ⟨b, o, rfl, hb, hcell⟩
    · exact absurd hx h0
    by_cases hic : lo < c
    · refine ⟨.slice (some ⟨b, o + lo * 3, none⟩) (l.length - lo) (c - lo), fun w => ?_, fun w' hb' => ?_⟩
      · have hicn : ¬ c ≤ lo := by omega
        have hn : ¬ c - lo = 0 := by omega
        go_simp
        try omega
      · refine ⟨_, c - lo, by rw [hpl], by omega, Or.inr ⟨b, o + lo * 3, rfl, Nat.lt_of_lt_of_le hb hb'.size, fun q x hq r u hr => ?_⟩⟩
        rw [List.getElem?_drop] at hq
        rw [show o + lo * 3 + q * 3 + r = o + (lo + q) * 3 + r by rw [Nat.add_mul]; omega]
        exact (hb'.cell (by exact hb)).trans (hcell _ x hq r u hr)
    · obtain rfl : lo = c := by omega
      have hll : l.length = lo := by omega
      refine ⟨.slice (some ⟨b, o, none⟩) 0 0, fun w => ?_, fun w' hb' => ⟨some ⟨b, o, none⟩, 0, by rw [hpl, hll, Nat.sub_self], by omega, Or.inl (List.eq_nil_of_length_eq_zero (by omega))⟩⟩
      rw [hll]
      go_simp

end Go.Proofs.Ytipgofglidmffaa.Wv
