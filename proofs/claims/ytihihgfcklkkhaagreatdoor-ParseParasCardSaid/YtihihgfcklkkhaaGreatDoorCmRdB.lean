import Derived.Test.YtihihgfcklkkhaaGreatDoorPkAQ
namespace Go.Proofs.YtihihgfcklkkhaaGreatDoor.Cm
open Go.ChangeShapes Go.WideShapes Go.ChangeAt Go.RowKit
set_option linter.unusedVariables false
def RdB (w : World) (v : Value) (ks : List Int) : Prop :=
  ∃ ao cap, v = .slice ao ks.length cap ∧ ks.length ≤ 9223372036854775807 ∧ (∀ x ∈ ks, 0 ≤ x ∧ x ≤ 255) ∧ (ks = [] ∨ ∃ b o, ao = some ⟨b, o, none⟩ ∧ b < w.heap.size ∧ ∀ j x, ks[j]? = some x → w.cell? ⟨b, o + j, none⟩ = some (.int .u8 x))
theorem cellsB : Tryz.prog.cellsOf 5 = 1 := by kernel_rfl
theorem rdb_of {H : Type} {enc : TypeId × Value → H} {W : World} {a : Option Addr} {len cap : Nat} {d : DataW H} {ps : List MemPlace}
    (h : DataW.Trod enc Tryz.prog W 0 (fun _ => true) true 45 (.slice a len cap) d ps) (hlt : ∀ x ∈ ps, x.block < W.heap.size) :
    ∃ ks : List Int, RdB W (.slice a len cap) ks := by
  obtain ⟨fuel, hf⟩ := h
  rcases open_ints Tryz.underlying45 Tryz.underlying5 cellsB hf with ⟨hcs, hx⟩ | ⟨a', len', cap', ss, hcs, _, hl, hm, hz, hx, hcell, hws⟩
  · simp [Value.cells] at hcs
    obtain ⟨rfl, rfl, rfl⟩ := hcs
    exact ⟨[], ⟨none, 0, rfl, Nat.zero_le _, by simp, Or.inl rfl⟩⟩
  · simp [Value.cells] at hcs
    obtain ⟨rfl, rfl, rfl⟩ := hcs
    simp only [Prod.mk.injEq] at hx
    obtain ⟨rfl, rfl⟩ := hx
    simp only [if_true] at hz
    have hlen : (ss.take len).length = len := by rw [List.length_take]; omega
    have hm' : cap ≤ 9223372036854775807 := by unfold maxLen at hm; omega
    refine ⟨ss.take len, ⟨some a', cap, by rw [hlen], by omega, fun x hx => ?_, ?_⟩⟩
    · simpa [Lit.wf, IntKind.min, IntKind.max, IntKind.signed, IntKind.bits] using hws x (List.mem_of_mem_take hx)
    by_cases hl0 : len = 0
    · left
      subst hl0
      rfl
    · right
      obtain ⟨b, off, spot⟩ := a'
      have hspot : spot = none := by simpa [Addr.add] using World.cell?_spot (hcell 0 (by omega))
      subst hspot
      have hbW : b < W.heap.size := hlt (.cell b off) (MemPlace.mem_row.2 ⟨0, by omega, by simp⟩)
      refine ⟨b, off, rfl, hbW, fun j x hj => ?_⟩
      have hjl : j < len := by have := (List.getElem?_eq_some_iff.1 hj).1; omega
      have hjs : j < ss.length := by omega
      rw [List.getElem?_take_of_lt hjl, List.getElem?_eq_getElem hjs] at hj
      have hc := hcell j hjs
      simp only [Option.some.injEq] at hj
      rw [List.getD_eq_getElem?_getD, List.getElem?_eq_getElem hjs] at hc
      rw [← add_plain, ← hj]
      exact hc
end Go.Proofs.YtihihgfcklkkhaaGreatDoor.Cm
