/-
  HOW THE STATEMENTS' ARGUMENTS READ: a slice of strings, opened.
-/
import Derived.Test.YtpakjdgddomdjaaDoorTkBase
import Derived.SliceStrings
import Derived.ProofKit
import Derived.OpenShut
namespace Go.Proofs.YtpakjdgddomdjaaDoor.Ht
open Go.ChangeShapes Go.WideShapes Go.ChangeAt Go.RowKit
open Go.Proofs.YtpakjdgddomdjaaDoor.Tk (Rd S_of)
set_option linter.unusedVariables false

theorem cellsS : Tryd.prog.cellsOf 9 = 1 := by kernel_rfl
theorem rd_of {H : Type} {enc : TypeId × Value → H} {W : World} {a : Option Addr} {len cap : Nat} {d : DataW H} {ps : List MemPlace}
    (h : DataW.Trod enc Tryd.prog W 0 (fun _ => true) true 32 (.slice a len cap) d ps) (hlt : ∀ x ∈ ps, x.block < W.heap.size) :
    ∃ xs : List (List UInt8), Rd W (.slice a len cap) xs ∧ xs.length ≤ 9223372036854775807 := by
  obtain ⟨fuel, hf⟩ := h
  rcases open_strings Tryd.underlying32 Tryd.underlying9 cellsS hf with ⟨hcs, hx⟩ | ⟨a', len', cap', ss, hcs, _, hl, hm, hz, hx, hcell, hws⟩
  · simp [Value.cells] at hcs
    obtain ⟨rfl, rfl, rfl⟩ := hcs
    exact ⟨[], ⟨none, 0, rfl, Nat.le_refl _, Or.inl rfl⟩, Nat.zero_le _⟩
  · simp [Value.cells] at hcs
    obtain ⟨rfl, rfl, rfl⟩ := hcs
    simp only [Prod.mk.injEq] at hx
    obtain ⟨rfl, rfl⟩ := hx
    simp only [if_true] at hz
    have hlen : ((ss.take len).map (·.data.toList)).length = len := by rw [List.length_map, List.length_take]; omega
    have hm' : cap ≤ 9223372036854775807 := by unfold maxLen at hm; omega
    refine ⟨(ss.take len).map (·.data.toList), ⟨some a', cap, by rw [hlen], by omega, ?_⟩, by omega⟩
    by_cases hl0 : len = 0
    · left
      subst hl0
      rfl
    · right
      obtain ⟨b, off, spot⟩ := a'
      have hspot : spot = none := by simpa [Addr.add] using World.cell?_spot (hcell 0 (by omega))
      subst hspot
      have hbW : b < W.heap.size := hlt (.cell b off) (MemPlace.mem_row.2 ⟨0, by omega, by simp⟩)
      refine ⟨b, off, rfl, hbW, fun j x hj => ?_⟩
      rw [List.getElem?_map] at hj
      have hjl : j < len := by
        have := (List.getElem?_eq_some_iff.1 (show ((ss.take len).map (·.data.toList))[j]? = some x by rw [List.getElem?_map]; exact hj)).1
        omega
      have hjs : j < ss.length := by omega
      rw [List.getElem?_take_of_lt hjl, List.getElem?_eq_getElem hjs] at hj
      simp only [Option.map_some, Option.some.injEq] at hj
      have hc := hcell j hjs
      rw [List.getD_eq_getElem?_getD, List.getElem?_eq_getElem hjs] at hc
      rw [← hj, S_of, ← add_plain]
      exact hc

end Go.Proofs.YtpakjdgddomdjaaDoor.Ht
