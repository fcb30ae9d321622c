/-
  HOW THE STATEMENTS' ARGUMENTS READ: slices of strings and of bytes, opened.
-/
import Derived.Test.YtjhmjdacjaefaaaTkMore
import Derived.SliceStrings
import Derived.ProofKit
import Derived.OpenShut
namespace Go.Proofs.Ytjhmjdacjaefaaa.Tk
open Go.ChangeShapes Go.WideShapes Go.ChangeAt Go.RowKit
set_option linter.unusedVariables false

theorem laidOut : laidOutB Try.prog = true := by kernel_rfl
theorem own_len {w : World} {B e z n : Nat} {v : Value} {xs : List Value} (h : w.ownsRow B e z v n xs) : ∃ ao cap, v = .slice ao n cap := by
  rcases h.2 with ⟨rfl, rfl⟩ | ⟨g, cap, _, rfl, _⟩
  · exact ⟨_, _, rfl⟩
  · exact ⟨_, _, rfl⟩
theorem cellsS : Try.prog.cellsOf 9 = 1 := by kernel_rfl
theorem u8_of {a : Int} (h : (Lit.int .u8 a).wf = true) : ∃ c : UInt8, a = (c.toNat : Int) := by
  have h' : 0 ≤ a ∧ a ≤ 255 := by simpa [Lit.wf, IntKind.min, IntKind.max, IntKind.signed, IntKind.bits] using h
  exact ⟨UInt8.ofNat a.toNat, by rw [UInt8.toNat_ofNat']; omega⟩

theorem rd_of {H : Type} {enc : TypeId × Value → H} {W : World} {a : Option Addr} {len cap : Nat} {d : DataW H} {ps : List MemPlace}
    (h : DataW.Trod enc Try.prog W 0 (fun _ => true) true 24 (.slice a len cap) d ps) (hlt : ∀ x ∈ ps, x.block < W.heap.size) :
    ∃ xs : List (List UInt8), Rd W (.slice a len cap) xs ∧ xs.length ≤ 9223372036854775807 := by
  obtain ⟨fuel, hf⟩ := h
  rcases open_strings Try.underlying24 Try.underlying9 cellsS hf with ⟨hcs, hx⟩ | ⟨a', len', cap', ss, hcs, _, hl, hm, hz, hx, hcell, hws⟩
  · simp [Value.cells] at hcs
    obtain ⟨rfl, rfl, rfl⟩ := hcs
    exact ⟨[], ⟨none, 0, rfl, Nat.le_refl _, Or.inl rfl⟩, Nat.zero_le _⟩
  · simp [Value.cells] at hcs
    obtain ⟨rfl, rfl, rfl⟩ := hcs
    simp only [Prod.mk.injEq] at hx
    obtain ⟨rfl, rfl⟩ := hx
    simp only [if_true] at hz
    have hlen : ((ss.take len).map (·.data.toList)).length = len := by rw [List.length_map, List.length_take]; omega
    have hm' : cap ≤ 9223372036854775807 := by unfold maxLen at hm; omega
    refine ⟨(ss.take len).map (·.data.toList), ⟨some a', cap, by rw [hlen], by omega, ?_⟩, by omega⟩
    by_cases hl0 : len = 0
    · left
      subst hl0
      rfl
    · right
      obtain ⟨b, off, spot⟩ := a'
      have hspot : spot = none := by simpa [Addr.add] using World.cell?_spot (hcell 0 (by omega))
      subst hspot
      have hbW : b < W.heap.size := hlt (.cell b off) (MemPlace.mem_row.2 ⟨0, by omega, by simp⟩)
      refine ⟨b, off, rfl, hbW, fun j x hj => ?_⟩
      rw [List.getElem?_map] at hj
      have hjl : j < len := by
        have := (List.getElem?_eq_some_iff.1 (show ((ss.take len).map (·.data.toList))[j]? = some x by rw [List.getElem?_map]; exact hj)).1
        omega
      have hjs : j < ss.length := by omega
      rw [List.getElem?_take_of_lt hjl, List.getElem?_eq_getElem hjs] at hj
      simp only [Option.map_some, Option.some.injEq] at hj
      have hc := hcell j hjs
      rw [List.getD_eq_getElem?_getD, List.getElem?_eq_getElem hjs] at hc
      rw [← hj, S_of, ← add_plain]
      exact hc

end Go.Proofs.Ytjhmjdacjaefaaa.Tk
