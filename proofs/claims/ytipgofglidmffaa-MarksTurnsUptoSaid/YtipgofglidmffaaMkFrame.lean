/-
  HOW THE STATEMENTS' ARGUMENTS READ: slices of strings and the sides' names, opened.
-/
import Derived.Test.YtipgofglidmffaaMkHelp
import Derived.SliceStrings
import Derived.ProofKit
import Derived.OpenShut
import Derived.SizedLaws
namespace Go.Proofs.Ytipgofglidmffaa.Mk
open Go.ChangeShapes Go.WideShapes Go.ChangeAt Go.RowKit Go.Proofs.Ytipgofglidmffaa.Tk
set_option linter.unusedVariables false

theorem cellsS : Try.prog.cellsOf 9 = 1 := by kernel_rfl
theorem rd_of {H : Type} {enc : TypeId × Value → H} {W : World} {a : Option Addr} {len cap : Nat} {d : DataW H} {ps : List MemPlace}
    (h : DataW.Trod enc Try.prog W 0 (fun _ => true) true 24 (.slice a len cap) d ps) (hlt : ∀ x ∈ ps, x.block < W.heap.size) :
    ∃ xs : List (List UInt8), Rd W (.slice a len cap) xs ∧ xs.length ≤ 9223372036854775807 := by
  obtain ⟨fuel, hf⟩ := h
  rcases open_strings Try.underlying24 Try.underlying9 cellsS hf with ⟨hcs, hx⟩ | ⟨a', len', cap', ss, hcs, _, hl, hm, hz, hx, hcell, hws⟩
  · simp [Value.cells] at hcs
    obtain ⟨rfl, rfl, rfl⟩ := hcs
    exact ⟨[], ⟨none, 0, rfl, Nat.le_refl _, Or.inl rfl⟩, Nat.zero_le _⟩
  · simp [Value.cells] at hcs
    obtain ⟨rfl, rfl, rfl⟩ := hcs
    simp only [Prod.mk.injEq] at hx
    obtain ⟨rfl, rfl⟩ := hx
    simp only [if_true] at hz
    have hlen : ((ss.take len).map (·.data.toList)).length = len := by rw [List.length_map, List.length_take]; omega
    have hm' : cap ≤ 9223372036854775807 := by unfold maxLen at hm; omega
    refine ⟨(ss.take len).map (·.data.toList), ⟨some a', cap, by rw [hlen], by omega, ?_⟩, by omega⟩
    by_cases hl0 : len = 0
    · left
      subst hl0
      rfl
    · right
      obtain ⟨b, off, spot⟩ := a'
      have hspot : spot = none := by simpa [Addr.add] using World.cell?_spot (hcell 0 (by omega))
      subst hspot
      have hbW : b < W.heap.size := hlt (.cell b off) (MemPlace.mem_row.2 ⟨0, by omega, by simp⟩)
      refine ⟨b, off, rfl, hbW, fun j x hj => ?_⟩
      rw [List.getElem?_map] at hj
      have hjl : j < len := by
        have := (List.getElem?_eq_some_iff.1 (show ((ss.take len).map (·.data.toList))[j]? = some x by rw [List.getElem?_map]; exact hj)).1
        omega
      have hjs : j < ss.length := by omega
      rw [List.getElem?_take_of_lt hjl, List.getElem?_eq_getElem hjs] at hj
      simp only [Option.map_some, Option.some.injEq] at hj
      have hc := hcell j hjs
      rw [List.getD_eq_getElem?_getD, List.getElem?_eq_getElem hjs] at hc
      rw [← hj, S_of, ← add_plain]
      exact hc


theorem cellsSides : Try.prog.cellsOf 23 = 3 := by kernel_rfl
set_option maxRecDepth 100000 in
theorem open_sides {H : Type} {enc : TypeId × Value → H} {W : World} {base b0 : Nat} {sp : Nat → Bool} {held : Bool} {r : Reach} {v : Value} {d : DataW H} {ps : List MemPlace}
    (hval : Value.okWide Try.prog W r b0 23 v) (hd : DataW.Trod enc Try.prog W base sp held 23 v d ps) :
    ∃ a b c : ByteArray, v = .agg #[.string a, .string b, .string c] ∧ d = .agg [.lit (.string a.data.toList), .lit (.string b.data.toList), .lit (.string c.data.toList)] := by
  obtain ⟨cs, rfl, hcs⟩ := okWide_struct Try.underlying23 hval
  obtain ⟨fuel, hf⟩ := hd
  obtain ⟨xs, n, _, hx, _, hlen, hfl⟩ := DataW.trod_struct Try.underlying23 hf
  rw [cellsSides] at hcs
  obtain ⟨c0, c1, c2, rfl⟩ : ∃ c0 c1 c2, cs = #[c0, c1, c2] := by
    match cs, hcs with
    | ⟨[c0, c1, c2]⟩, _ => exact ⟨c0, c1, c2, rfl⟩
  match xs, hlen with
  | [y0, y1, y2], _ =>
    have h0 := hfl 0 _ rfl
    have h1 := hfl 1 _ rfl
    have h2 := hfl 2 _ rfl
    simp [cellsS, Value.cells] at h0 h1 h2
    obtain ⟨s0, g0, rfl, _⟩ := DataW.trod_string Try.underlying9 h0
    obtain ⟨s1, g1, rfl, _⟩ := DataW.trod_string Try.underlying9 h1
    obtain ⟨s2, g2, rfl, _⟩ := DataW.trod_string Try.underlying9 h2
    simp at g0 g1 g2
    subst g0 g1 g2
    simp only [Prod.mk.injEq] at hx
    exact ⟨s0, s1, s2, rfl, hx.1⟩
set_option maxRecDepth 100000 in
theorem sized_sides {H : Type} {ts : List TypeId} {ds : List (DataW H)} (h : (DataW.weightsEach Try.prog ts ds).all (· ≤ reachBytes) = true) {j : Nat} {a b c : ByteArray} (ht : ts[j]? = some 23)
    (hd : ds[j]? = some (.agg [.lit (.string a.data.toList), .lit (.string b.data.toList), .lit (.string c.data.toList)])) : a.size ≤ reachBytes ∧ b.size ≤ reachBytes ∧ c.size ≤ reachBytes := by
  have hm := DataW.weights_mem_each (P := Try.prog) ht hd
  have w1 := List.all_eq_true.1 h _ (hm a.size (by simp [DataW.weights, DataW.weightsEach, Try.underlying23]))
  have w2 := List.all_eq_true.1 h _ (hm b.size (by simp [DataW.weights, DataW.weightsEach, Try.underlying23]))
  have w3 := List.all_eq_true.1 h _ (hm c.size (by simp [DataW.weights, DataW.weightsEach, Try.underlying23]))
  exact ⟨by simpa using w1, by simpa using w2, by simpa using w3⟩

end Go.Proofs.Ytipgofglidmffaa.Mk
