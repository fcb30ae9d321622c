/-
  HOW A STATEMENT'S ARGUMENT api.Block READS, opened; how much it holds.
-/
import Derived.Test.YtldllbmbcnipoaaDoorPkNO
import Derived.Test.YtldllbmbcnipoaaDoorPkND
import Derived.Test.YtldllbmbcnipoaaDoorBtTree
namespace Go.Proofs.YtldllbmbcnipoaaDoor.Nm
open Go.ChangeShapes Go.WideShapes Go.ChangeAt Go.RowKit
open Go.Proofs.YtldllbmbcnipoaaDoor.Tk (S S_of Rd)
open Go.Proofs.YtldllbmbcnipoaaDoor.Sp (Sp Tr cellsInt cellsStr cellsSps)
open Go.Proofs.YtldllbmbcnipoaaDoor.Bt
open Go.Proofs.YtldllbmbcnipoaaDoor.Bk (Bk)
set_option linter.unusedVariables false

set_option maxRecDepth 100000 in
theorem block_of' {H : Type} {enc : TypeId × Value → H} {W : World} {base b0 : Nat} {sp : Nat → Bool} {held : Bool} {r : Reach} {v : Value} {d : DataW H} {ps : List MemPlace}
    (hval : Value.okWide Tryd.prog W r b0 33 v) (hd : DataW.Trod enc Tryd.prog W base sp held 33 v d ps) :
    ∃ x : Bk, BkV W x v ∧ ((∀ n ∈ d.weights Tryd.prog 33, n ≤ reachBytes) → Bt.fitOne reachBytes x) ∧ ∀ (f : DataW H → Nat) (fa : List (DataW H) → Nat), Bulk f fa → Bt.ttOne x ≤ f d := by
  obtain ⟨cs, rfl, hcs⟩ := okWide_struct Tryd.underlying33 hval
  obtain ⟨fuel, hf0⟩ := hd
  obtain ⟨ys, k, hk, hxy, _, hyl, hf⟩ := DataW.trod_struct Tryd.underlying33 hf0
  rw [cellsBk] at hcs
  obtain ⟨c0, c1, c2, c3, c4, c5, rfl⟩ : ∃ c0 c1 c2 c3 c4 c5, cs = #[c0, c1, c2, c3, c4, c5] := by
    match cs, hcs with
    | ⟨[c0, c1, c2, c3, c4, c5]⟩, _ => exact ⟨c0, c1, c2, c3, c4, c5, rfl⟩
  match ys, hyl with
  | [y0, y1, y2, y3, y4, y5], _ =>
    have g0 := hf 0 _ rfl
    have g1 := hf 1 _ rfl
    have g2 := hf 2 _ rfl
    have g3 := hf 3 _ rfl
    have g4 := hf 4 _ rfl
    have g5 := hf 5 _ rfl
    simp [cellsInt, cellsStr, cellsStrs, cellsSps, cellsBks, Value.cells] at g0 g1 g2 g3 g4 g5
    obtain ⟨z, q0, hy0, hz⟩ := DataW.trod_int Tryd.underlying3 g0
    simp at q0
    subst q0
    obtain ⟨z1, q1, hy1, hz1⟩ := DataW.trod_int Tryd.underlying3 g1
    simp at q1
    subst q1
    obtain ⟨s, q2, hy2, _⟩ := DataW.trod_string Tryd.underlying9 g2
    simp at q2
    subst q2
    obtain ⟨xs, hrd, hxl, hxf, hxb⟩ := rd_fuel k c3 y3 g3
    obtain ⟨sl, hst, hsf, hsb⟩ := sp_fuel k c4 y4 g4
    obtain ⟨l, ht, hfit, hbk⟩ := open_fuel k c5 y5 g5
    obtain ⟨al, cl, rfl⟩ := hrd.len
    obtain ⟨as', cs', rfl⟩ := hst.len
    obtain ⟨ak, ck, rfl⟩ := ht.len
    simp only [Prod.mk.injEq] at hxy
    obtain ⟨hxy, _⟩ := hxy
    refine ⟨.mk z z1 s.data.toList xs sl l, ⟨al, as', ak, cl, cs', ck, by show Value.agg _ = Value.agg #[.int .i64 z, .int .i64 z1, .string (S s.data.toList), .slice al xs.length cl, .slice as' sl.length cs', .slice ak l.length ck]; rw [S_of], hrd, hxl, hst, ht⟩, fun hw => ?_, fun f fa B => ?_⟩
    · rw [hxy] at hw
      simp only [DataW.weights, Tryd.underlying33, List.map_cons, List.map_nil, DataW.weightsEach, List.mem_append] at hw
      have hz' : -9223372036854775808 ≤ z ∧ z ≤ 9223372036854775807 := by simpa [Lit.wf, IntKind.min, IntKind.max, IntKind.signed, IntKind.bits] using hz
      have hz1' : -9223372036854775808 ≤ z1 ∧ z1 ≤ 9223372036854775807 := by simpa [Lit.wf, IntKind.min, IntKind.max, IntKind.signed, IntKind.bits] using hz1
      rw [Bt.fitOne]
      refine ⟨hz', hz1', ?_, hxf (fun m hm' => hw m ?_), hsf (fun m hm' => hw m ?_), hfit (fun m hm' => hw m ?_)⟩
      · refine hw _ ?_
        rw [hy2]
        simp [DataW.weights]
      · simp [hm']
      · simp [hm']
      · simp [hm']
    · rw [hxy]
      have h1 := B.agg (List.map (·.1) [y0, y1, y2, y3, y4, y5])
      simp only [List.map_cons, List.map_nil, B.cons] at h1
      have h2 := hbk f fa B
      have h3 := B.str s.data.toList
      have h4 := hxb f fa B
      have h5 := hsb f fa B
      rw [hy2] at h1
      rw [Bt.ttOne]
      simp only [List.map_cons, List.map_nil]
      rw [hy2]
      dsimp only at h1 ⊢
      omega
set_option maxRecDepth 100000 in
theorem block_of {H : Type} {enc : TypeId × Value → H} {W : World} {base b0 : Nat} {sp : Nat → Bool} {held : Bool} {r : Reach} {v : Value} {d : DataW H} {ps : List MemPlace} {ts : List TypeId} {ds : List (DataW H)} {j : Nat}
    (hval : Value.okWide Tryd.prog W r b0 33 v) (h : DataW.Trod enc Tryd.prog W base sp held 33 v d ps) (hsz : (DataW.weightsEach Tryd.prog ts ds).all (· ≤ reachBytes) = true) (ht : ts[j]? = some 33) (hd : ds[j]? = some d) :
    ∃ x : Bk, BkV W x v ∧ Bt.fitOne reachBytes x ∧ ∀ (f : DataW H → Nat) (fa : List (DataW H) → Nat), Bulk f fa → Bt.ttAll [x] ≤ f d := by
  obtain ⟨x, h1, h2, h3⟩ := block_of' hval h
  refine ⟨x, h1, h2 (fun n hn => ?_), fun f fa B => by rw [ttAll_cons]; have := h3 f fa B; simpa [ttAll] using this⟩
  have hm := DataW.weights_mem_each (P := Tryd.prog) ht hd n hn
  simpa using List.all_eq_true.1 hsz _ hm
end Go.Proofs.YtldllbmbcnipoaaDoor.Nm
