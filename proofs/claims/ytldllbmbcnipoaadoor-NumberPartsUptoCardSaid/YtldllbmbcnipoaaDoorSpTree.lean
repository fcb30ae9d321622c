/-
  SPANS AS THEY LIE: a []api.Span read as a tree; what is read stays where the memory grows; a statement's argument, opened.
-/
import Derived.Test.YtldllbmbcnipoaaDoorPkNA
import Derived.Test.YtldllbmbcnipoaaDoorPkNB
import Derived.Test.YtldllbmbcnipoaaDoorPkNC
import Derived.ProofKit
import Derived.OpenShut
import Derived.SizedLaws
import Derived.ChangeArms
import Derived.ChangeOld
import Derived.Deep.Slices
namespace Go.Proofs.YtldllbmbcnipoaaDoor.Sp
open Go.RowKit Go.ChangeShapes Go.WideShapes Go.ChangeAt
open Go.Proofs.YtldllbmbcnipoaaDoor.Tk (S S_of S_list S_size)
set_option linter.unusedVariables false

mutual
/-- One span, as it lies. -/
def trOne (w : World) (b o : Nat) : Sp → Prop
  | .mk k s l => w.cell? ⟨b, o, none⟩ = some (.int .i64 k) ∧ w.cell? ⟨b, o + 1, none⟩ = some (.string (S s)) ∧
    ∃ ao cap, w.cell? ⟨b, o + 2, none⟩ = some (.slice ao l.length cap) ∧ (l.length ≤ cap ∧ cap ≤ 9223372036854775807) ∧ (l = [] ∨ ∃ b' o', ao = some ⟨b', o', none⟩ ∧ b' < w.heap.size ∧ trAll w b' o' l)
def trAll (w : World) (b o : Nat) : List Sp → Prop
  | [] => True
  | x :: r => trOne w b o x ∧ trAll w b (o + 3) r
end
/-- A slice that reads as these spans. -/
def Tr (w : World) (v : Value) (l : List Sp) : Prop :=
  ∃ ao cap, v = .slice ao l.length cap ∧ (l.length ≤ cap ∧ cap ≤ 9223372036854775807) ∧ (l = [] ∨ ∃ b o, ao = some ⟨b, o, none⟩ ∧ b < w.heap.size ∧ trAll w b o l)
theorem Tr.len {w : World} {v : Value} {l : List Sp} (h : Tr w v l) : ∃ ao cap, v = .slice ao l.length cap := by
  obtain ⟨ao, cap, hv, _⟩ := h; exact ⟨ao, cap, hv⟩
theorem Tr.short {w : World} {v : Value} {l : List Sp} (h : Tr w v l) : l.length ≤ 9223372036854775807 := by
  obtain ⟨_, _, _, hc, _⟩ := h; omega
mutual
theorem trOne_below {w w' : World} (hb : Below w.heap.size w w') : ∀ (x : Sp) (b o : Nat), b < w.heap.size → trOne w b o x → trOne w' b o x
  | .mk k s l, b, o, hlt, h => by
    unfold trOne at h ⊢
    obtain ⟨h1, h2, ao, cap, h3, hc, h4⟩ := h
    refine ⟨(hb.cell (by exact hlt)).trans h1, (hb.cell (by exact hlt)).trans h2, ao, cap, (hb.cell (by exact hlt)).trans h3, hc, ?_⟩
    rcases h4 with h4 | ⟨b', o', ha, hl, h4⟩
    · exact Or.inl h4
    · exact Or.inr ⟨b', o', ha, Nat.lt_of_lt_of_le hl hb.size, trAll_below hb l b' o' hl h4⟩
theorem trAll_below {w w' : World} (hb : Below w.heap.size w w') : ∀ (l : List Sp) (b o : Nat), b < w.heap.size → trAll w b o l → trAll w' b o l
  | [], _, _, _, _ => by unfold trAll; trivial
  | x :: r, b, o, hlt, h => by
    unfold trAll at h ⊢
    exact ⟨trOne_below hb x b o hlt h.1, trAll_below hb r b (o + 3) hlt h.2⟩
end
theorem Tr.below {w w' : World} {v : Value} {l : List Sp} (h : Tr w v l) (hb : Below w.heap.size w w') : Tr w' v l := by
  obtain ⟨ao, cap, hv, hc, h⟩ := h
  refine ⟨ao, cap, hv, hc, ?_⟩
  rcases h with h | ⟨b, o, ha, hl, h⟩
  · exact Or.inl h
  · exact Or.inr ⟨b, o, ha, Nat.lt_of_lt_of_le hl hb.size, trAll_below hb l b o hl h⟩
theorem trAll_at {w : World} {b : Nat} : ∀ (l : List Sp) (o : Nat), trAll w b o l → ∀ i (hi : i < l.length), trOne w b (o + i * 3) l[i]
  | [], _, _, i, hi => absurd hi (Nat.not_lt_zero _)
  | x :: r, o, h, 0, _ => by unfold trAll at h; simpa using h.1
  | x :: r, o, h, i + 1, hi => by
    unfold trAll at h
    have := trAll_at r (o + 3) h.2 i (by simpa using hi)
    rw [show o + (i + 1) * 3 = o + 3 + i * 3 by omega]
    simpa using this
theorem trAll_of {w : World} {b : Nat} : ∀ (l : List Sp) (o : Nat), (∀ i (hi : i < l.length), trOne w b (o + i * 3) l[i]) → trAll w b o l
  | [], _, _ => by unfold trAll; trivial
  | x :: r, o, h => by
    unfold trAll
    refine ⟨h 0 (by simp), trAll_of r (o + 3) (fun i hi => ?_)⟩
    have := h (i + 1) (by simpa using hi)
    rw [show o + (i + 1) * 3 = o + 3 + i * 3 by omega] at this
    simpa using this
/-- What a span holds. -/
structure Cells (w : World) (b o : Nat) (x : Sp) (ao : Option Addr) (cap : Nat) : Prop where
  kind : w.cell? ⟨b, o, none⟩ = some (.int .i64 x.kind)
  s : w.cell? ⟨b, o + 1, none⟩ = some (.string (S x.s))
  kids : w.cell? ⟨b, o + 2, none⟩ = some (.slice ao x.kids.length cap)
  tr : Tr w (.slice ao x.kids.length cap) x.kids
theorem trOne_cells {w : World} {b o : Nat} {x : Sp} (h : trOne w b o x) : ∃ ao cap, Cells w b o x ao cap := by
  obtain ⟨k, s, l⟩ := x
  unfold trOne at h
  obtain ⟨h1, h2, ao, cap, h3, hc, h4⟩ := h
  exact ⟨ao, cap, h1, h2, h3, ⟨ao, cap, rfl, hc, h4⟩⟩
theorem trOne_of {w : World} {b o : Nat} {x : Sp} {ao : Option Addr} {cap : Nat} (h : Cells w b o x ao cap) : trOne w b o x := by
  obtain ⟨k, s, l⟩ := x
  obtain ⟨h1, h2, h3, ao', cap', hv, hc, h4⟩ := h
  simp only [Value.slice.injEq] at hv
  obtain ⟨rfl, _, rfl⟩ := hv
  unfold trOne
  exact ⟨h1, h2, ao, cap, h3, hc, h4⟩
theorem Tr.at {w : World} {ao : Option Addr} {n c : Nat} {l : List Sp} (h : Tr w (.slice ao n c) l) : ∀ i (hi : i < l.length), ∃ b o ak ck, ao = some ⟨b, o, none⟩ ∧ b < w.heap.size ∧ Cells w b (o + i * 3) l[i] ak ck := by
  intro i hi
  obtain ⟨ao', cap', hv, _, hx⟩ := h
  simp only [Value.slice.injEq] at hv
  obtain ⟨rfl, _, _⟩ := hv
  rcases hx with hx | ⟨b, o, rfl, hb, hx⟩
  · subst hx; exact absurd hi (Nat.not_lt_zero _)
  · obtain ⟨ak, ck, hc⟩ := trOne_cells (trAll_at l o hx i hi)
    exact ⟨b, o, ak, ck, rfl, hb, hc⟩

/-! How long texts are. -/
mutual
def fitOne (R : Nat) : Sp → Prop
  | .mk k s l => (-9223372036854775808 ≤ k ∧ k ≤ 9223372036854775807) ∧ s.length ≤ R ∧ fitAll R l
def fitAll (R : Nat) : List Sp → Prop
  | [] => True
  | x :: r => fitOne R x ∧ fitAll R r
end
theorem fitAll_at {R : Nat} : ∀ {l : List Sp}, fitAll R l → ∀ x ∈ l, fitOne R x
  | [], _, x, hx => by cases hx
  | y :: r, h, x, hx => by
    unfold fitAll at h
    rcases List.mem_cons.1 hx with rfl | hx
    · exact h.1
    · exact fitAll_at h.2 x hx
theorem fitAll_of {R : Nat} : ∀ {l : List Sp}, (∀ x ∈ l, fitOne R x) → fitAll R l
  | [], _ => by unfold fitAll; trivial
  | y :: r, h => by
    unfold fitAll
    exact ⟨h y (List.mem_cons_self ..), fitAll_of (fun x hx => h x (List.mem_cons_of_mem _ hx))⟩
theorem fitOne_s {R : Nat} {x : Sp} (h : fitOne R x) : x.s.length ≤ R := by obtain ⟨k, s, l⟩ := x; unfold fitOne at h; exact h.2.1
theorem fitOne_kids {R : Nat} {x : Sp} (h : fitOne R x) : fitAll R x.kids := by obtain ⟨k, s, l⟩ := x; unfold fitOne at h; exact h.2.2

/-! A statement's argument. -/
theorem cellsInt : Tryd.prog.cellsOf 3 = 1 := by kernel_rfl
theorem cellsStr : Tryd.prog.cellsOf 9 = 1 := by kernel_rfl
theorem cellsSps : Tryd.prog.cellsOf 31 = 1 := by kernel_rfl
theorem cellsSp : Tryd.prog.cellsOf 61 = 3 := by kernel_rfl
theorem mem_all {H : Type} {P : Program} {e : TypeId} {d : DataW H} {n : Nat} (hn : n ∈ d.weights P e) : ∀ {l : List (DataW H)}, d ∈ l → n ∈ DataW.weightsAll P e l
  | [], h => by cases h
  | x :: r, h => by
    simp only [DataW.weightsAll, List.mem_append]
    rcases List.mem_cons.1 h with rfl | h
    · exact Or.inl hn
    · exact Or.inr (mem_all hn h)

set_option maxRecDepth 100000 in
theorem open_fuel {H : Type} {enc : TypeId × Value → H} {W : World} {base : Nat} {sp : Nat → Bool} {held : Bool} (fuel : Nat) : ∀ (v : Value) (x : DataW H × List MemPlace),
    DataW.trod enc Tryd.prog W base sp held fuel 31 [v] = some x → ∃ l : List Sp, Tr W v l ∧ ((∀ n ∈ x.1.weights Tryd.prog 31, n ≤ reachBytes) → fitAll reachBytes l) := by
  induction fuel using Nat.strongRecOn with
  | ind fuel ih =>
    intro v x h
    rcases DataW.trod_slice Tryd.underlying31 h with ⟨hcs, hx⟩ | ⟨a, len, cap, elems, rest, n, hn, hcs, hx, hbase, hl, hm, hlen, hel, _, _⟩
    · simp at hcs
      subst hcs
      exact ⟨[], ⟨none, 0, rfl, ⟨Nat.le_refl _, by omega⟩, Or.inl rfl⟩, fun _ => by unfold fitAll; trivial⟩
    · simp at hcs
      subst hcs
      have hsp : 0 < len → a.spot = none := by
        intro h0
        have hi2 := hel 0 h0
        have hil : 0 < elems.length := by omega
        rw [List.getElem?_eq_getElem hil] at hi2
        obtain ⟨cs', hc1, hc2⟩ := Option.bind_eq_some_iff.1 hi2
        rw [cellsSp] at hc1
        obtain ⟨_, hcl, hcell⟩ := World.cells?_some hc1
        match cs', hcl with
        | [c0, c1, c2], _ =>
          have e0 := hcell 0 (by omega)
          simpa [Addr.add] using World.cell?_spot e0
      have each : ∀ i, i < len → ∃ (y : Sp), trOne W a.block (a.off + i * 3) y ∧ a.spot = none ∧ a.block < W.heap.size ∧ ((∀ n ∈ x.1.weights Tryd.prog 31, n ≤ reachBytes) → fitOne reachBytes y) := by
        intro i hi
        have hi2 := hel i hi
        have hil : i < elems.length := by omega
        rw [List.getElem?_eq_getElem hil] at hi2
        obtain ⟨cs', hc1, hc2⟩ := Option.bind_eq_some_iff.1 hi2
        rw [cellsSp] at hc1
        have hblk := World.cells?_block hc1 (by omega)
        obtain ⟨_, hcl, hcell⟩ := World.cells?_some hc1
        obtain ⟨ys, k, hk, hxy, _, hyl, hf⟩ := DataW.trod_struct Tryd.underlying61 hc2
        match ys, hyl, cs', hcl with
        | [y0, y1, y2], _, [c0, c1, c2], _ =>
          have g0 := hf 0 _ rfl
          have g1 := hf 1 _ rfl
          have g2 := hf 2 _ rfl
          simp [cellsInt, cellsStr, cellsSps] at g0 g1 g2
          have e0 := hcell 0 (by omega)
          have e1 := hcell 1 (by omega)
          have e2 := hcell 2 (by omega)
          obtain ⟨b, off, spot⟩ := a
          have hspot : spot = none := hsp (by omega)
          subst hspot
          rw [Go.Deep.add_add, add_plain] at e0 e1 e2
          rw [add_plain] at hblk
          simp at e0 e1 e2
          obtain ⟨z, q0, hy0, hz⟩ := DataW.trod_int Tryd.underlying3 g0
          simp at q0
          subst q0
          obtain ⟨s, q1, hy1, _⟩ := DataW.trod_string Tryd.underlying9 g1
          simp at q1
          subst q1
          obtain ⟨l, ht, hfit⟩ := ih k (by omega) c2 y2 g2
          have ht' := ht
          obtain ⟨ao, ck, rfl, hck, htr⟩ := ht'
          refine ⟨.mk z s.data.toList l, ?_, rfl, hblk, fun hw => ?_⟩
          · unfold trOne
            exact ⟨e0, by rw [S_of, Nat.add_assoc]; exact e1, ao, ck, by rw [Nat.add_assoc]; exact e2, hck, htr⟩
          · have hmem : (elems[i]).1 ∈ elems.map (·.1) := List.mem_map.2 ⟨_, List.getElem_mem hil, rfl⟩
            have hall : ∀ m ∈ (elems[i]).1.weights Tryd.prog 61, m ≤ reachBytes := fun m hm' => hw m (by
              rw [hx]
              simp only [DataW.weights, Tryd.underlying31, List.mem_cons, List.mem_append]
              exact Or.inr (Or.inl (mem_all hm' hmem)))
            rw [hxy] at hall
            simp only [DataW.weights, Tryd.underlying61, List.map_cons, List.map_nil, DataW.weightsEach, List.mem_append] at hall
            have hz' : -9223372036854775808 ≤ z ∧ z ≤ 9223372036854775807 := by simpa [Lit.wf, IntKind.min, IntKind.max, IntKind.signed, IntKind.bits] using hz
            unfold fitOne
            refine ⟨hz', ?_, hfit (fun m hm' => hall m ?_)⟩
            · refine hall _ ?_
              rw [hy1]
              simp [DataW.weights]
            · simp [hm']
      have build : ∀ m, m ≤ len → ∃ L : List Sp, L.length = m ∧ (∀ i (hi : i < L.length), trOne W a.block (a.off + i * 3) L[i]) ∧ (∀ i (hi : i < L.length), (∀ n ∈ x.1.weights Tryd.prog 31, n ≤ reachBytes) → fitOne reachBytes L[i]) := by
        intro m
        induction m with
        | zero => exact fun _ => ⟨[], rfl, fun i hi => absurd hi (Nat.not_lt_zero _), fun i hi => absurd hi (Nat.not_lt_zero _)⟩
        | succ m ihm =>
          intro hm'
          obtain ⟨L, hL, h1, h2⟩ := ihm (by omega)
          obtain ⟨y, hy, _, _, hyf⟩ := each m (by omega)
          refine ⟨L ++ [y], by simp [hL], fun i hi => ?_, fun i hi hw => ?_⟩
          · by_cases him : i < L.length
            · rw [List.getElem_append_left him]; exact h1 i him
            · have : i = L.length := by simp at hi; omega
              subst this
              rw [List.getElem_append_right (Nat.le_refl _)]
              simpa [hL] using hy
          · by_cases him : i < L.length
            · rw [List.getElem_append_left him]; exact h2 i him hw
            · have : i = L.length := by simp at hi; omega
              subst this
              rw [List.getElem_append_right (Nat.le_refl _)]
              simpa using hyf hw
      obtain ⟨L, hL, h1, h2⟩ := build len (Nat.le_refl _)
      refine ⟨L, ⟨some a, cap, by rw [hL], ⟨by omega, by unfold maxLen at hm; omega⟩, ?_⟩, fun hw => fitAll_of (fun y hy => ?_)⟩
      · by_cases h0 : len = 0
        · exact Or.inl (List.eq_nil_of_length_eq_zero (by omega))
        · obtain ⟨_, _, hsp0, hlt, _⟩ := each 0 (by omega)
          obtain ⟨b, off, spot⟩ := a
          simp only at hsp0
          subst hsp0
          exact Or.inr ⟨b, off, rfl, hlt, trAll_of L off h1⟩
      · obtain ⟨i, hi, rfl⟩ := List.getElem_of_mem hy
        exact h2 i hi hw

end Go.Proofs.YtldllbmbcnipoaaDoor.Sp
