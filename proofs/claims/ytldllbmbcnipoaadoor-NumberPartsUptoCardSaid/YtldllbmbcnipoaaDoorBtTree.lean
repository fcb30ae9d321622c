/-
  BLOCKS AS THEY LIE: a []api.Block read as a tree; what is read stays where the memory grows; a statement's argument, opened.
-/
import Derived.Test.YtldllbmbcnipoaaDoorPkNA
import Derived.Test.YtldllbmbcnipoaaDoorSpTree
import Derived.Test.YtldllbmbcnipoaaDoorSpFew
namespace Go.Proofs.YtldllbmbcnipoaaDoor.Bt
open Go.RowKit Go.ChangeShapes Go.WideShapes Go.ChangeAt
open Go.Proofs.YtldllbmbcnipoaaDoor.Tk (S S_of S_list S_size Rd)
open Go.Proofs.YtldllbmbcnipoaaDoor.Sp (Sp Tr cellsInt cellsStr cellsSps mem_all)
open Go.Proofs.YtldllbmbcnipoaaDoor.Bk (Bk)
set_option linter.unusedVariables false

mutual
/-- One block, as it lies. -/
def trOne (w : World) (b o : Nat) : Bk → Prop
  | .mk k lv i ls ss l => w.cell? ⟨b, o, none⟩ = some (.int .i64 k) ∧ w.cell? ⟨b, o + 1, none⟩ = some (.int .i64 lv) ∧ w.cell? ⟨b, o + 2, none⟩ = some (.string (S i)) ∧
    (∃ v, w.cell? ⟨b, o + 3, none⟩ = some v ∧ Rd w v ls ∧ ls.length ≤ 9223372036854775807) ∧ (∃ v, w.cell? ⟨b, o + 4, none⟩ = some v ∧ Tr w v ss) ∧
    ∃ ao cap, w.cell? ⟨b, o + 5, none⟩ = some (.slice ao l.length cap) ∧ (l.length ≤ cap ∧ cap ≤ 9223372036854775807) ∧ (l = [] ∨ ∃ b' o', ao = some ⟨b', o', none⟩ ∧ b' < w.heap.size ∧ trAll w b' o' l)
def trAll (w : World) (b o : Nat) : List Bk → Prop
  | [] => True
  | x :: r => trOne w b o x ∧ trAll w b (o + 6) r
end
/-- A slice that reads as these blocks. -/
def TrB (w : World) (v : Value) (l : List Bk) : Prop :=
  ∃ ao cap, v = .slice ao l.length cap ∧ (l.length ≤ cap ∧ cap ≤ 9223372036854775807) ∧ (l = [] ∨ ∃ b o, ao = some ⟨b, o, none⟩ ∧ b < w.heap.size ∧ trAll w b o l)
theorem TrB.len {w : World} {v : Value} {l : List Bk} (h : TrB w v l) : ∃ ao cap, v = .slice ao l.length cap := by
  obtain ⟨ao, cap, hv, _⟩ := h; exact ⟨ao, cap, hv⟩
theorem TrB.short {w : World} {v : Value} {l : List Bk} (h : TrB w v l) : l.length ≤ 9223372036854775807 := by
  obtain ⟨_, _, _, hc, _⟩ := h; omega
mutual
theorem trOne_below {w w' : World} (hb : Below w.heap.size w w') : ∀ (x : Bk) (b o : Nat), b < w.heap.size → trOne w b o x → trOne w' b o x
  | .mk k lv i ls ss l, b, o, hlt, h => by
    unfold trOne at h ⊢
    obtain ⟨h0, h1, h2, ⟨v3, h3, r3, n3⟩, ⟨v4, h4, r4⟩, ao, cap, h5, hc, h6⟩ := h
    refine ⟨(hb.cell (by exact hlt)).trans h0, (hb.cell (by exact hlt)).trans h1, (hb.cell (by exact hlt)).trans h2, ⟨v3, (hb.cell (by exact hlt)).trans h3, r3.below hb, n3⟩, ⟨v4, (hb.cell (by exact hlt)).trans h4, r4.below hb⟩, ao, cap, (hb.cell (by exact hlt)).trans h5, hc, ?_⟩
    rcases h6 with h6 | ⟨b', o', ha, hl, h6⟩
    · exact Or.inl h6
    · exact Or.inr ⟨b', o', ha, Nat.lt_of_lt_of_le hl hb.size, trAll_below hb l b' o' hl h6⟩
theorem trAll_below {w w' : World} (hb : Below w.heap.size w w') : ∀ (l : List Bk) (b o : Nat), b < w.heap.size → trAll w b o l → trAll w' b o l
  | [], _, _, _, _ => by unfold trAll; trivial
  | x :: r, b, o, hlt, h => by
    unfold trAll at h ⊢
    exact ⟨trOne_below hb x b o hlt h.1, trAll_below hb r b (o + 6) hlt h.2⟩
end
theorem TrB.below {w w' : World} {v : Value} {l : List Bk} (h : TrB w v l) (hb : Below w.heap.size w w') : TrB w' v l := by
  obtain ⟨ao, cap, hv, hc, h⟩ := h
  refine ⟨ao, cap, hv, hc, ?_⟩
  rcases h with h | ⟨b, o, ha, hl, h⟩
  · exact Or.inl h
  · exact Or.inr ⟨b, o, ha, Nat.lt_of_lt_of_le hl hb.size, trAll_below hb l b o hl h⟩
theorem TrB.drewN {w : World} {v : Value} {l : List Bk} (h : TrB w v l) (n : Nat) : TrB (w.drewN n) v l := h.below (below_drewN (Below.refl _ _) n)
theorem trAll_at {w : World} {b : Nat} : ∀ (l : List Bk) (o : Nat), trAll w b o l → ∀ i (hi : i < l.length), trOne w b (o + i * 6) l[i]
  | [], _, _, i, hi => absurd hi (Nat.not_lt_zero _)
  | x :: r, o, h, 0, _ => by unfold trAll at h; simpa using h.1
  | x :: r, o, h, i + 1, hi => by
    unfold trAll at h
    have := trAll_at r (o + 6) h.2 i (by simpa using hi)
    rw [show o + (i + 1) * 6 = o + 6 + i * 6 by omega]
    simpa using this
theorem trAll_of {w : World} {b : Nat} : ∀ (l : List Bk) (o : Nat), (∀ i (hi : i < l.length), trOne w b (o + i * 6) l[i]) → trAll w b o l
  | [], _, _ => by unfold trAll; trivial
  | x :: r, o, h => by
    unfold trAll
    refine ⟨h 0 (by simp), trAll_of r (o + 6) (fun i hi => ?_)⟩
    have := h (i + 1) (by simpa using hi)
    rw [show o + (i + 1) * 6 = o + 6 + i * 6 by omega] at this
    simpa using this
/-- What a block holds. -/
structure Cells (w : World) (b o : Nat) (x : Bk) (vl vs : Value) (ao : Option Addr) (cap : Nat) : Prop where
  kind : w.cell? ⟨b, o, none⟩ = some (.int .i64 x.kind)
  level : w.cell? ⟨b, o + 1, none⟩ = some (.int .i64 x.level)
  info : w.cell? ⟨b, o + 2, none⟩ = some (.string (S x.info))
  lines : w.cell? ⟨b, o + 3, none⟩ = some vl
  spans : w.cell? ⟨b, o + 4, none⟩ = some vs
  kids : w.cell? ⟨b, o + 5, none⟩ = some (.slice ao x.kids.length cap)
  rd : Rd w vl x.lines
  short : x.lines.length ≤ 9223372036854775807
  sp : Tr w vs x.spans
  tr : TrB w (.slice ao x.kids.length cap) x.kids
theorem trOne_cells {w : World} {b o : Nat} {x : Bk} (h : trOne w b o x) : ∃ vl vs ao cap, Cells w b o x vl vs ao cap := by
  obtain ⟨k, lv, i, ls, ss, l⟩ := x
  unfold trOne at h
  obtain ⟨h0, h1, h2, ⟨v3, h3, r3, n3⟩, ⟨v4, h4, r4⟩, ao, cap, h5, hc, h6⟩ := h
  exact ⟨v3, v4, ao, cap, h0, h1, h2, h3, h4, h5, r3, n3, r4, ⟨ao, cap, rfl, hc, h6⟩⟩
theorem trOne_of {w : World} {b o : Nat} {x : Bk} {vl vs : Value} {ao : Option Addr} {cap : Nat} (h : Cells w b o x vl vs ao cap) : trOne w b o x := by
  obtain ⟨k, lv, i, ls, ss, l⟩ := x
  obtain ⟨h0, h1, h2, h3, h4, h5, r3, n3, r4, ao', cap', hv, hc, h6⟩ := h
  simp only [Value.slice.injEq] at hv
  obtain ⟨rfl, _, rfl⟩ := hv
  unfold trOne
  exact ⟨h0, h1, h2, ⟨vl, h3, r3, n3⟩, ⟨vs, h4, r4⟩, ao, cap, h5, hc, h6⟩
theorem TrB.at {w : World} {ao : Option Addr} {n c : Nat} {l : List Bk} (h : TrB w (.slice ao n c) l) : ∀ i (hi : i < l.length), ∃ b o vl vs ak ck, ao = some ⟨b, o, none⟩ ∧ b < w.heap.size ∧ Cells w b (o + i * 6) l[i] vl vs ak ck := by
  intro i hi
  obtain ⟨ao', cap', hv, _, hx⟩ := h
  simp only [Value.slice.injEq] at hv
  obtain ⟨rfl, _, _⟩ := hv
  rcases hx with hx | ⟨b, o, rfl, hb, hx⟩
  · subst hx; exact absurd hi (Nat.not_lt_zero _)
  · obtain ⟨vl, vs, ak, ck, hc⟩ := trOne_cells (trAll_at l o hx i hi)
    exact ⟨b, o, vl, vs, ak, ck, rfl, hb, hc⟩

/-! How long texts are. -/
mutual
def fitOne (R : Nat) : Bk → Prop
  | .mk k lv i ls ss l => (-9223372036854775808 ≤ k ∧ k ≤ 9223372036854775807) ∧ (-9223372036854775808 ≤ lv ∧ lv ≤ 9223372036854775807) ∧ i.length ≤ R ∧ (∀ s ∈ ls, s.length ≤ R) ∧ Sp.fitAll R ss ∧ fitAll R l
def fitAll (R : Nat) : List Bk → Prop
  | [] => True
  | x :: r => fitOne R x ∧ fitAll R r
end
theorem fitAll_at {R : Nat} : ∀ {l : List Bk}, fitAll R l → ∀ x ∈ l, fitOne R x
  | [], _, x, hx => by cases hx
  | y :: r, h, x, hx => by
    unfold fitAll at h
    rcases List.mem_cons.1 hx with rfl | hx
    · exact h.1
    · exact fitAll_at h.2 x hx
theorem fitAll_of {R : Nat} : ∀ {l : List Bk}, (∀ x ∈ l, fitOne R x) → fitAll R l
  | [], _ => by unfold fitAll; trivial
  | y :: r, h => by
    unfold fitAll
    exact ⟨h y (List.mem_cons_self ..), fitAll_of (fun x hx => h x (List.mem_cons_of_mem _ hx))⟩
theorem fitOne_eq {R : Nat} {x : Bk} : fitOne R x ↔ (-9223372036854775808 ≤ x.kind ∧ x.kind ≤ 9223372036854775807) ∧ (-9223372036854775808 ≤ x.level ∧ x.level ≤ 9223372036854775807) ∧ x.info.length ≤ R ∧ (∀ s ∈ x.lines, s.length ≤ R) ∧ Sp.fitAll R x.spans ∧ fitAll R x.kids := by
  obtain ⟨k, lv, i, ls, ss, l⟩ := x
  rw [fitOne]
  rfl

/-! How much there is, letters and all. -/
def lnTot : List (List UInt8) → Nat
  | [] => 0
  | s :: r => 1 + s.length + lnTot r
mutual
def ttOne : Bk → Nat
  | .mk _ _ i ls ss l => 1 + i.length + lnTot ls + Sp.totAll ss + ttAll l
def ttAll : List Bk → Nat
  | [] => 0
  | x :: r => ttOne x + ttAll r
end
theorem ttOne_eq (x : Bk) : ttOne x = 1 + x.info.length + lnTot x.lines + Sp.totAll x.spans + ttAll x.kids := by obtain ⟨k, lv, i, ls, ss, l⟩ := x; rw [ttOne]; rfl
theorem ttAll_cons (x : Bk) (r : List Bk) : ttAll (x :: r) = ttOne x + ttAll r := by rw [ttAll]
/-- A reckoning of what a reading holds. -/
structure Bulk {H : Type} (f : DataW H → Nat) (fa : List (DataW H) → Nat) : Prop where
  str : ∀ b, b.length + 1 ≤ f (.lit (.string b))
  strp : ∀ b, 0 < f (.lit (.string b))
  slice : ∀ e s, fa e ≤ f (.slice e s)
  agg : ∀ p, fa p + 1 ≤ f (.agg p)
  cons : ∀ d r, fa (d :: r) = f d + fa r
  nil : fa [] = 0
theorem Bulk.sum {H : Type} {f : DataW H → Nat} {fa : List (DataW H) → Nat} (B : Bulk f fa) {α : Type} (g : α → Nat) : ∀ (L : List α) (D : List (DataW H)), L.length = D.length → (∀ i (hi : i < L.length) (hi' : i < D.length), g L[i] ≤ f D[i]) → (L.map g).sum ≤ fa D
  | [], [], _, _ => by simp
  | x :: L, d :: D, h, hg => by
    rw [B.cons, List.map_cons, List.sum_cons]
    have h0 := hg 0 (by simp) (by simp)
    have h1 := Bulk.sum B g L D (by simpa using h) (fun i hi hi' => by have := hg (i + 1) (by simpa using hi) (by simpa using hi'); simpa using this)
    simp only [List.getElem_cons_zero] at h0
    omega
theorem sum_le : ∀ (L M : List Nat), L.length = M.length → (∀ i (hi : i < L.length) (hi' : i < M.length), L[i] ≤ M[i]) → L.sum ≤ M.sum
  | [], [], _, _ => by simp
  | x :: L, d :: D, h, hg => by
    rw [List.sum_cons, List.sum_cons]
    have h0 := hg 0 (by simp) (by simp)
    have h1 := sum_le L D (by simpa using h) (fun i hi hi' => by have := hg (i + 1) (by simpa using hi) (by simpa using hi'); simpa using this)
    simp only [List.getElem_cons_zero] at h0
    omega
theorem Bulk.one {H : Type} {f : DataW H → Nat} {fa : List (DataW H) → Nat} (B : Bulk f fa) : ∀ D : List (DataW H), fa D = (D.map f).sum
  | [] => by simp [B.nil]
  | d :: r => by rw [B.cons, List.map_cons, List.sum_cons, ← Bulk.one B r]
theorem sp_sum : ∀ l : List Sp, Sp.totAll l = (l.map Sp.totOne).sum
  | [] => by rw [Sp.totAll]; rfl
  | x :: r => by rw [Sp.totAll_cons, sp_sum r]; simp
theorem tt_sum : ∀ l : List Bk, ttAll l = (l.map ttOne).sum
  | [] => by rw [ttAll]; rfl
  | x :: r => by rw [ttAll_cons, tt_sum r]; simp
theorem ln_sum : ∀ l : List (List UInt8), lnTot l = (l.map (fun s => 1 + s.length)).sum
  | [] => by rw [lnTot]; rfl
  | x :: r => by rw [lnTot, ln_sum r]; simp

/-! A statement's argument. -/
theorem cellsStrs : Tryd.prog.cellsOf 30 = 1 := by kernel_rfl
theorem cellsBks : Tryd.prog.cellsOf 22 = 1 := by kernel_rfl
theorem cellsBk : Tryd.prog.cellsOf 33 = 6 := by kernel_rfl

set_option maxRecDepth 100000 in
theorem sp_fuel {H : Type} {enc : TypeId × Value → H} {W : World} {base : Nat} {sp : Nat → Bool} {held : Bool} (fuel : Nat) : ∀ (v : Value) (x : DataW H × List MemPlace),
    DataW.trod enc Tryd.prog W base sp held fuel 31 [v] = some x → ∃ l : List Sp, Tr W v l ∧ ((∀ n ∈ x.1.weights Tryd.prog 31, n ≤ reachBytes) → Sp.fitAll reachBytes l) ∧ ∀ (f : DataW H → Nat) (fa : List (DataW H) → Nat), Bulk f fa → Sp.totAll l ≤ f x.1 := by
  induction fuel using Nat.strongRecOn with
  | ind fuel ih =>
    intro v x h
    rcases DataW.trod_slice Tryd.underlying31 h with ⟨hcs, hx⟩ | ⟨a, len, cap, elems, rest, n, hn, hcs, hx, hbase, hl, hm, hlen, hel, _, _⟩
    · simp at hcs
      subst hcs
      exact ⟨[], ⟨none, 0, rfl, ⟨Nat.le_refl _, by omega⟩, Or.inl rfl⟩, fun _ => by unfold Sp.fitAll; trivial, fun f fa B => by rw [Sp.totAll]; omega⟩
    · simp at hcs
      subst hcs
      have hsp : 0 < len → a.spot = none := by
        intro h0
        have hi2 := hel 0 h0
        have hil : 0 < elems.length := by omega
        rw [List.getElem?_eq_getElem hil] at hi2
        obtain ⟨cs', hc1, hc2⟩ := Option.bind_eq_some_iff.1 hi2
        rw [Sp.cellsSp] at hc1
        obtain ⟨_, hcl, hcell⟩ := World.cells?_some hc1
        match cs', hcl with
        | [c0, c1, c2], _ =>
          have e0 := hcell 0 (by omega)
          simpa [Addr.add] using World.cell?_spot e0
      have each : ∀ i, i < len → ∃ (y : Sp), Sp.trOne W a.block (a.off + i * 3) y ∧ a.spot = none ∧ a.block < W.heap.size ∧ ((∀ n ∈ x.1.weights Tryd.prog 31, n ≤ reachBytes) → Sp.fitOne reachBytes y) ∧ (∀ (f : DataW H → Nat) (fa : List (DataW H) → Nat), Bulk f fa → ∀ hi : i < elems.length, Sp.totOne y ≤ f (elems[i]).1) := by
        intro i hi
        have hi2 := hel i hi
        have hil : i < elems.length := by omega
        rw [List.getElem?_eq_getElem hil] at hi2
        obtain ⟨cs', hc1, hc2⟩ := Option.bind_eq_some_iff.1 hi2
        rw [Sp.cellsSp] at hc1
        have hblk := World.cells?_block hc1 (by omega)
        obtain ⟨_, hcl, hcell⟩ := World.cells?_some hc1
        obtain ⟨ys, k, hk, hxy, _, hyl, hf⟩ := DataW.trod_struct Tryd.underlying61 hc2
        match ys, hyl, cs', hcl with
        | [y0, y1, y2], _, [c0, c1, c2], _ =>
          have g0 := hf 0 _ rfl
          have g1 := hf 1 _ rfl
          have g2 := hf 2 _ rfl
          simp [cellsInt, cellsStr, cellsSps] at g0 g1 g2
          have e0 := hcell 0 (by omega)
          have e1 := hcell 1 (by omega)
          have e2 := hcell 2 (by omega)
          obtain ⟨b, off, spot⟩ := a
          have hspot : spot = none := hsp (by omega)
          subst hspot
          rw [Go.Deep.add_add, add_plain] at e0 e1 e2
          rw [add_plain] at hblk
          simp at e0 e1 e2
          obtain ⟨z, q0, hy0, hz⟩ := DataW.trod_int Tryd.underlying3 g0
          simp at q0
          subst q0
          obtain ⟨s, q1, hy1, _⟩ := DataW.trod_string Tryd.underlying9 g1
          simp at q1
          subst q1
          obtain ⟨l, ht, hfit, hbk⟩ := ih k (by omega) c2 y2 g2
          have ht' := ht
          obtain ⟨ao, ck, rfl, hck, htr⟩ := ht'
          refine ⟨.mk z s.data.toList l, ?_, rfl, hblk, fun hw => ?_, fun f fa B hi' => ?_⟩
          · unfold Sp.trOne
            exact ⟨e0, by rw [S_of, Nat.add_assoc]; exact e1, ao, ck, by rw [Nat.add_assoc]; exact e2, hck, htr⟩
          · have hmem : (elems[i]).1 ∈ elems.map (·.1) := List.mem_map.2 ⟨_, List.getElem_mem hil, rfl⟩
            have hall : ∀ m ∈ (elems[i]).1.weights Tryd.prog 61, m ≤ reachBytes := fun m hm' => hw m (by
              rw [hx]
              simp only [DataW.weights, Tryd.underlying31, List.mem_cons, List.mem_append]
              exact Or.inr (Or.inl (mem_all hm' hmem)))
            rw [hxy] at hall
            simp only [DataW.weights, Tryd.underlying61, List.map_cons, List.map_nil, DataW.weightsEach, List.mem_append] at hall
            have hz' : -9223372036854775808 ≤ z ∧ z ≤ 9223372036854775807 := by simpa [Lit.wf, IntKind.min, IntKind.max, IntKind.signed, IntKind.bits] using hz
            unfold Sp.fitOne
            refine ⟨hz', ?_, hfit (fun m hm' => hall m ?_)⟩
            · refine hall _ ?_
              rw [hy1]
              simp [DataW.weights]
            · simp [hm']
          · rw [hxy]
            have h1 := B.agg (List.map (·.1) [y0, y1, y2])
            simp only [List.map_cons, List.map_nil, B.cons] at h1
            have h2 := hbk f fa B
            have h3 := B.str s.data.toList
            rw [hy1] at h1
            simp only at h1 h3
            rw [Sp.totOne_eq]
            simp only [Sp.s, Sp.kids]
            simp only [List.map_cons, List.map_nil]
            rw [hy1]
            dsimp only
            omega
      have build : ∀ m, m ≤ len → ∃ L : List Sp, L.length = m ∧ (∀ i (hi : i < L.length), Sp.trOne W a.block (a.off + i * 3) L[i]) ∧ (∀ i (hi : i < L.length), (∀ n ∈ x.1.weights Tryd.prog 31, n ≤ reachBytes) → Sp.fitOne reachBytes L[i]) ∧ (∀ (f : DataW H → Nat) (fa : List (DataW H) → Nat), Bulk f fa → ∀ i (hi : i < L.length) (hi' : i < elems.length), Sp.totOne L[i] ≤ f (elems[i]).1) := by
        intro m
        induction m with
        | zero => exact fun _ => ⟨[], rfl, fun i hi => absurd hi (Nat.not_lt_zero _), fun i hi => absurd hi (Nat.not_lt_zero _), fun _ _ _ i hi => absurd hi (Nat.not_lt_zero _)⟩
        | succ m ihm =>
          intro hm'
          obtain ⟨L, hL, h1, h2, h3⟩ := ihm (by omega)
          obtain ⟨y, hy, _, _, hyf, hyb⟩ := each m (by omega)
          refine ⟨L ++ [y], by simp [hL], fun i hi => ?_, fun i hi hw => ?_, fun f fa B i hi hi' => ?_⟩
          · by_cases him : i < L.length
            · rw [List.getElem_append_left him]; exact h1 i him
            · have : i = L.length := by simp at hi; omega
              subst this
              rw [List.getElem_append_right (Nat.le_refl _)]
              simpa [hL] using hy
          · by_cases him : i < L.length
            · rw [List.getElem_append_left him]; exact h2 i him hw
            · have : i = L.length := by simp at hi; omega
              subst this
              rw [List.getElem_append_right (Nat.le_refl _)]
              simpa using hyf hw
          · by_cases him : i < L.length
            · have := h3 f fa B i him hi'
              rw [List.getElem_append_left him]
              exact this
            · have : i = L.length := by simp at hi; omega
              subst this
              rw [List.getElem_append_right (Nat.le_refl _)]
              have hh := hyb f fa B (by omega)
              simp only [← hL] at hh
              simpa using hh
      obtain ⟨L, hL, h1, h2, h3⟩ := build len (Nat.le_refl _)
      refine ⟨L, ⟨some a, cap, by rw [hL], ⟨by omega, by unfold maxLen at hm; omega⟩, ?_⟩, fun hw => Sp.fitAll_of (fun y hy => ?_), fun f fa B => ?_⟩
      · by_cases h0 : len = 0
        · exact Or.inl (List.eq_nil_of_length_eq_zero (by omega))
        · obtain ⟨_, _, hsp0, hlt, _, _⟩ := each 0 (by omega)
          obtain ⟨b, off, spot⟩ := a
          simp only at hsp0
          subst hsp0
          exact Or.inr ⟨b, off, rfl, hlt, Sp.trAll_of L off h1⟩
      · obtain ⟨i, hi, rfl⟩ := List.getElem_of_mem hy
        exact h2 i hi hw
      · rw [hx]
        refine Nat.le_trans ?_ (B.slice _ _)
        rw [sp_sum]
        refine B.sum Sp.totOne L _ (by rw [List.length_map]; omega) (fun i hi hi' => ?_)
        rw [List.getElem_map]
        exact h3 f fa B i hi (by simpa using hi')

set_option maxRecDepth 100000 in
theorem rd_fuel {H : Type} {enc : TypeId × Value → H} {W : World} {base : Nat} {sp : Nat → Bool} {held : Bool} (fuel : Nat) (v : Value) (x : DataW H × List MemPlace)
    (h : DataW.trod enc Tryd.prog W base sp held fuel 30 [v] = some x) :
    ∃ xs : List (List UInt8), Rd W v xs ∧ xs.length ≤ 9223372036854775807 ∧ ((∀ n ∈ x.1.weights Tryd.prog 30, n ≤ reachBytes) → ∀ y ∈ xs, y.length ≤ reachBytes) ∧ ∀ (f : DataW H → Nat) (fa : List (DataW H) → Nat), Bulk f fa → lnTot xs ≤ f x.1 := by
  rcases DataW.trod_slice Tryd.underlying30 h with ⟨hcs, hx⟩ | ⟨a, len, cap, elems, rest, n, hn, hcs, hx, hbase, hl, hm, hlen, hel, _, _⟩
  · simp at hcs
    subst hcs
    exact ⟨[], ⟨none, 0, rfl, Nat.le_refl _, Or.inl rfl⟩, by simp, fun _ y hy => (by cases hy), fun f fa B => by rw [lnTot]; omega⟩
  · simp at hcs
    subst hcs
    have hsp : 0 < len → a.spot = none := by
      intro h0
      have hi2 := hel 0 h0
      have hil : 0 < elems.length := by omega
      rw [List.getElem?_eq_getElem hil] at hi2
      obtain ⟨cs', hc1, hc2⟩ := Option.bind_eq_some_iff.1 hi2
      rw [cellsStr] at hc1
      obtain ⟨_, hcl, hcell⟩ := World.cells?_some hc1
      match cs', hcl with
      | [c0], _ =>
        have e0 := hcell 0 (by omega)
        simpa [Addr.add] using World.cell?_spot e0
    have each : ∀ i, i < len → ∃ y : List UInt8, a.spot = none ∧ a.block < W.heap.size ∧ W.cell? ⟨a.block, a.off + i, none⟩ = some (.string (S y)) ∧ ((∀ n ∈ x.1.weights Tryd.prog 30, n ≤ reachBytes) → y.length ≤ reachBytes) ∧ (∀ (f : DataW H → Nat) (fa : List (DataW H) → Nat), Bulk f fa → ∀ hi : i < elems.length, 1 + y.length ≤ f (elems[i]).1) := by
      intro i hi
      have hi2 := hel i hi
      have hil : i < elems.length := by omega
      rw [List.getElem?_eq_getElem hil] at hi2
      obtain ⟨cs', hc1, hc2⟩ := Option.bind_eq_some_iff.1 hi2
      rw [cellsStr] at hc1
      have hblk := World.cells?_block hc1 (by omega)
      obtain ⟨_, hcl, hcell⟩ := World.cells?_some hc1
      match cs', hcl with
      | [c0], _ =>
        have e0 := hcell 0 (by omega)
        obtain ⟨b, off, spot⟩ := a
        have hspot : spot = none := hsp (by omega)
        subst hspot
        rw [Go.Deep.add_add, add_plain] at e0
        rw [add_plain] at hblk
        simp at e0
        obtain ⟨s, q0, hy0, _⟩ := DataW.trod_string Tryd.underlying9 hc2
        simp at q0
        subst q0
        refine ⟨s.data.toList, rfl, hblk, by rw [S_of]; exact e0, fun hw => ?_, fun f fa B hi' => by rw [hy0]; have h1 := B.str s.data.toList; have h2 := B.strp s.data.toList; simp only at h1 h2 ⊢; omega⟩
        have hmem : (elems[i]).1 ∈ elems.map (·.1) := List.mem_map.2 ⟨_, List.getElem_mem hil, rfl⟩
        refine hw _ ?_
        rw [hx]
        simp only [DataW.weights, Tryd.underlying30, List.mem_cons, List.mem_append]
        refine Or.inr (Or.inl (mem_all ?_ hmem))
        rw [hy0]
        simp [DataW.weights]
    have build : ∀ m, m ≤ len → ∃ L : List (List UInt8), L.length = m ∧ (∀ i (hi : i < L.length), W.cell? ⟨a.block, a.off + i, none⟩ = some (.string (S L[i]))) ∧ ((∀ n ∈ x.1.weights Tryd.prog 30, n ≤ reachBytes) → ∀ y ∈ L, y.length ≤ reachBytes) ∧ (∀ (f : DataW H → Nat) (fa : List (DataW H) → Nat), Bulk f fa → ∀ i (hi : i < L.length) (hi' : i < elems.length), 1 + (L[i]).length ≤ f (elems[i]).1) := by
      intro m
      induction m with
      | zero => exact fun _ => ⟨[], rfl, fun i hi => absurd hi (Nat.not_lt_zero _), fun _ y hy => (by cases hy), fun _ _ _ i hi => absurd hi (Nat.not_lt_zero _)⟩
      | succ m ihm =>
        intro hm'
        obtain ⟨L, hL, h1, h2, h3⟩ := ihm (by omega)
        obtain ⟨y, _, _, hy, hyf, hyb⟩ := each m (by omega)
        refine ⟨L ++ [y], by simp [hL], fun i hi => ?_, fun hw z hz => ?_, fun f fa B i hi hi' => ?_⟩
        · by_cases him : i < L.length
          · rw [List.getElem_append_left him]; exact h1 i him
          · have : i = L.length := by simp at hi; omega
            subst this
            rw [List.getElem_append_right (Nat.le_refl _)]
            simpa [hL] using hy
        · rcases List.mem_append.1 hz with hz | hz
          · exact h2 hw z hz
          · rw [List.mem_singleton.1 hz]; exact hyf hw
        · by_cases him : i < L.length
          · have := h3 f fa B i him hi'
            rw [List.getElem_append_left him]
            exact this
          · have : i = L.length := by simp at hi; omega
            subst this
            rw [List.getElem_append_right (Nat.le_refl _)]
            have hh := hyb f fa B (by omega)
            simp only [← hL] at hh
            simpa using hh
    obtain ⟨L, hL, h1, h2, h3⟩ := build len (Nat.le_refl _)
    unfold maxLen at hm
    refine ⟨L, ⟨some a, cap, by rw [hL], by omega, ?_⟩, by omega, h2, fun f fa B => ?_⟩
    rotate_left
    · rw [hx]
      refine Nat.le_trans ?_ (B.slice _ _)
      rw [ln_sum]
      rw [B.one]
      refine sum_le _ _ (by simp; omega) (fun i hi hi' => ?_)
      simp only [List.getElem_map]
      exact h3 f fa B i (by simpa using hi) (by simpa using hi')
    by_cases h0 : len = 0
    · exact Or.inl (List.eq_nil_of_length_eq_zero (by omega))
    · obtain ⟨_, hsp0, hlt, _, _, _⟩ := each 0 (by omega)
      obtain ⟨b, off, spot⟩ := a
      simp only at hsp0
      subst hsp0
      refine Or.inr ⟨b, off, rfl, hlt, fun j y hj => ?_⟩
      obtain ⟨hjl, rfl⟩ := List.getElem?_eq_some_iff.1 hj
      exact h1 j hjl

set_option maxRecDepth 100000 in
theorem open_fuel {H : Type} {enc : TypeId × Value → H} {W : World} {base : Nat} {sp : Nat → Bool} {held : Bool} (fuel : Nat) : ∀ (v : Value) (x : DataW H × List MemPlace),
    DataW.trod enc Tryd.prog W base sp held fuel 22 [v] = some x → ∃ l : List Bk, TrB W v l ∧ ((∀ n ∈ x.1.weights Tryd.prog 22, n ≤ reachBytes) → fitAll reachBytes l) ∧ ∀ (f : DataW H → Nat) (fa : List (DataW H) → Nat), Bulk f fa → ttAll l ≤ f x.1 := by
  induction fuel using Nat.strongRecOn with
  | ind fuel ih =>
    intro v x h
    rcases DataW.trod_slice Tryd.underlying22 h with ⟨hcs, hx⟩ | ⟨a, len, cap, elems, rest, n, hn, hcs, hx, hbase, hl, hm, hlen, hel, _, _⟩
    · simp at hcs
      subst hcs
      exact ⟨[], ⟨none, 0, rfl, ⟨Nat.le_refl _, by omega⟩, Or.inl rfl⟩, fun _ => by unfold fitAll; trivial, fun f fa B => by rw [ttAll]; omega⟩
    · simp at hcs
      subst hcs
      have hsp : 0 < len → a.spot = none := by
        intro h0
        have hi2 := hel 0 h0
        have hil : 0 < elems.length := by omega
        rw [List.getElem?_eq_getElem hil] at hi2
        obtain ⟨cs', hc1, hc2⟩ := Option.bind_eq_some_iff.1 hi2
        rw [cellsBk] at hc1
        obtain ⟨_, hcl, hcell⟩ := World.cells?_some hc1
        match cs', hcl with
        | [c0, c1, c2, c3, c4, c5], _ =>
          have e0 := hcell 0 (by omega)
          simpa [Addr.add] using World.cell?_spot e0
      have each : ∀ i, i < len → ∃ (y : Bk), trOne W a.block (a.off + i * 6) y ∧ a.spot = none ∧ a.block < W.heap.size ∧ ((∀ n ∈ x.1.weights Tryd.prog 22, n ≤ reachBytes) → fitOne reachBytes y) ∧ (∀ (f : DataW H → Nat) (fa : List (DataW H) → Nat), Bulk f fa → ∀ hi : i < elems.length, ttOne y ≤ f (elems[i]).1) := by
        intro i hi
        have hi2 := hel i hi
        have hil : i < elems.length := by omega
        rw [List.getElem?_eq_getElem hil] at hi2
        obtain ⟨cs', hc1, hc2⟩ := Option.bind_eq_some_iff.1 hi2
        rw [cellsBk] at hc1
        have hblk := World.cells?_block hc1 (by omega)
        obtain ⟨_, hcl, hcell⟩ := World.cells?_some hc1
        obtain ⟨ys, k, hk, hxy, _, hyl, hf⟩ := DataW.trod_struct Tryd.underlying33 hc2
        match ys, hyl, cs', hcl with
        | [y0, y1, y2, y3, y4, y5], _, [c0, c1, c2, c3, c4, c5], _ =>
          have g0 := hf 0 _ rfl
          have g1 := hf 1 _ rfl
          have g2 := hf 2 _ rfl
          have g3 := hf 3 _ rfl
          have g4 := hf 4 _ rfl
          have g5 := hf 5 _ rfl
          simp [cellsInt, cellsStr, cellsStrs, cellsSps, cellsBks] at g0 g1 g2 g3 g4 g5
          have e0 := hcell 0 (by omega)
          have e1 := hcell 1 (by omega)
          have e2 := hcell 2 (by omega)
          have e3 := hcell 3 (by omega)
          have e4 := hcell 4 (by omega)
          have e5 := hcell 5 (by omega)
          obtain ⟨b, off, spot⟩ := a
          have hspot : spot = none := hsp (by omega)
          subst hspot
          rw [Go.Deep.add_add, add_plain] at e0 e1 e2 e3 e4 e5
          rw [add_plain] at hblk
          simp at e0 e1 e2 e3 e4 e5
          obtain ⟨z, q0, hy0, hz⟩ := DataW.trod_int Tryd.underlying3 g0
          simp at q0
          subst q0
          obtain ⟨z1, q1, hy1, hz1⟩ := DataW.trod_int Tryd.underlying3 g1
          simp at q1
          subst q1
          obtain ⟨s, q2, hy2, _⟩ := DataW.trod_string Tryd.underlying9 g2
          simp at q2
          subst q2
          obtain ⟨xs, hrd, hxl, hxf, hxb⟩ := rd_fuel k c3 y3 g3
          obtain ⟨sl, hst, hsf, hsb⟩ := sp_fuel k c4 y4 g4
          obtain ⟨l, ht, hfit, hbk⟩ := ih k (by omega) c5 y5 g5
          have ht' := ht
          obtain ⟨ao, ck, rfl, hck, htr⟩ := ht'
          refine ⟨.mk z z1 s.data.toList xs sl l, ?_, rfl, hblk, fun hw => ?_, fun f fa B hi' => ?_⟩
          · unfold trOne
            exact ⟨e0, by rw [Nat.add_assoc]; exact e1, by rw [S_of, Nat.add_assoc]; exact e2, ⟨c3, by rw [Nat.add_assoc]; exact e3, hrd, hxl⟩, ⟨c4, by rw [Nat.add_assoc]; exact e4, hst⟩, ao, ck, by rw [Nat.add_assoc]; exact e5, hck, htr⟩
          · have hmem : (elems[i]).1 ∈ elems.map (·.1) := List.mem_map.2 ⟨_, List.getElem_mem hil, rfl⟩
            have hall : ∀ m ∈ (elems[i]).1.weights Tryd.prog 33, m ≤ reachBytes := fun m hm' => hw m (by
              rw [hx]
              simp only [DataW.weights, Tryd.underlying22, List.mem_cons, List.mem_append]
              exact Or.inr (Or.inl (mem_all hm' hmem)))
            rw [hxy] at hall
            simp only [DataW.weights, Tryd.underlying33, List.map_cons, List.map_nil, DataW.weightsEach, List.mem_append] at hall
            have hz' : -9223372036854775808 ≤ z ∧ z ≤ 9223372036854775807 := by simpa [Lit.wf, IntKind.min, IntKind.max, IntKind.signed, IntKind.bits] using hz
            have hz1' : -9223372036854775808 ≤ z1 ∧ z1 ≤ 9223372036854775807 := by simpa [Lit.wf, IntKind.min, IntKind.max, IntKind.signed, IntKind.bits] using hz1
            rw [fitOne]
            refine ⟨hz', hz1', ?_, hxf (fun m hm' => hall m ?_), hsf (fun m hm' => hall m ?_), hfit (fun m hm' => hall m ?_)⟩
            · refine hall _ ?_
              rw [hy2]
              simp [DataW.weights]
            · simp [hm']
            · simp [hm']
            · simp [hm']
          · rw [hxy]
            have h1 := B.agg (List.map (·.1) [y0, y1, y2, y3, y4, y5])
            simp only [List.map_cons, List.map_nil, B.cons] at h1
            have h2 := hbk f fa B
            have h3 := B.str s.data.toList
            have h4 := hxb f fa B
            have h5 := hsb f fa B
            rw [hy2] at h1
            rw [ttOne]
            simp only [List.map_cons, List.map_nil]
            rw [hy2]
            dsimp only at h1 ⊢
            omega
      have build : ∀ m, m ≤ len → ∃ L : List Bk, L.length = m ∧ (∀ i (hi : i < L.length), trOne W a.block (a.off + i * 6) L[i]) ∧ (∀ i (hi : i < L.length), (∀ n ∈ x.1.weights Tryd.prog 22, n ≤ reachBytes) → fitOne reachBytes L[i]) ∧ (∀ (f : DataW H → Nat) (fa : List (DataW H) → Nat), Bulk f fa → ∀ i (hi : i < L.length) (hi' : i < elems.length), ttOne L[i] ≤ f (elems[i]).1) := by
        intro m
        induction m with
        | zero => exact fun _ => ⟨[], rfl, fun i hi => absurd hi (Nat.not_lt_zero _), fun i hi => absurd hi (Nat.not_lt_zero _), fun _ _ _ i hi => absurd hi (Nat.not_lt_zero _)⟩
        | succ m ihm =>
          intro hm'
          obtain ⟨L, hL, h1, h2, h3⟩ := ihm (by omega)
          obtain ⟨y, hy, _, _, hyf, hyb⟩ := each m (by omega)
          refine ⟨L ++ [y], by simp [hL], fun i hi => ?_, fun i hi hw => ?_, fun f fa B i hi hi' => ?_⟩
          · by_cases him : i < L.length
            · rw [List.getElem_append_left him]; exact h1 i him
            · have : i = L.length := by simp at hi; omega
              subst this
              rw [List.getElem_append_right (Nat.le_refl _)]
              simpa [hL] using hy
          · by_cases him : i < L.length
            · rw [List.getElem_append_left him]; exact h2 i him hw
            · have : i = L.length := by simp at hi; omega
              subst this
              rw [List.getElem_append_right (Nat.le_refl _)]
              simpa using hyf hw
          · by_cases him : i < L.length
            · have := h3 f fa B i him hi'
              rw [List.getElem_append_left him]
              exact this
            · have : i = L.length := by simp at hi; omega
              subst this
              rw [List.getElem_append_right (Nat.le_refl _)]
              have hh := hyb f fa B (by omega)
              simp only [← hL] at hh
              simpa using hh
      obtain ⟨L, hL, h1, h2, h3⟩ := build len (Nat.le_refl _)
      refine ⟨L, ⟨some a, cap, by rw [hL], ⟨by omega, by unfold maxLen at hm; omega⟩, ?_⟩, fun hw => fitAll_of (fun y hy => ?_), fun f fa B => ?_⟩
      · by_cases h0 : len = 0
        · exact Or.inl (List.eq_nil_of_length_eq_zero (by omega))
        · obtain ⟨_, _, hsp0, hlt, _, _⟩ := each 0 (by omega)
          obtain ⟨b, off, spot⟩ := a
          simp only at hsp0
          subst hsp0
          exact Or.inr ⟨b, off, rfl, hlt, trAll_of L off h1⟩
      · obtain ⟨i, hi, rfl⟩ := List.getElem_of_mem hy
        exact h2 i hi hw
      · rw [hx]
        refine Nat.le_trans ?_ (B.slice _ _)
        rw [tt_sum, B.one]
        refine sum_le _ _ (by simp; omega) (fun i hi hi' => ?_)
        simp only [List.getElem_map]
        exact h3 f fa B i (by simpa using hi) (by simpa using hi')

end Go.Proofs.YtldllbmbcnipoaaDoor.Bt
