/-
  ROWS OF SPANS that a call makes: append of a slice of spans of whatever address; what is appended reads as both.
-/
import Derived.Test.YtldllbmbcnipoaaDoorPkNI
import Derived.Test.YtldllbmbcnipoaaDoorPkNC
namespace Go.Proofs.YtldllbmbcnipoaaDoor.Sp
open Go.RowKit
open Go.Proofs.YtldllbmbcnipoaaDoor.Tk (S S_of S_list S_size S_toList S_app ret_int)
open Go.Proofs.YtldllbmbcnipoaaDoor.Cm (calls_at Rk Rk.of_own flat_get)
set_option linter.unusedVariables false

theorem infoSp : (Tryd.prog.info? 61).map (fun i => (i.zero, i.size, i.bytes)) = some (some (.agg #[.int .i64 0, .string ⟨#[]⟩, .slice none 0 0]), 3, 48) := by kernel_rfl
/-- A span and the value of its kids, as they lie. -/
def encT (p : Sp × Value) : List Value := [.int .i64 p.1.kind, .string (S p.1.s), p.2]
theorem encT_len (p : Sp × Value) : (encT p).length = 3 := rfl
theorem flat_len : ∀ ps : List (Sp × Value), (ps.flatMap encT).length = ps.length * 3
  | [] => rfl
  | p :: r => by rw [List.flatMap_cons, List.length_append, flat_len r, encT_len, List.length_cons]; omega
theorem trAll_pairs {w : World} {b : Nat} : ∀ (l : List Sp) (o : Nat), trAll w b o l → ∃ ps : List (Sp × Value), ps.map (·.1) = l ∧ (∀ j p, ps[j]? = some p → ∀ q u, (encT p)[q]? = some u → w.cell? ⟨b, o + j * 3 + q, none⟩ = some u) ∧ ∀ p ∈ ps, Tr w p.2 p.1.kids
  | [], o, _ => ⟨[], rfl, fun j p h => by simp at h, fun p h => by cases h⟩
  | x :: r, o, h => by
    unfold trAll at h
    obtain ⟨ps, h1, h2, h3⟩ := trAll_pairs r (o + 3) h.2
    obtain ⟨ak, ck, hc⟩ := trOne_cells h.1
    refine ⟨(x, .slice ak x.kids.length ck) :: ps, by simp [h1], fun j p hj q u hq => ?_, fun p hp => ?_⟩
    · match j, hj with
      | 0, hj =>
        simp only [List.getElem?_cons_zero, Option.some.injEq] at hj
        subst hj
        match q, hq with
        | 0, hq => simp [encT] at hq; subst hq; simpa using hc.kind
        | 1, hq => simp [encT] at hq; subst hq; simpa using hc.s
        | 2, hq => simp [encT] at hq; subst hq; simpa using hc.kids
        | q + 3, hq => simp [encT] at hq
      | j + 1, hj =>
        have := h2 j p (by simpa using hj) q u hq
        rw [show o + (j + 1) * 3 + q = o + 3 + j * 3 + q by omega]
        exact this
    · rcases List.mem_cons.1 hp with rfl | hp
      · exact hc.tr
      · exact h3 p hp
theorem Tr.pairs {w : World} {v : Value} {l : List Sp} (h : Tr w v l) : ∃ ps : List (Sp × Value), ps.map (·.1) = l ∧ Rk 3 encT w v ps ∧ ∀ p ∈ ps, Tr w p.2 p.1.kids := by
  obtain ⟨ao, cap, rfl, hc, hx⟩ := h
  rcases hx with rfl | ⟨b, o, rfl, hb, hx⟩
  · exact ⟨[], rfl, ⟨ao, cap, rfl, hc.1, Or.inl rfl⟩, fun p h => by cases h⟩
  · obtain ⟨ps, h1, h2, h3⟩ := trAll_pairs l o hx
    have hl : ps.length = l.length := by rw [← h1, List.length_map]
    exact ⟨ps, h1, ⟨some ⟨b, o, none⟩, cap, by rw [hl], by omega, Or.inr ⟨b, o, rfl, hb, h2⟩⟩, h3⟩
theorem Tr.of_own {w : World} {B : Nat} {e : TypeId} {v : Value} {ps : List (Sp × Value)} (h : w.ownsRow B e 3 v ps.length (ps.flatMap encT)) (hk : ∀ p ∈ ps, Tr w p.2 p.1.kids) : Tr w v (ps.map (·.1)) := by
  have hr := Rk.of_own encT_len h
  rcases h.2 with ⟨hv, hn⟩ | ⟨g, cap, cur, hv, hB, hg, hn, hm, hsz, ht⟩
  · have : ps = [] := List.eq_nil_of_length_eq_zero hn
    subst this
    exact ⟨none, 0, hv, ⟨Nat.le_refl _, by omega⟩, Or.inl rfl⟩
  · obtain ⟨ao, cap', hv', hc', hx⟩ := hr
    rw [hv] at hv'
    simp only [Value.slice.injEq] at hv'
    obtain ⟨rfl, _, rfl⟩ := hv'
    refine ⟨some ⟨g, 0, none⟩, cap, by rw [hv, List.length_map], ⟨by rw [List.length_map]; exact hn, by unfold maxLen at hm; omega⟩, ?_⟩
    rcases hx with hx | ⟨b, o, hbo, hlt, hcell⟩
    · exact Or.inl (by rw [hx]; rfl)
    · simp only [Option.some.injEq, Addr.mk.injEq, and_true] at hbo
      obtain ⟨rfl, rfl⟩ := hbo
      refine Or.inr ⟨g, 0, rfl, hlt, trAll_of _ _ (fun i hi => ?_)⟩
      have hil : i < ps.length := by simpa using hi
      have hc := hcell i ps[i] (List.getElem?_eq_getElem hil)
      have htr := hk ps[i] (List.getElem_mem hil)
      obtain ⟨ak, ck, hkv⟩ := htr.len
      rw [List.getElem_map]
      refine trOne_of (ao := ak) (cap := ck) ⟨hc 0 _ rfl, hc 1 _ rfl, ?_, by rw [← hkv]; exact htr⟩
      rw [← hkv]
      exact hc 2 _ rfl

theorem run_append_emptyT {w : World} {B : Nat} {v : Value} {n : Nat} {xs : List Value} {i0 : TypeInfo} (hi : Tryd.prog.info? 61 = some i0) (h : w.ownsRow B 61 3 v n xs) (ty : TypeId) (ao : Option Addr) (c : Nat) :
    (Builtin.append_ #[31, 31] ty #[v, .slice ao 0 c]).run Tryd.prog w = .ok v w := by
  rcases h.2 with ⟨rfl, rfl⟩ | ⟨g, cap, cur, rfl, _, _, hnc, _⟩
  · cases ao <;> simp [Builtin.append_, run_underlying Tryd.underlying31, sizeOf, typeInfo, hi, Builtin.lenOf, Builtin.firstCells, loadCells, loadCellsFrom]
  · cases ao <;> simp [Builtin.append_, run_underlying Tryd.underlying31, sizeOf, typeInfo, hi, Builtin.lenOf, Builtin.firstCells, hnc, storeCells, loadCells, loadCellsFrom]
theorem encT_one {w : World} {ps : List (Sp × Value)} (hk : ∀ p ∈ ps, Tr w p.2 p.1.kids) : ∀ u ∈ ps.flatMap encT, u.oneCell' = true := by
  intro u hu
  obtain ⟨p, hp, hu⟩ := List.mem_flatMap.1 hu
  obtain ⟨ak, ck, hv⟩ := (hk p hp).len
  simp [encT] at hu
  rcases hu with rfl | rfl | rfl
  · rfl
  · rfl
  · rw [hv]; rfl
theorem flat_at : ∀ (ps : List (Sp × Value)) (j : Nat) (u : Value), (ps.flatMap encT)[j]? = some u → ∃ p, ps[j / 3]? = some p ∧ (encT p)[j % 3]? = some u
  | [], j, u, h => by simp at h
  | p :: r, j, u, h => by
    rw [List.flatMap_cons, List.getElem?_append] at h
    by_cases hj : j < (encT p).length
    · rw [if_pos hj] at h
      rw [encT_len] at hj
      exact ⟨p, by rw [show j / 3 = 0 by omega]; rfl, by rw [show j % 3 = j by omega]; exact h⟩
    · rw [if_neg hj, encT_len] at h
      rw [encT_len] at hj
      obtain ⟨p', h1, h2⟩ := flat_at r (j - 3) u h
      refine ⟨p', ?_, by rw [show j % 3 = (j - 3) % 3 by omega]; exact h2⟩
      rw [show j / 3 = (j - 3) / 3 + 1 by omega]
      simpa using h1
/-- append(v, u...), u of whatever address: its run. -/
theorem run_append_sp {w : World} {B : Nat} {v u : Value} {os ys : List (Sp × Value)} (h : w.ownsRow B 61 3 v os.length (os.flatMap encT)) (hu : Rk 3 encT w u ys) (hk : ∀ p ∈ ys, Tr w p.2 p.1.kids) (hB : B ≤ w.heap.size) (hs : os.length + ys.length ≤ 1000000) :
    ∃ v' w', (∀ ty, (Builtin.append_ #[31, 31] ty #[v, u]).run Tryd.prog w = .ok v' w') ∧ w'.ownsRow B 61 3 v' (os ++ ys).length ((os ++ ys).flatMap encT) ∧ w.grownBy w' v.ownBlock := by
  obtain ⟨i0, hi, hz0, hz1, hz2⟩ := info_parts infoSp
  obtain ⟨ao, c, rfl, hc, hx⟩ := hu
  by_cases h0 : ys = []
  · subst h0
    refine ⟨v, w, fun ty => run_append_emptyT hi h ty ao c, by rw [List.append_nil]; exact h, ⟨rfl, rfl, rfl, Nat.le_refl _, fun k _ _ => rfl⟩⟩
  · rcases hx with hx | ⟨b, o, rfl, hlt, hcell⟩
    · exact absurd hx h0
    have hcells : ∀ j u, (ys.flatMap encT)[j]? = some u → w.cell? (Addr.add ⟨b, o, none⟩ j) = some u := fun j u hj => by
      obtain ⟨p, h1, h2⟩ := flat_at ys j u hj
      have := hcell (j / 3) p h1 (j % 3) u h2
      rw [show (Addr.add ⟨b, o, none⟩ j) = ⟨b, o + j, none⟩ by simp [Addr.add], show o + j = o + j / 3 * 3 + j % 3 by omega]
      exact this
    obtain ⟨v', w', h1, h2, h3, _⟩ := run_append_own (P := Tryd.prog) w B 31 0 61 i0 (.agg #[.int .i64 0, .string ⟨#[]⟩, .slice none 0 0]) 3 48 Tryd.underlying31 hi hz0 hz1 hz2 rfl (by decide) v os.length (os.flatMap encT) h ⟨b, o, none⟩ ys.length c (ys.flatMap encT) (flat_len ys) hcells (encT_one hk) (by unfold maxLen; omega) (by omega) hB
    refine ⟨v', w', fun ty => h1, ?_, h3⟩
    rw [List.length_append, List.flatMap_append]
    exact h2

end Go.Proofs.YtldllbmbcnipoaaDoor.Sp
