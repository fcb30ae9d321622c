/-
  ROWS OF BLOCKS that a call makes: append of a slice of blocks of whatever address; what is appended reads as both.
-/
import Derived.Test.YtldllbmbcnipoaaDoorBtTree
import Derived.Test.YtldllbmbcnipoaaDoorSpRow
import Derived.Test.YtldllbmbcnipoaaDoorPkNI
namespace Go.Proofs.YtldllbmbcnipoaaDoor.Bt
open Go.RowKit
open Go.Proofs.YtldllbmbcnipoaaDoor.Tk (S S_of S_list S_size S_toList S_app ret_int Rd)
open Go.Proofs.YtldllbmbcnipoaaDoor.Sp (Sp Tr)
open Go.Proofs.YtldllbmbcnipoaaDoor.Bk (Bk)
open Go.Proofs.YtldllbmbcnipoaaDoor.Cm (calls_at Rk Rk.of_own flat_get)
set_option linter.unusedVariables false

theorem infoBk : (Tryd.prog.info? 33).map (fun i => (i.zero, i.size, i.bytes)) = some (some (.agg #[.int .i64 0, .int .i64 0, .string ⟨#[]⟩, .slice none 0 0, .slice none 0 0, .slice none 0 0]), 6, 104) := by kernel_rfl
/-- A span and the value of its kids, as they lie. -/
def encT (p : Bk × Value × Value × Value) : List Value := [.int .i64 p.1.kind, .int .i64 p.1.level, .string (S p.1.info), p.2.1, p.2.2.1, p.2.2.2]
theorem encT_len (p : Bk × Value × Value × Value) : (encT p).length = 6 := rfl
theorem flat_len : ∀ ps : List (Bk × Value × Value × Value), (ps.flatMap encT).length = ps.length * 6
  | [] => rfl
  | p :: r => by rw [List.flatMap_cons, List.length_append, flat_len r, encT_len, List.length_cons]; omega
/-- What a block's values read as. -/
structure KB (w : World) (p : Bk × Value × Value × Value) : Prop where
  rd : Rd w p.2.1 p.1.lines
  short : p.1.lines.length ≤ 9223372036854775807
  sp : Tr w p.2.2.1 p.1.spans
  tr : TrB w p.2.2.2 p.1.kids
theorem KB.below {w w' : World} {p : Bk × Value × Value × Value} (h : KB w p) (hb : Below w.heap.size w w') : KB w' p := ⟨h.rd.below hb, h.short, h.sp.below hb, h.tr.below hb⟩
theorem trAll_pairs {w : World} {b : Nat} : ∀ (l : List Bk) (o : Nat), trAll w b o l → ∃ ps : List (Bk × Value × Value × Value), ps.map (·.1) = l ∧ (∀ j p, ps[j]? = some p → ∀ q u, (encT p)[q]? = some u → w.cell? ⟨b, o + j * 6 + q, none⟩ = some u) ∧ ∀ p ∈ ps, KB w p
  | [], o, _ => ⟨[], rfl, fun j p h => by simp at h, fun p h => by cases h⟩
  | x :: r, o, h => by
    unfold trAll at h
    obtain ⟨ps, h1, h2, h3⟩ := trAll_pairs r (o + 6) h.2
    obtain ⟨vl, vs, ak, ck, hc⟩ := trOne_cells h.1
    refine ⟨(x, vl, vs, .slice ak x.kids.length ck) :: ps, by simp [h1], fun j p hj q u hq => ?_, fun p hp => ?_⟩
    · match j, hj with
      | 0, hj =>
        simp only [List.getElem?_cons_zero, Option.some.injEq] at hj
        subst hj
        match q, hq with
        | 0, hq => simp [encT] at hq; subst hq; simpa using hc.kind
        | 1, hq => simp [encT] at hq; subst hq; simpa using hc.level
        | 2, hq => simp [encT] at hq; subst hq; simpa using hc.info
        | 3, hq => simp [encT] at hq; subst hq; simpa using hc.lines
        | 4, hq => simp [encT] at hq; subst hq; simpa using hc.spans
        | 5, hq => simp [encT] at hq; subst hq; simpa using hc.kids
        | q + 6, hq => simp [encT] at hq
      | j + 1, hj =>
        have := h2 j p (by simpa using hj) q u hq
        rw [show o + (j + 1) * 6 + q = o + 6 + j * 6 + q by omega]
        exact this
    · rcases List.mem_cons.1 hp with rfl | hp
      · exact ⟨hc.rd, hc.short, hc.sp, hc.tr⟩
      · exact h3 p hp
theorem TrB.pairs {w : World} {v : Value} {l : List Bk} (h : TrB w v l) : ∃ ps : List (Bk × Value × Value × Value), ps.map (·.1) = l ∧ Rk 6 encT w v ps ∧ ∀ p ∈ ps, KB w p := by
  obtain ⟨ao, cap, rfl, hc, hx⟩ := h
  rcases hx with rfl | ⟨b, o, rfl, hb, hx⟩
  · exact ⟨[], rfl, ⟨ao, cap, rfl, hc.1, Or.inl rfl⟩, fun p h => by cases h⟩
  · obtain ⟨ps, h1, h2, h3⟩ := trAll_pairs l o hx
    have hl : ps.length = l.length := by rw [← h1, List.length_map]
    exact ⟨ps, h1, ⟨some ⟨b, o, none⟩, cap, by rw [hl], by omega, Or.inr ⟨b, o, rfl, hb, h2⟩⟩, h3⟩
theorem TrB.of_own {w : World} {B : Nat} {e : TypeId} {v : Value} {ps : List (Bk × Value × Value × Value)} (h : w.ownsRow B e 6 v ps.length (ps.flatMap encT)) (hk : ∀ p ∈ ps, KB w p) : TrB w v (ps.map (·.1)) := by
  have hr := Rk.of_own encT_len h
  rcases h.2 with ⟨hv, hn⟩ | ⟨g, cap, cur, hv, hB, hg, hn, hm, hsz, ht⟩
  · have : ps = [] := List.eq_nil_of_length_eq_zero hn
    subst this
    exact ⟨none, 0, hv, ⟨Nat.le_refl _, by omega⟩, Or.inl rfl⟩
  · obtain ⟨ao, cap', hv', hc', hx⟩ := hr
    rw [hv] at hv'
    simp only [Value.slice.injEq] at hv'
    obtain ⟨rfl, _, rfl⟩ := hv'
    refine ⟨some ⟨g, 0, none⟩, cap, by rw [hv, List.length_map], ⟨by rw [List.length_map]; exact hn, by unfold maxLen at hm; omega⟩, ?_⟩
    rcases hx with hx | ⟨b, o, hbo, hlt, hcell⟩
    · exact Or.inl (by rw [hx]; rfl)
    · simp only [Option.some.injEq, Addr.mk.injEq, and_true] at hbo
      obtain ⟨rfl, rfl⟩ := hbo
      refine Or.inr ⟨g, 0, rfl, hlt, trAll_of _ _ (fun i hi => ?_)⟩
      have hil : i < ps.length := by simpa using hi
      have hc := hcell i ps[i] (List.getElem?_eq_getElem hil)
      have htr := hk ps[i] (List.getElem_mem hil)
      obtain ⟨ak, ck, hkv⟩ := htr.tr.len
      rw [List.getElem_map]
      refine trOne_of (vl := ps[i].2.1) (vs := ps[i].2.2.1) (ao := ak) (cap := ck) ⟨hc 0 _ rfl, hc 1 _ rfl, hc 2 _ rfl, hc 3 _ rfl, hc 4 _ rfl, ?_, htr.rd, htr.short, htr.sp, by rw [← hkv]; exact htr.tr⟩
      rw [← hkv]
      exact hc 5 _ rfl

theorem run_append_emptyT {w : World} {B : Nat} {v : Value} {n : Nat} {xs : List Value} {i0 : TypeInfo} (hi : Tryd.prog.info? 33 = some i0) (h : w.ownsRow B 33 6 v n xs) (ty : TypeId) (ao : Option Addr) (c : Nat) :
    (Builtin.append_ #[22, 22] ty #[v, .slice ao 0 c]).run Tryd.prog w = .ok v w := by
  rcases h.2 with ⟨rfl, rfl⟩ | ⟨g, cap, cur, rfl, _, _, hnc, _⟩
  · cases ao <;> simp [Builtin.append_, run_underlying Tryd.underlying22, sizeOf, typeInfo, hi, Builtin.lenOf, Builtin.firstCells, loadCells, loadCellsFrom]
  · cases ao <;> simp [Builtin.append_, run_underlying Tryd.underlying22, sizeOf, typeInfo, hi, Builtin.lenOf, Builtin.firstCells, hnc, storeCells, loadCells, loadCellsFrom]
theorem encT_one {w : World} {ps : List (Bk × Value × Value × Value)} (hk : ∀ p ∈ ps, KB w p) : ∀ u ∈ ps.flatMap encT, u.oneCell' = true := by
  intro u hu
  obtain ⟨p, hp, hu⟩ := List.mem_flatMap.1 hu
  obtain ⟨ak, ck, hv⟩ := (hk p hp).tr.len
  obtain ⟨al, cl, hv1⟩ := (hk p hp).rd.len
  obtain ⟨as', cs, hv2⟩ := (hk p hp).sp.len
  simp [encT] at hu
  rcases hu with rfl | rfl | rfl | rfl | rfl | rfl
  · rfl
  · rfl
  · rfl
  · rw [hv1]; rfl
  · rw [hv2]; rfl
  · rw [hv]; rfl
theorem flat_at : ∀ (ps : List (Bk × Value × Value × Value)) (j : Nat) (u : Value), (ps.flatMap encT)[j]? = some u → ∃ p, ps[j / 6]? = some p ∧ (encT p)[j % 6]? = some u
  | [], j, u, h => by simp at h
  | p :: r, j, u, h => by
    rw [List.flatMap_cons, List.getElem?_append] at h
    by_cases hj : j < (encT p).length
    · rw [if_pos hj] at h
      rw [encT_len] at hj
      exact ⟨p, by rw [show j / 6 = 0 by omega]; rfl, by rw [show j % 6 = j by omega]; exact h⟩
    · rw [if_neg hj, encT_len] at h
      rw [encT_len] at hj
      obtain ⟨p', h1, h2⟩ := flat_at r (j - 6) u h
      refine ⟨p', ?_, by rw [show j % 6 = (j - 6) % 6 by omega]; exact h2⟩
      rw [show j / 6 = (j - 6) / 6 + 1 by omega]
      simpa using h1
/-- append(v, u...), u of whatever address: its run. -/
theorem run_append_bk {w : World} {B : Nat} {v u : Value} {os ys : List (Bk × Value × Value × Value)} (h : w.ownsRow B 33 6 v os.length (os.flatMap encT)) (hu : Rk 6 encT w u ys) (hk : ∀ p ∈ ys, KB w p) (hB : B ≤ w.heap.size) (hs : os.length + ys.length ≤ 9000000) :
    ∃ v' w', (∀ ty, (Builtin.append_ #[22, 22] ty #[v, u]).run Tryd.prog w = .ok v' w') ∧ w'.ownsRow B 33 6 v' (os ++ ys).length ((os ++ ys).flatMap encT) ∧ w.grownBy w' v.ownBlock := by
  obtain ⟨i0, hi, hz0, hz1, hz2⟩ := info_parts infoBk
  obtain ⟨ao, c, rfl, hc, hx⟩ := hu
  by_cases h0 : ys = []
  · subst h0
    refine ⟨v, w, fun ty => run_append_emptyT hi h ty ao c, by rw [List.append_nil]; exact h, ⟨rfl, rfl, rfl, Nat.le_refl _, fun k _ _ => rfl⟩⟩
  · rcases hx with hx | ⟨b, o, rfl, hlt, hcell⟩
    · exact absurd hx h0
    have hcells : ∀ j u, (ys.flatMap encT)[j]? = some u → w.cell? (Addr.add ⟨b, o, none⟩ j) = some u := fun j u hj => by
      obtain ⟨p, h1, h2⟩ := flat_at ys j u hj
      have := hcell (j / 6) p h1 (j % 6) u h2
      rw [show (Addr.add ⟨b, o, none⟩ j) = ⟨b, o + j, none⟩ by simp [Addr.add], show o + j = o + j / 6 * 6 + j % 6 by omega]
      exact this
    obtain ⟨v', w', h1, h2, h3, _⟩ := run_append_own (P := Tryd.prog) w B 22 0 33 i0 (.agg #[.int .i64 0, .int .i64 0, .string ⟨#[]⟩, .slice none 0 0, .slice none 0 0, .slice none 0 0]) 6 104 Tryd.underlying22 hi hz0 hz1 hz2 rfl (by decide) v os.length (os.flatMap encT) h ⟨b, o, none⟩ ys.length c (ys.flatMap encT) (flat_len ys) hcells (encT_one hk) (by unfold maxLen; omega) (by omega) hB
    refine ⟨v', w', fun ty => h1, ?_, h3⟩
    rw [List.length_append, List.flatMap_append]
    exact h2

end Go.Proofs.YtldllbmbcnipoaaDoor.Bt
