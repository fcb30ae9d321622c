/-
  A ROW OF BLOCKS that a statement makes: append as a step of a region that draws.
-/
import Derived.Test.YtldllbmbcnipoaaDoorBtRow
import Derived.Test.YtldllbmbcnipoaaDoorPkNN
import Derived.Test.YtldllbmbcnipoaaDoorPkNC
import Derived.Test.YtldllbmbcnipoaaDoorPkNO
namespace Go.Proofs.YtldllbmbcnipoaaDoor.Nm
open Go.RowKit
open Go.Proofs.YtldllbmbcnipoaaDoor.Tk (S S_of S_list S_size S_toList S_app ret_int)
open Go.Proofs.YtldllbmbcnipoaaDoor.Cm (calls_at Rk Rk.of_own flat_get Keep own_keep Keep.of_below cell_at alloc_new alloc_at lt_of_at step_append_run)
open Go.Proofs.YtldllbmbcnipoaaDoor.Bt (TrB encT KB run_append_bk)
open Go.Proofs.YtldllbmbcnipoaaDoor.Bk (Bk)
set_option linter.unusedVariables false

/-- A row of the statement's own, above the world w0. -/
structure AccB (w0 w : World) (v : Value) (ps : List (Bk × Value × Value × Value)) : Prop where
  bel : Below w0.heap.size w0 w
  own : w.ownsRow w0.heap.size 33 6 v ps.length (ps.flatMap encT)
theorem bel_a {w0 w : World} (h : Below w0.heap.size w0 w) (o : Obj) : Below w0.heap.size w0 (w.alloc o) := h.alloc h.size o
theorem bel_d {w0 w : World} (h : Below w0.heap.size w0 w) : Below w0.heap.size w0 w.drew := h.drew
theorem AccB.go {w0 w w' : World} {v : Value} {ps : List (Bk × Value × Value × Value)} (h : AccB w0 w v ps) (hb : Below w.heap.size w w') : AccB w0 w' v ps :=
  ⟨h.bel.trans (hb.mono h.bel.size), own_keep h.own (Keep.of_below (S := fun _ => False) hb) (fun _ _ h => h)⟩
theorem AccB.alloc {w0 w : World} {v : Value} {ps : List (Bk × Value × Value × Value)} (h : AccB w0 w v ps) (o : Obj) : AccB w0 (w.alloc o) v ps := h.go ((Below.refl _ _).alloc (Nat.le_refl _) _)
theorem AccB.drew {w0 w : World} {v : Value} {ps : List (Bk × Value × Value × Value)} (h : AccB w0 w v ps) : AccB w0 w.drew v ps := h.go (Below.refl _ _).drew
theorem AccB.lit {w0 w : World} (hb : Below w0.heap.size w0 w) : AccB w0 (w.alloc (.cells #[] 33)) (.slice (some ⟨w.heap.size, 0, none⟩) 0 0) [] :=
  ⟨bel_a hb _, World.ownsRow_lit w #[] 0 hb.size (Nat.zero_le _) rfl⟩
theorem AccB.lit2 {w0 w : World} (hb : Below w0.heap.size w0 w) (o : Obj) : AccB w0 ((w.alloc o).alloc (.cells #[] 33)) (.slice (some ⟨w.heap.size + 1, 0, none⟩) 0 0) [] := by
  have h := AccB.lit (bel_a hb o)
  rw [show (w.alloc o).heap.size = w.heap.size + 1 by simp] at h
  exact h
theorem one_rkB {w : World} {g : Nat} {a b c d e f : Value} {t : TypeId} {fr : Nat × Nat} {p : Bk × Value × Value × Value} (h : w.heap[g]? = some (.cells #[a, b, c, d, e, f] t fr)) (he : encT p = [a, b, c, d, e, f]) : Rk 6 encT w (.slice (some ⟨g, 0, none⟩) 1 1) [p] := by
  refine ⟨_, 1, rfl, Nat.le_refl _, Or.inr ⟨g, 0, rfl, lt_of_at h, fun j x hj q u hq => ?_⟩⟩
  match j, hj with
  | 0, hj =>
    simp at hj
    subst hj
    rw [Nat.zero_mul, Nat.zero_add, cell_at h]
    rw [he] at hq
    simpa using hq
theorem own_fresh {P : Program} {w : World} (base : Nat) (t ty e : TypeId) (i : TypeInfo) (z : Value) (size bytes : Nat) (ht : P.underlying t = some (.slice e)) (hi : P.info? e = some i) (hz : i.zero = some z)
    (hsize : i.size = size) (hby : i.bytes = bytes)
    (v : Value) (n : Nat) (xs : List Value) (hown : w.ownsRow base e size v n xs)
    (a : Addr) (m c : Nat) (news : List Value) (hl : news.length = m * size) (hnews : ∀ j u, news[j]? = some u → w.cell? (a.add j) = some u) (h1 : ∀ u ∈ news, u.oneCell' = true)
    (h63 : n + m ≤ maxLen) (hbytes : (n + m) * bytes ≤ 140737488355328) {v' : Value} {w' : World}
    (hrun : (Builtin.append_ #[t, t] ty #[v, .slice (some a) m c]).run P w = .ok v' w') : v'.ownBlock = v.ownBlock ∨ v'.ownBlock = some w.heap.size := by
  subst hsize
  subst hby
  have hsmall : n + m ≤ 9223372036854775807 := by simp only [maxLen] at h63; omega
  rcases hown.2 with ⟨rfl, rfl⟩ | ⟨g, cap, cur, rfl, hbg, hg, hnc, hcm, hcs, htake⟩
  · by_cases hm : m = 0
    · subst hm
      have hn : news = [] := List.eq_nil_of_length_eq_zero (by simpa using hl)
      subst hn
      simp [Builtin.append_, run_underlying ht, sizeOf, typeInfo, hi, Builtin.lenOf, Builtin.firstCells, loadCells, loadCellsFrom] at hrun
      left
      rw [← hrun.1]
    · have hr := run_append_nil (P := P) w t ty e i z ht hi hz a m c news hl hnews (by omega) (by omega) (by have hb := hbytes; simp only [Nat.zero_add] at hb; omega)
      rw [hr] at hrun
      simp only [Result.ok.injEq] at hrun
      right
      rw [← hrun.1]
      rfl
  · by_cases hroom : n + m ≤ cap
    · have hfit : n * i.size + news.length ≤ cur.size := by rw [hl, hcs, ← Nat.add_mul]; exact Nat.mul_le_mul_right _ hroom
      have hr := run_append_room (P := P) w t ty e i ht hi g n cap cur hg a m c news hl hnews h1 hroom hfit
      rw [hr] at hrun
      simp only [Result.ok.injEq] at hrun
      left
      rw [← hrun.1]
      rfl
    · have holds : ∀ j u, xs[j]? = some u → w.cell? ((⟨g, 0, none⟩ : Addr).add j) = some u := hown.cells (g := g) rfl
      have hr := run_append_grow (P := P) w t ty e i z ht hi hz ⟨g, 0, none⟩ n cap xs hown.1 holds a m c news hl hnews (by omega) (by omega) (growslice_fits (by omega) hbytes)
      rw [hr] at hrun
      simp only [Result.ok.injEq] at hrun
      right
      rw [← hrun.1]
      rfl
/-- append(v, u...), u of whatever address: its run, and where the row lies. -/
theorem run_append_bk2 {w : World} {B : Nat} {v u : Value} {os ys : List (Bk × Value × Value × Value)} (h : w.ownsRow B 33 6 v os.length (os.flatMap encT)) (hu : Rk 6 encT w u ys) (hk : ∀ p ∈ ys, KB w p) (hB : B ≤ w.heap.size) (hs : os.length + ys.length ≤ 1000000) :
    ∃ v' w', (∀ ty, (Builtin.append_ #[22, 22] ty #[v, u]).run Tryd.prog w = .ok v' w') ∧ w'.ownsRow B 33 6 v' (os ++ ys).length ((os ++ ys).flatMap encT) ∧ w.grownBy w' v.ownBlock ∧ (v'.ownBlock = v.ownBlock ∨ v'.ownBlock = some w.heap.size) := by
  obtain ⟨i0, hi, hz0, hz1, hz2⟩ := info_parts Bt.infoBk
  obtain ⟨ao, c, rfl, hc, hx⟩ := hu
  by_cases h0 : ys = []
  · subst h0
    refine ⟨v, w, fun ty => Bt.run_append_emptyT hi h ty ao c, by rw [List.append_nil]; exact h, ⟨rfl, rfl, rfl, Nat.le_refl _, fun k _ _ => rfl⟩, Or.inl rfl⟩
  · rcases hx with hx | ⟨b, o, rfl, hlt, hcell⟩
    · exact absurd hx h0
    have hcells : ∀ j u, (ys.flatMap encT)[j]? = some u → w.cell? (Addr.add ⟨b, o, none⟩ j) = some u := fun j u hj => by
      obtain ⟨p, h1, h2⟩ := Bt.flat_at ys j u hj
      have := hcell (j / 6) p h1 (j % 6) u h2
      rw [show (Addr.add ⟨b, o, none⟩ j) = ⟨b, o + j, none⟩ by simp [Addr.add], show o + j = o + j / 6 * 6 + j % 6 by omega]
      exact this
    obtain ⟨v', w', h1, h2, h3, _⟩ := run_append_own (P := Tryd.prog) w B 22 0 33 i0 (.agg #[.int .i64 0, .int .i64 0, .string ⟨#[]⟩, .slice none 0 0, .slice none 0 0, .slice none 0 0]) 6 104 Tryd.underlying22 hi hz0 hz1 hz2 rfl (by decide) v os.length (os.flatMap encT) h ⟨b, o, none⟩ ys.length c (ys.flatMap encT) (Bt.flat_len ys) hcells (Bt.encT_one hk) (by unfold maxLen; omega) (by omega) hB
    have h4 := own_fresh (P := Tryd.prog) (w := w) B 22 0 33 i0 (.agg #[.int .i64 0, .int .i64 0, .string ⟨#[]⟩, .slice none 0 0, .slice none 0 0, .slice none 0 0]) 6 104 Tryd.underlying22 hi hz0 hz1 hz2 v os.length (os.flatMap encT) h ⟨b, o, none⟩ ys.length c (ys.flatMap encT) (Bt.flat_len ys) hcells (Bt.encT_one hk) (by unfold maxLen; omega) (by omega) h1
    refine ⟨v', w', fun ty => h1, ?_, h3, h4⟩
    rw [List.length_append, List.flatMap_append]
    exact h2
theorem step_bk {P : Program} (hP : P = Tryd.prog) {ops : Array Oper} {o : Oper} {a : Act} {w : World} {K : Act → World → Prop} {Q : Exit → Act → World → Prop} {E : Prop} {w0 : World} {vs vx : Value} {os ys : List (Bk × Value × Value × Value)} (hg : o.guard = none) (s x : Operand)
    (hop : o.op = Op.call { callee := Callee.builtin Builtin.append, args := #[s, x], argTypes := #[22, 22] }) (hs : a.eval s = vs) (hx : a.eval x = vx)
    (h : AccB w0 w vs os) (hu : Rk 6 encT w vx ys ∧ ∀ p ∈ ys, KB w p) (hl : os.length + ys.length ≤ 1000000)
    (hK : ∀ v' w', AccB w0 w' v' (os ++ ys) → (∀ k, k < w.heap.size → vs.ownBlock ≠ some k → w'.heap[k]? = w.heap[k]? ∧ v'.ownBlock ≠ some k) → K (a.put o.dst v') w') :
    if Region.wanted o (yielded ops a.tmps) = true then Oper.wp P o a w K Q else E := by
  subst hP
  obtain ⟨v', w', hr, hf, hk, hfr⟩ := run_append_bk2 h.own hu.1 hu.2 h.bel.size (by omega)
  exact step_append_run hg s x _ _ hop _ _ hs hx v' w' hr (hK v' w' ⟨h.bel.grown hk h.bel.size (fun k hk => (h.own.lt k hk).1), hf⟩ (fun k hk1 hs1 => ⟨hk.block k hk1 (fun e => hs1 e.symm), fun e => by
    rcases hfr with hfr | hfr
    · rw [hfr] at e; exact hs1 e
    · rw [hfr] at e; have := Option.some.inj e; omega⟩))
theorem nset6 {w : World} {b : Nat} {v0 v1 v2 v3 v4 v5 u0 u1 u2 u3 u4 u5 : Value} {T : TypeId} {fr : Nat × Nat} (h : w.heap[b]? = some (Obj.cells #[v0, v1, v2, v3, v4, v5] T fr)) :
    ((((((w.setCell ⟨b, 0, none⟩ u0).setCell ⟨b, 1, none⟩ u1).setCell ⟨b, 2, none⟩ u2).setCell ⟨b, 3, none⟩ u3).setCell ⟨b, 4, none⟩ u4).setCell ⟨b, 5, none⟩ u5).heap[b]? = some (Obj.cells #[u0, u1, u2, u3, u4, u5] T fr) :=
  Cm.set_at (Cm.set_at (Cm.set_at (Cm.set_at (Cm.set_at (Cm.set_at h 0 u0) 1 u1) 2 u2) 3 u3) 4 u4) 5 u5
theorem nset6_below {w0 w : World} {B b : Nat} (h : Below B w0 w) (hb : B ≤ b) (u0 u1 u2 u3 u4 u5 : Value) :
    Below B w0 ((((((w.setCell ⟨b, 0, none⟩ u0).setCell ⟨b, 1, none⟩ u1).setCell ⟨b, 2, none⟩ u2).setCell ⟨b, 3, none⟩ u3).setCell ⟨b, 4, none⟩ u4).setCell ⟨b, 5, none⟩ u5) :=
  (((((h.setCell (p := ⟨b, 0, none⟩) hb u0).setCell (p := ⟨b, 1, none⟩) hb u1).setCell (p := ⟨b, 2, none⟩) hb u2).setCell (p := ⟨b, 3, none⟩) hb u3).setCell (p := ⟨b, 4, none⟩) hb u4).setCell (p := ⟨b, 5, none⟩) hb u5
end Go.Proofs.YtldllbmbcnipoaaDoor.Nm
