/-
  COMMON WORDS: four rows of numbers of the call's own, side by side, appended to one by one. No function of the program is named.
-/
import Derived.Test.YtbfclmhcoelplaaCmKeep
import Derived.Test.YtbfclmhcoelplaaCmSlice
import Derived.Maps.AppendAt
import Derived.Lib.AppendZeros
namespace Go.Proofs.Ytbfclmhcoelplaa.Cm
open Go.RowKit
set_option linter.unusedVariables false

structure Four (w0 w : World) (v1 v2 v3 v4 : Value) (l1 l2 l3 l4 : List Int) : Prop where
  o1 : w.ownsRow w0.heap.size 3 1 v1 l1.length (l1.map (Value.int .i64))
  o2 : w.ownsRow w0.heap.size 3 1 v2 l2.length (l2.map (Value.int .i64))
  o3 : w.ownsRow w0.heap.size 3 1 v3 l3.length (l3.map (Value.int .i64))
  o4 : w.ownsRow w0.heap.size 3 1 v4 l4.length (l4.map (Value.int .i64))
  d12 : ∀ g, v1.ownBlock = some g → v2.ownBlock ≠ some g
  d13 : ∀ g, v1.ownBlock = some g → v3.ownBlock ≠ some g
  d14 : ∀ g, v1.ownBlock = some g → v4.ownBlock ≠ some g
  d23 : ∀ g, v2.ownBlock = some g → v3.ownBlock ≠ some g
  d24 : ∀ g, v2.ownBlock = some g → v4.ownBlock ≠ some g
  d34 : ∀ g, v3.ownBlock = some g → v4.ownBlock ≠ some g
  bel : Below w0.heap.size w0 w
section
variable {w0 w : World} {v1 v2 v3 v4 : Value} {l1 l2 l3 l4 : List Int}
theorem Four.s12 (h : Four w0 w v1 v2 v3 v4 l1 l2 l3 l4) : Four w0 w v2 v1 v3 v4 l2 l1 l3 l4 :=
  ⟨h.o2, h.o1, h.o3, h.o4, fun g a b => h.d12 g b a, h.d23, h.d24, h.d13, h.d14, h.d34, h.bel⟩
theorem Four.s13 (h : Four w0 w v1 v2 v3 v4 l1 l2 l3 l4) : Four w0 w v3 v2 v1 v4 l3 l2 l1 l4 :=
  ⟨h.o3, h.o2, h.o1, h.o4, fun g a b => h.d23 g b a, fun g a b => h.d13 g b a, h.d34, fun g a b => h.d12 g b a, h.d24, h.d14, h.bel⟩
theorem Four.s14 (h : Four w0 w v1 v2 v3 v4 l1 l2 l3 l4) : Four w0 w v4 v2 v3 v1 l4 l2 l3 l1 :=
  ⟨h.o4, h.o2, h.o3, h.o1, fun g a b => h.d24 g b a, fun g a b => h.d34 g b a, fun g a b => h.d14 g b a, h.d23, fun g a b => h.d12 g b a, fun g a b => h.d13 g b a, h.bel⟩
theorem Four.alloc (h : Four w0 w v1 v2 v3 v4 l1 l2 l3 l4) (o : Obj) : Four w0 (w.alloc o) v1 v2 v3 v4 l1 l2 l3 l4 :=
  ⟨h.o1.alloc _, h.o2.alloc _, h.o3.alloc _, h.o4.alloc _, h.d12, h.d13, h.d14, h.d23, h.d24, h.d34, h.bel.alloc h.bel.size _⟩
theorem Four.drew (h : Four w0 w v1 v2 v3 v4 l1 l2 l3 l4) : Four w0 w.drew v1 v2 v3 v4 l1 l2 l3 l4 :=
  ⟨h.o1, h.o2, h.o3, h.o4, h.d12, h.d13, h.d14, h.d23, h.d24, h.d34, ⟨h.bel.os, h.bel.tape, h.bel.output, h.bel.size, h.bel.block⟩⟩
theorem Four.drewN (h : Four w0 w v1 v2 v3 v4 l1 l2 l3 l4) (n : Nat) : Four w0 (w.drewN n) v1 v2 v3 v4 l1 l2 l3 l4 :=
  ⟨h.o1, h.o2, h.o3, h.o4, h.d12, h.d13, h.d14, h.d23, h.d24, h.d34, ⟨h.bel.os, h.bel.tape, h.bel.output, h.bel.size, h.bel.block⟩⟩
theorem Four.start (w : World) : Four w w (.slice none 0 0) (.slice none 0 0) (.slice none 0 0) (.slice none 0 0) [] [] [] [] :=
  ⟨World.ownsRow_nil _ _ _ _, World.ownsRow_nil _ _ _ _, World.ownsRow_nil _ _ _ _, World.ownsRow_nil _ _ _ _, fun g h => by simp [Value.ownBlock] at h, fun g h => by simp [Value.ownBlock] at h, fun g h => by simp [Value.ownBlock] at h, fun g h => by simp [Value.ownBlock] at h, fun g h => by simp [Value.ownBlock] at h, fun g h => by simp [Value.ownBlock] at h, Below.refl _ _⟩
/-- append(first, x). -/
theorem Four.push (h : Four w0 w v1 v2 v3 v4 l1 l2 l3 l4) {x : Int} {g : Nat} (hnews : ∀ (j : Nat) (u : Value), [Value.int .i64 x][j]? = some u → w.cell? (Addr.add ⟨g, 0, none⟩ j) = some u) (hl : l1.length ≤ 1000) :
    ∃ v' w', (∀ ty, (Builtin.append_ #[22, 22] ty #[v1, .slice (some ⟨g, 0, none⟩) 1 1]).run Try.prog w = .ok v' w') ∧ Four w0 w' v' v2 v3 v4 (l1 ++ [x]) l2 l3 l4 ∧ ∀ k, k < w.heap.size → v1.ownBlock ≠ some k → w'.heap[k]? = w.heap[k]? := by
  obtain ⟨i0, hi, hz0, hz1, hz2⟩ := info_parts infoI
  obtain ⟨v', w', h1, h2, h3, _, h5⟩ := run_append_own_at (P := Try.prog) w w0.heap.size 22 0 3 i0 (.int .i64 0) 1 8 Try.underlying22 hi hz0 hz1 hz2 rfl (by decide) v1 l1.length (l1.map (Value.int .i64)) h.o1 ⟨g, 0, none⟩ 1 1 [.int .i64 x] rfl hnews newsI2 (by unfold maxLen; omega) (by omega) h.bel.size
  have K : Keep (fun g => v1.ownBlock = some g) w w' := (Keep.refl _ w).grown h3 (fun k e => Or.inl e)
  have nd : ∀ (v : Value) (n : Nat) (xs : List Value), w.ownsRow w0.heap.size 3 1 v n xs → (∀ g, v1.ownBlock = some g → v.ownBlock ≠ some g) → ∀ g, v'.ownBlock = some g → v.ownBlock ≠ some g := fun v n xs ho hd g hg e => by
    rcases h5 with h5 | h5
    · exact hd g (by rw [← h5]; exact hg) e
    · rw [h5] at hg
      cases hg
      have := (ho.lt _ e).2
      exact Nat.lt_irrefl _ this
  refine ⟨v', w', fun ty => h1, ⟨?_, own_keep h.o2 K (fun g hg e => h.d12 g e hg), own_keep h.o3 K (fun g hg e => h.d13 g e hg), own_keep h.o4 K (fun g hg e => h.d14 g e hg), nd _ _ _ h.o2 h.d12, nd _ _ _ h.o3 h.d13, nd _ _ _ h.o4 h.d14, h.d23, h.d24, h.d34, h.bel.grown h3 h.bel.size (fun k hk => (h.o1.lt k hk).1)⟩, fun k hk hs => h3.block k hk (fun e => hs e.symm)⟩
  rw [List.length_append, List.map_append]
  exact h2
/-- append(second, x), append(fourth, x), as steps of a region that draws. -/
theorem Four.step2 {P : Program} (hP : P = Try.prog) {ops : Array Oper} {o : Oper} {a : Act} {K : Act → World → Prop} {Q : Exit → Act → World → Prop} {E : Prop} {x : Int} {g : Nat} (hg : o.guard = none) (s t : Operand)
    (hop : o.op = Op.call { callee := Callee.builtin Builtin.append, args := #[s, t], argTypes := #[22, 22] }) (hs : a.eval s = v2) (ht : a.eval t = .slice (some ⟨g, 0, none⟩) 1 1)
    (h : Four w0 w v1 v2 v3 v4 l1 l2 l3 l4) (hnews : ∀ (j : Nat) (u : Value), [Value.int .i64 x][j]? = some u → w.cell? (Addr.add ⟨g, 0, none⟩ j) = some u) (hl : l2.length ≤ 1000)
    (hK : ∀ v' w', Four w0 w' v1 v' v3 v4 l1 (l2 ++ [x]) l3 l4 → (∀ k, k < w.heap.size → v2.ownBlock ≠ some k → w'.heap[k]? = w.heap[k]?) → K (a.put o.dst v') w') :
    if Region.wanted o (yielded ops a.tmps) = true then Oper.wp P o a w K Q else E := by
  subst hP
  obtain ⟨v', w', hr, hf, hk⟩ := h.s12.push hnews hl
  exact step_append_run hg s t _ _ hop _ _ hs ht v' w' hr (hK v' w' hf.s12 hk)
theorem Four.step4 {P : Program} (hP : P = Try.prog) {ops : Array Oper} {o : Oper} {a : Act} {K : Act → World → Prop} {Q : Exit → Act → World → Prop} {E : Prop} {x : Int} {g : Nat} (hg : o.guard = none) (s t : Operand)
    (hop : o.op = Op.call { callee := Callee.builtin Builtin.append, args := #[s, t], argTypes := #[22, 22] }) (hs : a.eval s = v4) (ht : a.eval t = .slice (some ⟨g, 0, none⟩) 1 1)
    (h : Four w0 w v1 v2 v3 v4 l1 l2 l3 l4) (hnews : ∀ (j : Nat) (u : Value), [Value.int .i64 x][j]? = some u → w.cell? (Addr.add ⟨g, 0, none⟩ j) = some u) (hl : l4.length ≤ 1000)
    (hK : ∀ v' w', Four w0 w' v1 v2 v3 v' l1 l2 l3 (l4 ++ [x]) → (∀ k, k < w.heap.size → v4.ownBlock ≠ some k → w'.heap[k]? = w.heap[k]?) → K (a.put o.dst v') w') :
    if Region.wanted o (yielded ops a.tmps) = true then Oper.wp P o a w K Q else E := by
  subst hP
  obtain ⟨v', w', hr, hf, hk⟩ := h.s14.push hnews hl
  exact step_append_run hg s t _ _ hop _ _ hs ht v' w' hr (hK v' w' hf.s14 hk)
theorem Four.step3 {P : Program} (hP : P = Try.prog) {ops : Array Oper} {o : Oper} {a : Act} {K : Act → World → Prop} {Q : Exit → Act → World → Prop} {E : Prop} {x : Int} {g : Nat} (hg : o.guard = none) (s t : Operand)
    (hop : o.op = Op.call { callee := Callee.builtin Builtin.append, args := #[s, t], argTypes := #[22, 22] }) (hs : a.eval s = v3) (ht : a.eval t = .slice (some ⟨g, 0, none⟩) 1 1)
    (h : Four w0 w v1 v2 v3 v4 l1 l2 l3 l4) (hnews : ∀ (j : Nat) (u : Value), [Value.int .i64 x][j]? = some u → w.cell? (Addr.add ⟨g, 0, none⟩ j) = some u) (hl : l3.length ≤ 1000)
    (hK : ∀ v' w', Four w0 w' v1 v2 v' v4 l1 l2 (l3 ++ [x]) l4 → (∀ k, k < w.heap.size → v3.ownBlock ≠ some k → w'.heap[k]? = w.heap[k]?) → K (a.put o.dst v') w') :
    if Region.wanted o (yielded ops a.tmps) = true then Oper.wp P o a w K Q else E := by
  subst hP
  obtain ⟨v', w', hr, hf, hk⟩ := h.s13.push hnews hl
  exact step_append_run hg s t _ _ hop _ _ hs ht v' w' hr (hK v' w' hf.s13 hk)
theorem Four.s23 (h : Four w0 w v1 v2 v3 v4 l1 l2 l3 l4) : Four w0 w v1 v3 v2 v4 l1 l3 l2 l4 :=
  ⟨h.o1, h.o3, h.o2, h.o4, h.d13, h.d12, h.d14, fun g a b => h.d23 g b a, h.d34, h.d24, h.bel⟩
theorem Four.news {w : World} {g : Nat} {x : Int} {t : TypeId} {fr : Nat × Nat} (h : w.heap[g]? = some (.cells #[.int .i64 x] t fr)) : ∀ (j : Nat) (u : Value), [Value.int .i64 x][j]? = some u → w.cell? (Addr.add ⟨g, 0, none⟩ j) = some u := by
  intro j u hj
  match j, hj with
  | 0, hj =>
    simp at hj
    subst hj
    have := cell_at h 0
    simpa [Addr.add] using this
end

end Go.Proofs.Ytbfclmhcoelplaa.Cm
