/-
  A RANGE OVER A FUNCTION whose iterator keeps what it goes by in memory of its own, and whose body never leaves early: one law, over the kit's primitives.
  Told apart by types: cells of the types that K names are the loop's ('mine'), the other ones the iterator's.
-/
import Derived.Test.YtbfclmhcoelplaaLpCol
import Derived.RangeFuncNested
import Derived.RangeFuncBound
import Derived.RangeFuncCalls
import Derived.RangeFuncLeaves
import Derived.Shelf.Abstract
namespace Go.Proofs.Ytbfclmhcoelplaa.Lp
open Go.RowKit Go.Shelf
set_option linter.unusedVariables false

/-- The loop's cells stay, and what lay there at first. -/
def Mine (K : TypeId → Bool) (n0 : Nat) (A B : World) : Prop :=
  Below n0 A B ∧ ∀ (k : Nat) (us : Array Value) (t : TypeId) (fr : Nat × Nat), A.heap[k]? = some (Obj.cells us t fr) → K t = true → B.heap[k]? = some (Obj.cells us t fr)
/-- What the iterator does between rounds. -/
def ItS (K : TypeId → Bool) (n0 : Nat) (A B : World) : Prop := Mine K n0 A B ∧ ∀ (k : Nat) (o : Obj), A.heap[k]? = some o → o.isCells = false → B.heap[k]? = some o
/-- What a round does, as the iterator sees it. -/
def RdS (K : TypeId → Bool) (n0 : Nat) (A B : World) : Prop :=
  Below n0 A B ∧ ∀ (k : Nat) (us : Array Value) (t : TypeId) (fr : Nat × Nat), A.heap[k]? = some (Obj.cells us t fr) → K t = false → B.heap[k]? = some (Obj.cells us t fr)
/-- What a loop's body does. -/
def BdS (K : TypeId → Bool) (n0 : Nat) (A B : World) : Prop := RdS K n0 A B ∧ ∀ (k : Nat) (o : Obj), A.heap[k]? = some o → o.isCells = false → B.heap[k]? = some o
theorem RdS.trans {K : TypeId → Bool} {n0 : Nat} {A B C : World} (h : RdS K n0 A B) (k : RdS K n0 B C) : RdS K n0 A C :=
  ⟨h.1.trans k.1, fun i us t fr hi ht => k.2 i us t fr (h.2 i us t fr hi ht) ht⟩
theorem BdS.trans {K : TypeId → Bool} {n0 : Nat} {A B C : World} (h : BdS K n0 A B) (k : BdS K n0 B C) : BdS K n0 A C :=
  ⟨h.1.trans k.1, fun i o hi ho => k.2 i o (h.2 i o hi ho) ho⟩
theorem ItS.trans {K : TypeId → Bool} {n0 : Nat} {A B C : World} (h : ItS K n0 A B) (k : ItS K n0 B C) : ItS K n0 A C :=
  ⟨⟨h.1.1.trans k.1.1, fun i us t fr hi ht => k.1.2 i us t fr (h.1.2 i us t fr hi ht) ht⟩, fun i o hi ho => k.2 i o (h.2 i o hi ho) ho⟩
theorem ItS.of_keep {K : TypeId → Bool} {n0 : Nat} {S : Nat → Prop} {A B : World} (h : Keep S A B) (hn : n0 ≤ A.heap.size) (hS : ∀ k, S k → n0 ≤ k) (hK : ∀ k, S k → ∃ (us : Array Value) (t : TypeId) (fr : Nat × Nat), A.heap[k]? = some (Obj.cells us t fr) ∧ K t = false) : ItS K n0 A B := by
  refine ⟨⟨h.below hS hn, fun k us t fr hk ht => h.at hk (fun hs => ?_)⟩, fun k o hk ho => h.at hk (fun hs => ?_)⟩
  · obtain ⟨us', t', fr', e, ht'⟩ := hK k hs
    rw [hk] at e
    cases e
    rw [ht] at ht'
    cases ht'
  · obtain ⟨us', t', fr', e, ht'⟩ := hK k hs
    rw [hk] at e
    cases e
    simp [Obj.isCells] at ho
theorem RdS.keep {K : TypeId → Bool} {n0 : Nat} {A B : World} (h : RdS K n0 A B) : Keep (fun k => ∀ (us : Array Value) (t : TypeId) (fr : Nat × Nat), A.heap[k]? = some (Obj.cells us t fr) → K t = true) A B :=
  ⟨h.1.os, h.1.tape, h.1.output, h.1.size, fun k hk hs => by
    obtain ⟨o, ho⟩ : ∃ o, A.heap[k]? = some o := ⟨_, Array.getElem?_eq_getElem hk⟩
    by_cases hc : ∃ (us : Array Value) (t : TypeId) (fr : Nat × Nat), o = Obj.cells us t fr ∧ K t = false
    · obtain ⟨us, t, fr, rfl, ht⟩ := hc
      rw [h.2 k us t fr ho ht, ho]
    · refine absurd (fun us t fr e => ?_) hs
      rw [ho] at e
      cases e
      cases hK : K t
      · exact absurd ⟨us, t, fr, rfl, hK⟩ hc
      · rfl⟩
theorem BdS.of_keep {K : TypeId → Bool} {n0 : Nat} {S : Nat → Prop} {A B : World} (h : Keep S A B) (hn : n0 ≤ A.heap.size) (hS : ∀ k, S k → n0 ≤ k) (hK : ∀ k, S k → ∃ (us : Array Value) (t : TypeId) (fr : Nat × Nat), A.heap[k]? = some (Obj.cells us t fr) ∧ K t = true) : BdS K n0 A B := by
  refine ⟨⟨h.below hS hn, fun k us t fr hk ht => h.at hk (fun hs => ?_)⟩, fun k o hk ho => h.at hk (fun hs => ?_)⟩
  · obtain ⟨us', t', fr', e, ht'⟩ := hK k hs
    rw [hk] at e
    cases e
    rw [ht] at ht'
    cases ht'
  · obtain ⟨us', t', fr', e, ht'⟩ := hK k hs
    rw [hk] at e
    cases e
    simp [Obj.isCells] at ho

theorem Mine.keep {K : TypeId → Bool} {n0 : Nat} {A B : World} (h : Mine K n0 A B) : Keep (fun k => ∀ (us : Array Value) (t : TypeId) (fr : Nat × Nat), A.heap[k]? = some (Obj.cells us t fr) → K t = false) A B :=
  ⟨h.1.os, h.1.tape, h.1.output, h.1.size, fun k hk hs => by
    obtain ⟨o, ho⟩ : ∃ o, A.heap[k]? = some o := ⟨_, Array.getElem?_eq_getElem hk⟩
    by_cases hc : ∃ (us : Array Value) (t : TypeId) (fr : Nat × Nat), o = Obj.cells us t fr ∧ K t = true
    · obtain ⟨us, t, fr, rfl, ht⟩ := hc
      rw [h.2 k us t fr ho ht, ho]
    · refine absurd (fun us t fr e => ?_) hs
      rw [ho] at e
      cases e
      cases hK : K t
      · rfl
      · exact absurd ⟨us, t, fr, rfl, hK⟩ hc⟩
/-- An iterator that goes through xs. -/
def Goes {α : Type} (K : TypeId → Bool) (P : Program) (gf : Nat) (lb : Array Value) (encs : α → Array Value) (n0 : Nat) (xs : List α) (w0 : World) : Prop :=
  ∀ (l : Nat) (J : List α → World → Prop) (w : World), Below w0.heap.size w0 w → (∀ pre A B, J pre A → ItS K n0 A B → J pre B) →
    (∀ pre x W, J pre W → pre.length < xs.length → YieldAt Fence.wide 3 P l (encs x) W (fun e W' => e = .returned (.bool true) ∧ J (pre ++ [x]) W' ∧ RdS K n0 W W')) → J [] w →
    Calls P gf (#[.func (.yield l) #[] #[]] ++ lb) w (fun e w' => (∃ v, e = .returned v) ∧ J xs w')

/-- What a record of a loop is turned into leaves the loop's cells. -/
theorem turn_mine {K : TypeId → Bool} {n0 l : Nat} {A : World} {o o' : Obj} (hl : A.heap[l]? = some o) (ho : o.isCells = false) (hn : n0 ≤ l) : Mine K n0 A (A.putObj l o') ∧ RdS K n0 A (A.putObj l o') := by
  have hb : Below n0 A (A.putObj l o') := (Below.refl n0 A).grown (grownBy_putObj' A l o') (by have := (Array.getElem?_eq_some_iff.1 hl).1; omega) (fun k e => by cases e; omega)
  have hc : ∀ (k : Nat) (us : Array Value) (t : TypeId) (fr : Nat × Nat), A.heap[k]? = some (Obj.cells us t fr) → (A.putObj l o').heap[k]? = some (Obj.cells us t fr) := fun k us t fr hk => by
    have hne : k ≠ l := by
      intro e
      subst e
      rw [hl] at hk
      cases hk
      simp [Obj.isCells] at ho
    rw [World.putObj_heap_other hne, hk]
  exact ⟨⟨hb, fun k us t fr hk _ => hc k us t fr hk⟩, ⟨hb, fun k us t fr hk _ => hc k us t fr hk⟩⟩

theorem for_goes {α : Type} {K : TypeId → Bool} {P : Program} {g : Operand} {ps : Array Tmp} {assign body : Code} {Q : Exit → Act → World → Prop} {a : Act} {w : World} {m : Nat}
    {gf : Nat} {lb : Array Value} (hg : a.eval g = .func (.func gf) #[] lb) (eg : Enters P gf) {encs : α → Array Value} {n0 : Nat} {xs : List α} (hn0 : n0 ≤ w.heap.size)
    (hseq : Goes K P gf lb encs n0 xs w) (hps : ∀ x, (encs x).size = ps.size)
    (I : List α → World → Prop) (hI : ∀ pre A B, I pre A → Mine K n0 A B → I pre B) (h0 : I [] w)
    (Ax : α → Act → World → Prop) (hAx : ∀ x a' A B, Ax x a' A → Mine K n0 A B → Ax x a' B)
    (hassign : ∀ (l : Nat) (pre : List α) (x : α) (W : World) (R : Act → World → Prop), I pre W → (∀ a' W', BdS K n0 W W' → I pre W' → Ax x a' W' → R a' W') →
      assign.wpIn (Fence.wide.inRound l) 3 P (Exit.then R (fun _ _ _ => False)) { tmps := (ps.zip (encs x)).foldl (fun t (p, v) => t.setIfInBounds p v) a.tmps, defers := [] } W)
    (hbody : ∀ (l : Nat) (pre : List α) (x : α) (a' : Act) (W : World), I pre W → Ax x a' W → pre.length < xs.length → body.wpIn (Fence.wide.inRound l) 3 P (fun e _ W' => e = .normal ∧ I (pre ++ [x]) W' ∧ BdS K n0 W W') a' W)
    (hdone : ∀ (D : Nat) (W : World), w.heap.size ≤ D → I xs W → W.heap[D]? = some (Obj.deferred (some [])) → Q .normal { a with defers := { target := .collected D, args := #[] } :: a.defers } W) :
    (Code.rangeFunc g ps assign body).wpIn Fence.wide m P Q a w := by
  refine wpIn_rangeFunc (fun fn hfn => ?_)
  obtain ⟨rc, hrc⟩ : ∃ rc : LoopState → Option Code → Loop, rc = fun st pe => { state := st, pending := pe, fn, tmps := a.tmps, params := ps, assign, body, defers := w.heap.size } := ⟨_, rfl⟩
  obtain ⟨W1, hW1⟩ : ∃ W1, (w.alloc (.deferred (some []))).alloc (Obj.loop (rc .ready none)) = W1 := ⟨_, rfl⟩
  have hB1 : Below w.heap.size w W1 := by rw [← hW1]; exact ((Below.refl _ w).alloc (Nat.le_refl _) _).alloc (by simp) _
  have hL1 : W1.heap[w.heap.size + 1]? = some (Obj.loop (rc .ready none)) := by
    rw [← hW1]
    have := World.alloc_heap_new (w.alloc (.deferred (some []))) (Obj.loop (rc .ready none))
    rwa [World.size_alloc] at this
  have hD1 : W1.heap[w.heap.size]? = some (Obj.deferred (some [])) := by
    rw [← hW1]
    exact (Below.heap_alloc _ _ _ (by simp)).trans (World.alloc_heap_new w _)
  have hI1 : I [] W1 := hI _ _ _ h0 ⟨hB1.mono hn0, fun k us t fr hk _ => by rw [hB1.block k (lt_of_at hk)]; exact hk⟩
  refine ⟨w.heap.size + 1, [{ target := .collected w.heap.size, args := #[] }], W1, { target := .fn (.func gf) lb, args := #[.func (.yield (w.heap.size + 1)) #[] #[]] }, W1, gf,
    #[.func (.yield (w.heap.size + 1)) #[] #[]] ++ lb, W1, ?_, ?_, fun _ _ => trivial, ?_, fun h => absurd h (by simp [Fence.wide]), ?_⟩
  · rw [← hW1, hrc]; exact run_enterLoop_outer _ _ _ _ _
  · simp only [resolve, hg]
    simp [go_sem]
  · simp [invoke, go_sem, eg _ _]
  refine callsIn_wide.2 ?_
  refine (hseq (w.heap.size + 1) (fun pre W => I pre W ∧ W.heap[w.heap.size + 1]? = some (Obj.loop (rc .ready none)) ∧ W.heap[w.heap.size]? = some (Obj.deferred (some []))) W1 hB1 ?_ ?_ ⟨hI1, hL1, hD1⟩).mono ?_
  · rintro pre A B ⟨h1, h2, h3⟩ hit
    exact ⟨hI _ _ _ h1 hit.1, hit.2 _ _ h2 rfl, hit.2 _ _ h3 rfl⟩
  · rintro pre x W ⟨hi, hl, hk⟩ hlen
    have hy := run_yield (P := P) (args := encs x) hl (by rw [hrc]; exact hps x)
    rw [hrc] at hy
    refine ⟨fn, _, assign, body, hy, roundIn_of_wpIn hfn (hassign _ pre x W _ hi ?_)⟩
    clear hy
    intro a' Wa hbd hia hax
    have hla := hbd.2 _ _ hl rfl
    have hka := hbd.2 _ _ hk rfl
    refine ⟨_, run_beginRound hla (by rw [hrc]), ?_⟩
    have tm := turn_mine (K := K) (n0 := n0) (o' := Obj.loop { rc .ready none with state := .busy }) hla rfl (by omega)
    have hl2 : (Wa.putObj (w.heap.size + 1) (Obj.loop { rc .ready none with state := .busy })).heap[w.heap.size + 1]? = some (Obj.loop { rc .ready none with state := .busy }) := World.putObj_heap_same (lt_of_at hla)
    have hk2 : (Wa.putObj (w.heap.size + 1) (Obj.loop { rc .ready none with state := .busy })).heap[w.heap.size]? = some (Obj.deferred (some [])) := (World.putObj_heap_other (by omega)).trans hka
    refine wpIn_mono (hbody _ pre x a' _ (hI _ _ _ hia tm.1) (hAx _ _ _ _ hax tm.1) hlen) ?_
    rintro e a3 W3 ⟨rfl, hi3, hbd3⟩
    have hl3 := hbd3.2 _ _ hl2 rfl
    have hk3 := hbd3.2 _ _ hk2 rfl
    have tm3 := turn_mine (K := K) (n0 := n0) (o' := Obj.loop (rc .ready none)) hl3 rfl (by omega)
    have hr := run_endRound (P := P) none hl3
    refine ⟨.bool true, W3.putObj (w.heap.size + 1) (Obj.loop (rc .ready none)), ?_, rfl, ⟨hI _ _ _ hi3 tm3.1, World.putObj_heap_same (lt_of_at hl3), (World.putObj_heap_other (by omega)).trans hk3⟩, hbd.1.trans (tm.2.trans (hbd3.1.trans tm3.2))⟩
    rw [hr, hrc]
    rfl
  · rintro e W2 ⟨⟨v, rfl⟩, hi, hl, hk⟩
    have tm2 := turn_mine (K := K) (n0 := n0) (o' := Obj.loop { rc .ready none with state := .exhausted }) hl rfl (by omega)
    refine ⟨none, _, ?_, hdone w.heap.size _ (Nat.le_refl _) (hI _ _ _ hi tm2.1) ((World.putObj_heap_other (by omega)).trans hk)⟩
    have := run_endLoop (P := P) hl (by rw [hrc]; simp)
    rw [this, hrc]
end Go.Proofs.Ytbfclmhcoelplaa.Lp
