/-
  Several texts in one:
  
  
  
  
-/
import Derived.Test.YtldllbmbcnipoabGreatDoorPkWA
import Derived.Deep.Cut
import Derived.Deep.CutRange
import Derived.Deep.CutBlock
import Derived.ProofKit
import Derived.OpenShut
import Derived.SizedLaws
import Derived.ChangeArms
import Derived.ChangeOld
import Derived.Deep.Slices
namespace Go.Proofs.YtldllbmbcnipoabGreatDoor.Cm
open Go.RowKit
set_option linter.unusedVariables false
variable {α : Type}
def Rk (k : Nat) (enc : α → List Value) (w : World) (v : Value) (xs : List α) : Prop :=
  ∃ ao cap, v = .slice ao xs.length cap ∧ xs.length ≤ cap ∧ (xs = [] ∨ ∃ b o, ao = some ⟨b, o, none⟩ ∧ b < w.heap.size ∧ ∀ j x, xs[j]? = some x → ∀ q u, (enc x)[q]? = some u → w.cell? ⟨b, o + j * k + q, none⟩ = some u)
theorem Rk.at {k : Nat} {enc : α → List Value} {w : World} {ao : Option Addr} {n c : Nat} {xs : List α} (h : Rk k enc w (.slice ao n c) xs) : ∀ i (hi : i < xs.length), ∃ b o, ao = some ⟨b, o, none⟩ ∧ b < w.heap.size ∧ ∀ q u, (enc xs[i])[q]? = some u → w.cell? ⟨b, o + i * k + q, none⟩ = some u := by
  intro i hi
  obtain ⟨ao', c', hv, _, hx⟩ := h
  simp only [Value.slice.injEq] at hv
  obtain ⟨rfl, _, _⟩ := hv
  rcases hx with hx | ⟨b, o, rfl, hlt, hcell⟩
  · rw [hx] at hi; exact absurd hi (Nat.not_lt_zero _)
  · exact ⟨b, o, rfl, hlt, hcell i _ (List.getElem?_eq_getElem hi)⟩
theorem flat_get {k : Nat} {enc : α → List Value} (hk : ∀ x, (enc x).length = k) : ∀ (xs : List α) (j : Nat) (x : α), xs[j]? = some x → ∀ q u, (enc x)[q]? = some u → (xs.flatMap enc)[j * k + q]? = some u
  | [], j, x, h, _, _, _ => by simp at h
  | y :: ys, 0, x, h, q, u, hq => by
    simp at h
    subst h
    rw [List.flatMap_cons, Nat.zero_mul, Nat.zero_add, List.getElem?_append_left (List.getElem?_eq_some_iff.1 hq).1]
    exact hq
  | y :: ys, j + 1, x, h, q, u, hq => by
    rw [List.flatMap_cons, List.getElem?_append_right (by rw [hk, Nat.succ_mul]; omega), hk, show (j + 1) * k + q - k = j * k + q by rw [Nat.succ_mul]; omega]
    exact flat_get hk ys j x (by simpa using h) q u hq
theorem Rk.of_own {k : Nat} {enc : α → List Value} (hk : ∀ x, (enc x).length = k) {w : World} {B : Nat} {e : TypeId} {v : Value} {xs : List α} (h : w.ownsRow B e k v xs.length (xs.flatMap enc)) : Rk k enc w v xs := by
  rcases h.2 with ⟨hv, hn⟩ | ⟨g, cap, cur, hv, hB, hg, hn, hm, hsz, ht⟩
  · exact ⟨none, 0, by rw [hv, hn], by omega, Or.inl (List.eq_nil_of_length_eq_zero hn)⟩
  · refine ⟨_, cap, hv, hn, Or.inr ⟨g, 0, rfl, (Array.getElem?_eq_some_iff.1 hg).1, fun j x hj q u hq => ?_⟩⟩
    have hjl := (List.getElem?_eq_some_iff.1 hj).1
    have hql := (List.getElem?_eq_some_iff.1 hq).1
    rw [hk] at hql
    subst hv
    have hb : j * k + q < xs.length * k := by
      have : (j + 1) * k ≤ xs.length * k := Nat.mul_le_mul_right _ hjl
      rw [Nat.succ_mul] at this
      omega
    rw [Nat.zero_add, h.cellAt _ hb]
    exact flat_get hk xs j x hj q u hq
theorem newsK {wr : World} {us : List Value} {t : TypeId} : ∀ (j : Nat) (u : Value), us[j]? = some u → (wr.alloc (.cells us.toArray t)).cell? (Addr.add ⟨wr.heap.size, 0, none⟩ j) = some u := by
  intro j u hj
  have e : (Addr.add ⟨wr.heap.size, 0, none⟩ j) = ⟨wr.heap.size, j, none⟩ := by
    unfold Addr.add
    by_cases h : j = 0
    · subst h; rfl
    · rw [if_neg h]; simp
  rw [e, World.cell?_alloc_new]
  simpa using hj
end Go.Proofs.YtldllbmbcnipoabGreatDoor.Cm

namespace Go.Proofs.YtldllbmbcnipoabGreatDoor.Cm
open Go.RowKit
set_option linter.unusedVariables false
structure Keep (S : Nat → Prop) (w w' : World) : Prop where
  os : w'.os = w.os
  tape : w'.tape = w.tape
  output : w'.output = w.output
  size : w.heap.size ≤ w'.heap.size
  block : ∀ k, k < w.heap.size → ¬ S k → w'.heap[k]? = w.heap[k]?
theorem Keep.refl (S : Nat → Prop) (w : World) : Keep S w w := ⟨rfl, rfl, rfl, Nat.le_refl _, fun _ _ _ => rfl⟩
theorem Keep.trans {S : Nat → Prop} {a b c : World} (h : Keep S a b) (k : Keep S b c) : Keep S a c :=
  ⟨k.os.trans h.os, k.tape.trans h.tape, k.output.trans h.output, Nat.le_trans h.size k.size, fun i hi hs => (k.block i (Nat.lt_of_lt_of_le hi h.size) hs).trans (h.block i hi hs)⟩
theorem Keep.mono {S T : Nat → Prop} {a b : World} (h : Keep S a b) (hST : ∀ k, k < a.heap.size → S k → T k) : Keep T a b :=
  ⟨h.os, h.tape, h.output, h.size, fun i hi ht => h.block i hi (fun hs => ht (hST i hi hs))⟩
theorem Keep.below {S : Nat → Prop} {a b : World} {B : Nat} (h : Keep S a b) (hS : ∀ k, S k → B ≤ k) (hB : B ≤ a.heap.size) : Below B a b :=
  ⟨h.os, h.tape, h.output, h.size, fun k hk => h.block k (by omega) (fun hs => by have := hS k hs; omega)⟩
theorem Keep.of_below {S : Nat → Prop} {a b : World} (h : Below a.heap.size a b) : Keep S a b :=
  ⟨h.os, h.tape, h.output, h.size, fun k hk _ => h.block k hk⟩
theorem Keep.alloc {S : Nat → Prop} {a w : World} (h : Keep S a w) (o : Obj) : Keep S a (w.alloc o) :=
  h.trans ⟨rfl, rfl, rfl, by simp, fun k hk _ => Below.heap_alloc _ _ _ hk⟩
theorem Keep.setCell {S : Nat → Prop} {a w : World} (h : Keep S a w) {p : Addr} (hp : S p.block ∨ a.heap.size ≤ p.block) (u : Value) : Keep S a (w.setCell p u) :=
  ⟨h.os, h.tape, h.output, by simpa [World.setCell] using h.size, fun k hk hs => (Below.heap_setCell _ _ _ _ (fun e => by
    subst e; rcases hp with hp | hp
    · exact hs hp
    · omega)).trans (h.block k hk hs)⟩
theorem Keep.grown {S : Nat → Prop} {a w w' : World} {row : Option Nat} (h : Keep S a w) (hg : w.grownBy w' row) (hr : ∀ k, row = some k → S k ∨ a.heap.size ≤ k) : Keep S a w' :=
  ⟨hg.os.trans h.os, hg.tape.trans h.tape, hg.output.trans h.output, Nat.le_trans h.size hg.size, fun k hk hs => (hg.block k (Nat.lt_of_lt_of_le hk h.size) (fun e => by
    rcases hr k e.symm with h1 | h1
    · exact hs h1
    · omega)).trans (h.block k hk hs)⟩
theorem Keep.at {S : Nat → Prop} {a b : World} (h : Keep S a b) {k : Nat} {o : Obj} (hk : a.heap[k]? = some o) (hs : ¬ S k) : b.heap[k]? = some o :=
  (h.block k (Array.getElem?_eq_some_iff.1 hk).1 hs).trans hk
theorem lt_of_at {w : World} {k : Nat} {o : Obj} (hk : w.heap[k]? = some o) : k < w.heap.size := (Array.getElem?_eq_some_iff.1 hk).1
theorem cell_at {w : World} {b : Nat} {c : Array Value} {t : TypeId} {f : Nat × Nat} (h : w.heap[b]? = some (.cells c t f)) (i : Nat) : w.cell? ⟨b, i, none⟩ = c[i]? := by simp [World.cell?, h]
theorem frozen_at {w : World} {b : Nat} {c : Array Value} {t : TypeId} (h : w.heap[b]? = some (.cells c t (0, 0))) (i : Nat) : w.frozen? ⟨b, i, none⟩ = false := by simp [World.frozen?, h]
theorem set_at {w : World} {b : Nat} {c : Array Value} {t : TypeId} {f : Nat × Nat} (h : w.heap[b]? = some (.cells c t f)) (i : Nat) (v : Value) : (w.setCell ⟨b, i, none⟩ v).heap[b]? = some (.cells (c.setIfInBounds i v) t f) := by
  simp [World.setCell, Array.getElem?_modify, h]
theorem alloc_at {w : World} {b : Nat} {o : Obj} (h : w.heap[b]? = some o) (o' : Obj) : (w.alloc o').heap[b]? = some o :=
  (Below.heap_alloc _ _ _ (lt_of_at h)).trans h
theorem alloc_new (w : World) (o : Obj) : (w.alloc o).heap[w.heap.size]? = some o := by
  show (w.heap.push o)[w.heap.size]? = _
  simp
theorem own_keep {S : Nat → Prop} {w w' : World} {B e z n : Nat} {v : Value} {xs : List Value} (h : w.ownsRow B e z v n xs) (k : Keep S w w') (hS : ∀ g, v.ownBlock = some g → ¬ S g) : w'.ownsRow B e z v n xs := by
  refine ⟨h.1, ?_⟩
  rcases h.2 with hn | ⟨g, cap, cur, hv, hB, hg, rest⟩
  · exact .inl hn
  · exact .inr ⟨g, cap, cur, hv, hB, k.at hg (hS g (by subst hv; rfl)), rest⟩
theorem own_obj {w : World} {B e z n g : Nat} {v : Value} {xs : List Value} (h : w.ownsRow B e z v n xs) (hg : v.ownBlock = some g) : ∃ cur, w.heap[g]? = some (.cells cur e (0, 0)) := by
  rcases h.2 with ⟨rfl, _⟩ | ⟨g', cap, cur, rfl, _, h3, _⟩
  · simp [Value.ownBlock] at hg
  · simp [Value.ownBlock] at hg; subst hg; exact ⟨cur, h3⟩
end Go.Proofs.YtldllbmbcnipoabGreatDoor.Cm

namespace Go.Proofs.YtldllbmbcnipoabGreatDoor.Sp
open Go.RowKit Go.ChangeShapes Go.WideShapes Go.ChangeAt
open Go.Proofs.YtldllbmbcnipoabGreatDoor.Tk (S S_of S_list S_size)
set_option linter.unusedVariables false
mutual
def trOne (w : World) (b o : Nat) : Sp → Prop
  | .mk k s l => w.cell? ⟨b, o, none⟩ = some (.int .i64 k) ∧ w.cell? ⟨b, o + 1, none⟩ = some (.string (S s)) ∧
    ∃ ao cap, w.cell? ⟨b, o + 2, none⟩ = some (.slice ao l.length cap) ∧ (l.length ≤ cap ∧ cap ≤ 9223372036854775807) ∧ (l = [] ∨ ∃ b' o', ao = some ⟨b', o', none⟩ ∧ b' < w.heap.size ∧ trAll w b' o' l)
def trAll (w : World) (b o : Nat) : List Sp → Prop
  | [] => True
  | x :: r => trOne w b o x ∧ trAll w b (o + 3) r
end
def Tr (w : World) (v : Value) (l : List Sp) : Prop :=
  ∃ ao cap, v = .slice ao l.length cap ∧ (l.length ≤ cap ∧ cap ≤ 9223372036854775807) ∧ (l = [] ∨ ∃ b o, ao = some ⟨b, o, none⟩ ∧ b < w.heap.size ∧ trAll w b o l)
theorem Tr.len {w : World} {v : Value} {l : List Sp} (h : Tr w v l) : ∃ ao cap, v = .slice ao l.length cap := by
  obtain ⟨ao, cap, hv, _⟩ := h; exact ⟨ao, cap, hv⟩
theorem Tr.short {w : World} {v : Value} {l : List Sp} (h : Tr w v l) : l.length ≤ 9223372036854775807 := by
  obtain ⟨_, _, _, hc, _⟩ := h; omega
mutual
theorem trOne_below {w w' : World} (hb : Below w.heap.size w w') : ∀ (x : Sp) (b o : Nat), b < w.heap.size → trOne w b o x → trOne w' b o x
  | .mk k s l, b, o, hlt, h => by
    unfold trOne at h ⊢
    obtain ⟨h1, h2, ao, cap, h3, hc, h4⟩ := h
    refine ⟨(hb.cell (by exact hlt)).trans h1, (hb.cell (by exact hlt)).trans h2, ao, cap, (hb.cell (by exact hlt)).trans h3, hc, ?_⟩
    rcases h4 with h4 | ⟨b', o', ha, hl, h4⟩
    · exact Or.inl h4
    · exact Or.inr ⟨b', o', ha, Nat.lt_of_lt_of_le hl hb.size, trAll_below hb l b' o' hl h4⟩
theorem trAll_below {w w' : World} (hb : Below w.heap.size w w') : ∀ (l : List Sp) (b o : Nat), b < w.heap.size → trAll w b o l → trAll w' b o l
  | [], _, _, _, _ => by unfold trAll; trivial
  | x :: r, b, o, hlt, h => by
    unfold trAll at h ⊢
    exact ⟨trOne_below hb x b o hlt h.1, trAll_below hb r b (o + 3) hlt h.2⟩
end
theorem Tr.below {w w' : World} {v : Value} {l : List Sp} (h : Tr w v l) (hb : Below w.heap.size w w') : Tr w' v l := by
  obtain ⟨ao, cap, hv, hc, h⟩ := h
  refine ⟨ao, cap, hv, hc, ?_⟩
  rcases h with h | ⟨b, o, ha, hl, h⟩
  · exact Or.inl h
  · exact Or.inr ⟨b, o, ha, Nat.lt_of_lt_of_le hl hb.size, trAll_below hb l b o hl h⟩
theorem trAll_at {w : World} {b : Nat} : ∀ (l : List Sp) (o : Nat), trAll w b o l → ∀ i (hi : i < l.length), trOne w b (o + i * 3) l[i]
  | [], _, _, i, hi => absurd hi (Nat.not_lt_zero _)
  | x :: r, o, h, 0, _ => by unfold trAll at h; simpa using h.1
  | x :: r, o, h, i + 1, hi => by
    unfold trAll at h
    have := trAll_at r (o + 3) h.2 i (by simpa using hi)
    rw [show o + (i + 1) * 3 = o + 3 + i * 3 by omega]
    simpa using this
theorem trAll_of {w : World} {b : Nat} : ∀ (l : List Sp) (o : Nat), (∀ i (hi : i < l.length), trOne w b (o + i * 3) l[i]) → trAll w b o l
  | [], _, _ => by unfold trAll; trivial
  | x :: r, o, h => by
    unfold trAll
    refine ⟨h 0 (by simp), trAll_of r (o + 3) (fun i hi => ?_)⟩
    have := h (i + 1) (by simpa using hi)
    rw [show o + (i + 1) * 3 = o + 3 + i * 3 by omega] at this
    simpa using this
structure Cells (w : World) (b o : Nat) (x : Sp) (ao : Option Addr) (cap : Nat) : Prop where
  kind : w.cell? ⟨b, o, none⟩ = some (.int .i64 x.kind)
  s : w.cell? ⟨b, o + 1, none⟩ = some (.string (S x.s))
  kids : w.cell? ⟨b, o + 2, none⟩ = some (.slice ao x.kids.length cap)
  tr : Tr w (.slice ao x.kids.length cap) x.kids
theorem trOne_cells {w : World} {b o : Nat} {x : Sp} (h : trOne w b o x) : ∃ ao cap, Cells w b o x ao cap := by
  obtain ⟨k, s, l⟩ := x
  unfold trOne at h
  obtain ⟨h1, h2, ao, cap, h3, hc, h4⟩ := h
  exact ⟨ao, cap, h1, h2, h3, ⟨ao, cap, rfl, hc, h4⟩⟩
theorem Tr.at {w : World} {ao : Option Addr} {n c : Nat} {l : List Sp} (h : Tr w (.slice ao n c) l) : ∀ i (hi : i < l.length), ∃ b o ak ck, ao = some ⟨b, o, none⟩ ∧ b < w.heap.size ∧ Cells w b (o + i * 3) l[i] ak ck := by
  intro i hi
  obtain ⟨ao', cap', hv, _, hx⟩ := h
  simp only [Value.slice.injEq] at hv
  obtain ⟨rfl, _, _⟩ := hv
  rcases hx with hx | ⟨b, o, rfl, hb, hx⟩
  · subst hx; exact absurd hi (Nat.not_lt_zero _)
  · obtain ⟨ak, ck, hc⟩ := trOne_cells (trAll_at l o hx i hi)
    exact ⟨b, o, ak, ck, rfl, hb, hc⟩
mutual
def fitOne (R : Nat) : Sp → Prop
  | .mk k s l => (-9223372036854775808 ≤ k ∧ k ≤ 9223372036854775807) ∧ s.length ≤ R ∧ fitAll R l
def fitAll (R : Nat) : List Sp → Prop
  | [] => True
  | x :: r => fitOne R x ∧ fitAll R r
end
theorem fitAll_at {R : Nat} : ∀ {l : List Sp}, fitAll R l → ∀ x ∈ l, fitOne R x
  | [], _, x, hx => by cases hx
  | y :: r, h, x, hx => by
    unfold fitAll at h
    rcases List.mem_cons.1 hx with rfl | hx
    · exact h.1
    · exact fitAll_at h.2 x hx
theorem fitAll_of {R : Nat} : ∀ {l : List Sp}, (∀ x ∈ l, fitOne R x) → fitAll R l
  | [], _ => by unfold fitAll; trivial
  | y :: r, h => by
    unfold fitAll
    exact ⟨h y (List.mem_cons_self ..), fitAll_of (fun x hx => h x (List.mem_cons_of_mem _ hx))⟩
theorem fitOne_s {R : Nat} {x : Sp} (h : fitOne R x) : x.s.length ≤ R := by obtain ⟨k, s, l⟩ := x; unfold fitOne at h; exact h.2.1
theorem fitOne_kids {R : Nat} {x : Sp} (h : fitOne R x) : fitAll R x.kids := by obtain ⟨k, s, l⟩ := x; unfold fitOne at h; exact h.2.2
theorem cellsInt : Tryz.prog.cellsOf 3 = 1 := by kernel_rfl
theorem cellsStr : Tryz.prog.cellsOf 9 = 1 := by kernel_rfl
theorem cellsSps : Tryz.prog.cellsOf 30 = 1 := by kernel_rfl
theorem cellsSp : Tryz.prog.cellsOf 81 = 3 := by kernel_rfl
theorem mem_all {H : Type} {P : Program} {e : TypeId} {d : DataW H} {n : Nat} (hn : n ∈ d.weights P e) : ∀ {l : List (DataW H)}, d ∈ l → n ∈ DataW.weightsAll P e l
  | [], h => by cases h
  | x :: r, h => by
    simp only [DataW.weightsAll, List.mem_append]
    rcases List.mem_cons.1 h with rfl | h
    · exact Or.inl hn
    · exact Or.inr (mem_all hn h)
end Go.Proofs.YtldllbmbcnipoabGreatDoor.Sp

namespace Go.Proofs.YtldllbmbcnipoabGreatDoor.Sp
open Go.RowKit
open Go.Proofs.YtldllbmbcnipoabGreatDoor.Tk (S S_of S_list S_size ret_int)
open Go.Proofs.YtldllbmbcnipoabGreatDoor.Cm (calls_at)
set_option linter.unusedVariables false
mutual
def spOne (deep : Nat) (left n : Int) : Sp → Int
  | .mk _ s l => n + 1 + s.length + spAll (deep - 1) (left - (n + 1 + s.length)) 0 l
def spAll (deep : Nat) (left n : Int) : List Sp → Int
  | [] => n
  | x :: r => if deep = 0 ∨ left ≤ n then n + 1000000 else spAll deep left (spOne deep left n x) r
end
theorem spOne_eq (deep : Nat) (left n : Int) (x : Sp) : spOne deep left n x = n + 1 + x.s.length + spAll (deep - 1) (left - (n + 1 + x.s.length)) 0 x.kids := by
  obtain ⟨k, s, l⟩ := x
  unfold spOne
  rfl
theorem spAll_cons (deep : Nat) (left n : Int) (x : Sp) (r : List Sp) : spAll deep left n (x :: r) = if deep = 0 ∨ left ≤ n then n + 1000000 else spAll deep left (spOne deep left n x) r := by rw [spAll]
mutual
theorem spOne_ge (deep : Nat) (left n : Int) : ∀ x : Sp, n + 1 ≤ spOne deep left n x
  | .mk k s l => by
    unfold spOne
    have := spAll_ge (deep - 1) (left - (n + 1 + s.length)) 0 l
    omega
theorem spAll_ge (deep : Nat) (left n : Int) : ∀ l : List Sp, n ≤ spAll deep left n l
  | [] => by unfold spAll; omega
  | x :: r => by
    rw [spAll_cons]
    have h1 := spOne_ge deep left n x
    have h2 := spAll_ge deep left (spOne deep left n x) r
    split <;> omega
end
theorem spAll_cut {deep : Nat} {left n : Int} (h : left ≤ n) (l : List Sp) : spAll deep left n l ≤ n + 1000000 := by
  cases l with
  | nil => unfold spAll; omega
  | cons x r => rw [spAll_cons, if_pos (Or.inr h)]; omega
mutual
theorem spOne_le (deep : Nat) (left n : Int) (h : left ≤ 5000) (h0n : 0 ≤ n) (hn : n < left) (hd : 0 < deep) : ∀ x : Sp, fitOne reachBytes x → spOne deep left n x ≤ 5001 + 140737488355328 + 1000000 + deep * 140737492355328
  | .mk k s l, hf => by
    unfold spOne
    unfold fitOne at hf
    have hs := hf.2.1
    have hr : reachBytes ≤ 140737488355328 := by decide
    have := spAll_le (deep - 1) (left - (n + 1 + s.length)) 0 (by omega) (by omega) l hf.2.2
    have e : ((deep - 1 : Nat) : Int) + 1 = deep := by omega
    have e2 : (((deep - 1 : Nat) : Int) + 1) * 140737492355328 = deep * 140737492355328 := by rw [e]
    by_cases h0 : (0 : Int) < left - (n + 1 + s.length)
    · have := this h0
      omega
    · have h3 := spAll_cut (deep := deep - 1) (left := left - (n + 1 + s.length)) (n := 0) (by omega) l
      have h4 : 0 ≤ (deep : Int) * 140737492355328 := by omega
      omega
theorem spAll_le (deep : Nat) (left n : Int) (h : left ≤ 5000) (h0n : 0 ≤ n) : ∀ l : List Sp, fitAll reachBytes l → n < left → spAll deep left n l ≤ (deep + 1) * 140737492355328
  | [], _, hn => by unfold spAll; have : 0 ≤ (deep : Int) * 140737492355328 := by omega
                    omega
  | x :: r, hf, hn => by
    unfold fitAll at hf
    rw [spAll_cons]
    have h4 : 0 ≤ (deep : Int) * 140737492355328 := by omega
    split
    · omega
    · rename_i hc
      have hd : 0 < deep := by omega
      have h1 := spOne_le deep left n h h0n hn hd x hf.1
      have h1g := spOne_ge deep left n x
      by_cases h2 : spOne deep left n x < left
      · exact spAll_le deep left (spOne deep left n x) h (by omega) r hf.2 h2
      · have h3 := spAll_cut (deep := deep) (left := left) (n := spOne deep left n x) (by omega) r
        omega
end
mutual
def totOne : Sp → Nat
  | .mk _ s l => 1 + s.length + totAll l
def totAll : List Sp → Nat
  | [] => 0
  | x :: r => totOne x + totAll r
end
theorem totOne_eq (x : Sp) : totOne x = 1 + x.s.length + totAll x.kids := by obtain ⟨k, s, l⟩ := x; unfold totOne; rfl
theorem totAll_cons (x : Sp) (r : List Sp) : totAll (x :: r) = totOne x + totAll r := by rw [totAll]
theorem totAll_mem : ∀ {l : List Sp} {x : Sp}, x ∈ l → totOne x ≤ totAll l
  | [], x, h => by cases h
  | y :: r, x, h => by
    rw [totAll_cons]
    rcases List.mem_cons.1 h with rfl | h
    · omega
    · have := totAll_mem h; omega
theorem totAll_kids {l : List Sp} {x : Sp} (h : x ∈ l) : totAll x.kids < totAll l := by
  have h1 := totAll_mem h
  rw [totOne_eq] at h1
  omega
theorem totAll_len : ∀ l : List Sp, l.length ≤ totAll l
  | [] => Nat.zero_le _
  | x :: r => by
    have := totAll_len r
    rw [totAll_cons, totOne_eq, List.length_cons]
    omega
mutual
def dpOne (d : Nat) : Sp → Prop
  | .mk _ _ l => dpAll (d - 1) l
def dpAll (d : Nat) : List Sp → Prop
  | [] => True
  | x :: r => 0 < d ∧ dpOne d x ∧ dpAll d r
end
mutual
theorem spOne_small (deep : Nat) (left n : Int) (hn : 0 ≤ n) : ∀ x : Sp, spOne deep left n x < 1000000 → spOne deep left n x = n + totOne x ∧ dpOne deep x
  | .mk k s l, h => by
    unfold spOne at h ⊢
    have h0 := spAll_ge (deep - 1) (left - (n + 1 + s.length)) 0 l
    obtain ⟨h1, h2⟩ := spAll_small (deep - 1) (left - (n + 1 + s.length)) 0 (by omega) l (by omega)
    unfold totOne dpOne
    refine ⟨by omega, h2⟩
theorem spAll_small (deep : Nat) (left n : Int) (hn : 0 ≤ n) : ∀ l : List Sp, spAll deep left n l < 1000000 → spAll deep left n l = n + totAll l ∧ dpAll deep l
  | [], h => by unfold spAll totAll dpAll; exact ⟨by omega, trivial⟩
  | x :: r, h => by
    rw [spAll_cons] at h ⊢
    split at h
    · omega
    · rename_i hc
      rw [if_neg hc]
      have g1 := spOne_ge deep left n x
      have g2 := spAll_ge deep left (spOne deep left n x) r
      obtain ⟨h1, h2⟩ := spOne_small deep left n hn x (by omega)
      obtain ⟨h3, h4⟩ := spAll_small deep left (spOne deep left n x) (by omega) r h
      unfold dpAll
      rw [totAll_cons]
      exact ⟨by omega, by omega, h2, h4⟩
end
theorem drop_cons (l : List Sp) (k : Nat) (h : k < l.length) : l.drop k = l[k] :: l.drop (k + 1) := List.drop_eq_getElem_cons h
set_option maxHeartbeats 3200000 in
set_option maxRecDepth 100000 in
theorem spend_any (m : Nat) : ∀ (l : List Sp) (deep : Nat) (left : Int) (v : Value) (w : World), totAll l ≤ m → Tr w v l → fitAll reachBytes l → deep ≤ 30 → left ≤ 5000 → -281474976710656 ≤ left →
    Calls Tryz.prog 55 #[v, .int .i64 deep, .int .i64 left] w fun e w' => e = .returned (.int .i64 (spAll deep left 0 l)) ∧ w = w' := by
  induction m using Nat.strongRecOn with
  | ind m ih =>
    intro l deep left v w hm ht hf hd hl hl2
    obtain ⟨ao, ca, rfl⟩ := ht.len
    have F := Lib.hid ht.at
    have hlen := ht.short
    have hr : reachBytes ≤ 140737488355328 := by decide
    have HV : Hid (spAll deep left 0 l ≤ 31 * 140737492355328) := Lib.hid (by
      by_cases h0 : (0 : Int) < left
      · have := spAll_le deep left 0 hl (by omega) l hf h0
        omega
      · have := spAll_cut (deep := deep) (left := left) (n := 0) (by omega) l
        omega)
    have HX := Lib.hid (fun k (hk : k < l.length) => fitAll_at hf l[k] (List.getElem_mem hk))
    have HIH : Hid (∀ k (hk : k < l.length) (left' : Int) (v' : Value) (w' : World), 0 < deep → Tr w' v' l[k].kids → left' ≤ 5000 → -281474976710656 ≤ left' →
        Calls Tryz.prog 55 #[v', .int .i64 ((deep : Int) - 1), .int .i64 left'] w' fun e w'' => e = .returned (.int .i64 (spAll (deep - 1) left' 0 l[k].kids)) ∧ w' = w'') := Lib.hid (fun k hk left' v' w' h0 ht' h1 h2 => by
      have := ih (totAll l[k].kids) (Nat.lt_of_lt_of_le (totAll_kids (List.getElem_mem hk)) hm) l[k].kids (deep - 1) left' v' w' (Nat.le_refl _) ht' (fitOne_kids (fitAll_at hf _ (List.getElem_mem hk))) (by omega) h1 h2
      rwa [show ((deep - 1 : Nat) : Int) = (deep : Int) - 1 by omega] at this)
    have H0 : Hid (spAll deep left 0 l = spAll deep left 0 (l.drop 0)) := Lib.hid (by rw [List.drop_zero])
    obtain ⟨X, hX⟩ : ∃ X, spAll deep left 0 l = X := ⟨_, rfl⟩
    rw [hX] at HV H0
    rw [hX]
    clear ih ht hf hm hX
    go_enter Tryz.func55, Tryz.ntmps55
    go_wp2_with fail
    go_loop [7, 11] (fun s i => ∃ (k : Nat) (n : Int), k ≤ l.length ∧ 0 ≤ n ∧ i = .int .i64 k ∧ s = .int .i64 n ∧ Hid (X = spAll deep left n (l.drop k))) (fun _ i => l.length - (intOf i).toNat)
    case atStart => exact ⟨0, 0, Nat.zero_le _, by omega, rfl, rfl, H0⟩
    case round =>
      clear H0
      obtain ⟨k, n, hk, hn, rfl, rfl, HN⟩ := hrel
      have hle : n ≤ 31 * 140737492355328 := by
        have h1 := HN.out
        have h2 := spAll_ge deep left n (l.drop k)
        have h3 := HV.out
        omega
      by_cases hlt : k < l.length
      · have hnx := HN.out
        rw [drop_cons l k hlt, spAll_cons] at hnx
        have hi1 : (k : Int) < (l.length : Int) := by omega
        by_cases hc : deep = 0 ∨ left ≤ n
        · rw [if_pos hc] at hnx
          have HQ := Lib.hid hnx
          clear hnx HN
          by_cases h0 : deep = 0
          · have e1 : ((deep : Int) == 0) = true := by rw [h0]; rfl
            clear hc h0
            go_wp2_with fail
            go_ret
            exact ⟨ret_int (by rw [HQ.out]), rfl⟩
          · have e1 : ((deep : Int) == 0) = false := by rw [beq_eq_false_iff_ne]; omega
            have e2 : decide (n ≥ left) = true := decide_eq_true (by omega)
            have e3 : decide (left ≤ n) = true := decide_eq_true (by omega)
            clear hc h0
            go_wp2_with fail
            go_ret
            exact ⟨ret_int (by rw [HQ.out]), rfl⟩
        · rw [if_neg hc, spOne_eq] at hnx
          have e1 : ((deep : Int) == 0) = false := by rw [beq_eq_false_iff_ne]; omega
          have e2 : decide (n ≥ left) = false := decide_eq_false (by omega)
          have e3 : decide (left ≤ n) = false := decide_eq_false (by omega)
          obtain ⟨b, o, ak, ck, rfl, hb, hC⟩ := F.out k hlt
          have c1 := hC.s
          have c2 := hC.kids
          have hs := fitOne_s (HX.out k hlt)
          have hsz : (S l[k].s).size = l[k].s.length := S_size _
          have HC := Lib.hid (HIH.out k hlt (left - (n + 1 + l[k].s.length)) _ w (by omega) hC.tr (by omega) (by omega))
          have HQ := Lib.hid hnx
          have hval : n + 1 + (l[k].s.length : Int) + spAll (deep - 1) (left - (n + 1 + l[k].s.length)) 0 l[k].kids ≤ 31 * 140737492355328 := by
            have h2 := spAll_ge deep left (n + 1 + (l[k].s.length : Int) + spAll (deep - 1) (left - (n + 1 + l[k].s.length)) 0 l[k].kids) (l.drop (k + 1))
            have h3 := HV.out
            omega
          have hval0 := spAll_ge (deep - 1) (left - (n + 1 + l[k].s.length)) 0 l[k].kids
          clear hnx HN hC hc
          generalize spAll (deep - 1) (left - (n + 1 + l[k].s.length)) 0 l[k].kids = z at *
          generalize l[k].kids.length = kn at *
          generalize l[k].s = s at *
          generalize S s = ss at *
          generalize hsl : (s.length : Int) = sl at *
          have hsz' : (ss.size : Int) = sl := by omega
          have hsl0 : 0 ≤ sl ∧ sl ≤ 140737488355328 := by omega
          have wr1 : IntKind.i64.wrap (n + 1) = n + 1 := by rw [IntKind.wrap_i64]; omega
          have wr2 : IntKind.i64.wrap (n + 1 + sl) = n + 1 + sl := by rw [IntKind.wrap_i64]; omega
          go_wp2_with fail
          refine calls_at (by simp) HC.out ?_
          rintro e w1 ⟨rfl, rfl⟩
          clear HC
          go_wp2_with fail
          go_round
          case rel => exact ⟨k + 1, n + 1 + sl + z, by omega, by omega, by go_num, rfl, HQ⟩
          case measure => simp [intOf]; omega
      · obtain rfl : k = l.length := by omega
        have hnx := HN.out
        rw [List.drop_length] at hnx
        have HQ : Hid (X = n) := Lib.hid (by rw [hnx]; unfold spAll; rfl)
        clear hnx HN hlt
        go_wp2_with fail
        go_ret
        exact ⟨ret_int (by rw [HQ.out]), rfl⟩
theorem size_any (l : List Sp) (v : Value) (w : World) (ht : Tr w v l) (hf : fitAll reachBytes l) :
    Calls Tryz.prog 34 #[v, .int .i64 30] w fun e w' => e = .returned (.int .i64 (spAll 30 5000 0 l)) ∧ w = w' := by
  have H := Lib.hid (spend_any (totAll l) l 30 5000 v w (Nat.le_refl _) ht hf (by omega) (by omega) (by omega))
  clear ht hf
  go_enter Tryz.func34, Tryz.ntmps34
  go_wp2_with fail
  refine H.out.mono ?_
  rintro e w1 ⟨rfl, rfl⟩
  clear H
  go_wp2_with fail
  go_ret
  exact ⟨rfl, rfl⟩
end Go.Proofs.YtldllbmbcnipoabGreatDoor.Sp
