/-
  WHAT THE STATEMENTS ABOUT Ids HAND IN AND READ: slices of slices that the law itself makes, and the numbers that come back.
-/
import Derived.Test.YtjhmjdacjaefaaaTkRids
import Derived.Test.YtjhmjdacjaefaaaTkFrame
import Derived.Deep.RegionHeld3
namespace Go.Proofs.Ytjhmjdacjaefaaa.Tk
open Go.RowKit
set_option linter.unusedVariables false

/-- A contract at arguments that are typed out. -/
theorem calls_at {P : Program} {f : FuncId} {args args' : Array Value} {w : World} {Q Q' : Ending → World → Prop} (h : args' = args) (c : Calls P f args w Q) (k : ∀ e w', Q e w' → Q' e w') : Calls P f args' w Q' := by
  subst h; exact c.mono k
theorem rdl_alloc {w : World} {t : TypeId} (vs : Array Value) (ls : List (List Tx)) (h : ∀ (j : Nat) (x : List Tx), ls[j]? = some x → ∃ u : Value, vs[j]? = some u ∧ Rd w u x) (n : Nat) : RdL (w.alloc (.cells vs t)) (.slice (some ⟨w.heap.size, 0, none⟩) ls.length n) ls := by
  refine ⟨_, n, rfl, Or.inr ⟨w.heap.size, 0, rfl, by simp, fun j x hj => ?_⟩⟩
  obtain ⟨u, h1, h2⟩ := h j x hj
  refine ⟨u, ?_, h2.below ((Below.refl _ _).alloc (Nat.le_refl _) _)⟩
  rw [Nat.zero_add, World.cell?_alloc_new]
  exact h1
theorem rdl2 {w : World} {t : TypeId} {a b : Value} {x y : List Tx} (ha : Rd w a x) (hb : Rd w b y) : RdL (w.alloc (.cells #[a, b] t)) (.slice (some ⟨w.heap.size, 0, none⟩) 2 2) [x, y] :=
  rdl_alloc #[a, b] [x, y] (fun j z hj => by
    match j, hj with
    | 0, hj => simp at hj; subst hj; exact ⟨a, rfl, ha⟩
    | 1, hj => simp at hj; subst hj; exact ⟨b, rfl, hb⟩) 2
theorem rdl3 {w : World} {t : TypeId} {a b c : Value} {x y z : List Tx} (ha : Rd w a x) (hb : Rd w b y) (hc : Rd w c z) : RdL (w.alloc (.cells #[a, b, c] t)) (.slice (some ⟨w.heap.size, 0, none⟩) 3 3) [x, y, z] :=
  rdl_alloc #[a, b, c] [x, y, z] (fun j z hj => by
    match j, hj with
    | 0, hj => simp at hj; subst hj; exact ⟨a, rfl, ha⟩
    | 1, hj => simp at hj; subst hj; exact ⟨b, rfl, hb⟩
    | 2, hj => simp at hj; subst hj; exact ⟨c, rfl, hc⟩) 3
theorem rdl4 {w : World} {t : TypeId} {a b : Value} {x y : List Tx} (ha : Rd w a x) (hb : Rd w b y) : RdL (w.alloc (.cells #[a, b, a, b] t)) (.slice (some ⟨w.heap.size, 0, none⟩) 4 4) [x, y, x, y] :=
  rdl_alloc #[a, b, a, b] [x, y, x, y] (fun j z hj => by
    match j, hj with
    | 0, hj => simp at hj; subst hj; exact ⟨a, rfl, ha⟩
    | 1, hj => simp at hj; subst hj; exact ⟨b, rfl, hb⟩
    | 2, hj => simp at hj; subst hj; exact ⟨a, rfl, ha⟩
    | 3, hj => simp at hj; subst hj; exact ⟨b, rfl, hb⟩) 4
theorem rk_same {all all' : List Tx} (h : ∀ y, y ∈ all ↔ y ∈ all') (l : List Tx) : rk all l = rk all' l := List.map_congr_left (fun x _ => by rw [rank_same h])
theorem rk_len (all l : List Tx) : (rk all l).length = l.length := List.length_map _
theorem flat_few {xs : List (List Tx)} (n m : Nat) (hn : xs.length ≤ n) (h : ∀ x ∈ xs, x.length ≤ m) : xs.flatten.length ≤ n * m := by
  have : ∀ ys : List (List Tx), (∀ x ∈ ys, x.length ≤ m) → ys.flatten.length ≤ ys.length * m := by
    intro ys
    induction ys with
    | nil => intro _; simp
    | cons y ys ih =>
      intro h
      have h1 := ih (fun x hx => h x (List.mem_cons_of_mem _ hx))
      have h2 := h y (List.mem_cons_self ..)
      rw [List.flatten_cons, List.length_append, List.length_cons, Nat.succ_mul]
      omega
  exact Nat.le_trans (this xs h) (Nat.mul_le_mul_right _ hn)
theorem of_drew {w w' : World} (h : Below w.drew.heap.size w.drew w') : Below w.heap.size w w' := ⟨h.os, h.tape, h.output, h.size, h.block⟩
theorem of_drewN {w w' : World} {n : Nat} (h : Below (w.drewN n).heap.size (w.drewN n) w') : Below w.heap.size w w' := ⟨h.os, h.tape, h.output, h.size, h.block⟩
theorem RdI.drew {lo : Nat} {w : World} {v : Value} {ks : List Int} (h : RdI lo w v ks) (n : Nat) : RdI lo (w.drewN n) v ks := h

end Go.Proofs.Ytjhmjdacjaefaaa.Tk
