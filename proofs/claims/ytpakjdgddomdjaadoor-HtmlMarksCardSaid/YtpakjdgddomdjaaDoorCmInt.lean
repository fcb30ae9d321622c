/-
  COMMON WORDS of walks over []int and [][]int: slices that read as numbers, rows of the call's own, rows that are filled, tables. No function of the program is named.
-/
import Derived.Test.YtpakjdgddomdjaaDoorProg
import Derived.Lib.Hide
import Derived.WalkKit
import Derived.Deep.QuietTactic
import Derived.Deep.RegionHeld3
import Derived.StillTailTactics
import Derived.Lib.MinMax
import Derived.WalkMore
import Derived.BigQuiet
import Derived.WalkSmall
import Derived.Laws.AppendOwnNone
import Derived.Laws.OwnMore
import Derived.Lib.AppendZeros
namespace Go.Proofs.YtpakjdgddomdjaaDoor.Cm
open Go.RowKit
set_option linter.unusedVariables false

theorem ret_int {x y : Int} (h : x = y) : Ending.returned (.int .i64 x) = Ending.returned (.int .i64 y) := by rw [h]
theorem geti {xs : List Int} {k : Nat} (h : k < xs.length) : xs[k]? = some xs[k] := List.getElem?_eq_getElem h
theorem infoI : (Tryd.prog.info? 3).map (fun i => (i.zero, i.size, i.bytes)) = some (some (.int .i64 0), 1, 8) := by kernel_rfl

/-- A slice that reads as these numbers. -/
def Rz (w : World) (v : Value) (xs : List Int) : Prop :=
  ∃ ao cap, v = .slice ao xs.length cap ∧ xs.length ≤ cap ∧ (xs = [] ∨ ∃ b o, ao = some ⟨b, o, none⟩ ∧ b < w.heap.size ∧ ∀ j x, xs[j]? = some x → w.cell? ⟨b, o + j, none⟩ = some (.int .i64 x))
theorem Rz.below {w w' : World} {v : Value} {xs : List Int} (h : Rz w v xs) (hb : Below w.heap.size w w') : Rz w' v xs := by
  obtain ⟨ao, cap, hv, hc, hx⟩ := h
  refine ⟨ao, cap, hv, hc, ?_⟩
  rcases hx with hx | ⟨b, o, hao, hlt, hcell⟩
  · exact Or.inl hx
  · exact Or.inr ⟨b, o, hao, Nat.lt_of_lt_of_le hlt hb.size, fun j x hj => (hb.cell (by exact hlt)).trans (hcell j x hj)⟩
theorem Rz.len {w : World} {v : Value} {xs : List Int} (h : Rz w v xs) : ∃ ao cap, v = .slice ao xs.length cap := by
  obtain ⟨ao, cap, hv, _⟩ := h; exact ⟨ao, cap, hv⟩
theorem Rz.at {w : World} {ao : Option Addr} {n c : Nat} {xs : List Int} (h : Rz w (.slice ao n c) xs) : ∀ i (hi : i < xs.length), ∃ b o, ao = some ⟨b, o, none⟩ ∧ b < w.heap.size ∧ w.cell? ⟨b, o + i, none⟩ = some (.int .i64 xs[i]) := by
  intro i hi
  obtain ⟨ao', c', hv, _, hx⟩ := h
  simp only [Value.slice.injEq] at hv
  obtain ⟨rfl, _, _⟩ := hv
  rcases hx with hx | ⟨b, o, rfl, hlt, hcell⟩
  · rw [hx] at hi; exact absurd hi (Nat.not_lt_zero _)
  · exact ⟨b, o, rfl, hlt, hcell i _ (geti hi)⟩
theorem Rz.of_own {w : World} {B : Nat} {v : Value} {xs : List Int} (h : w.ownsRow B 3 1 v xs.length (xs.map (Value.int .i64))) : Rz w v xs := by
  rcases h.2 with ⟨hv, hn⟩ | ⟨g, cap, cur, hv, hB, hg, hn, hm, hsz, ht⟩
  · exact ⟨none, 0, by rw [hv, hn], by omega, Or.inl (List.eq_nil_of_length_eq_zero hn)⟩
  · refine ⟨_, cap, hv, hn, Or.inr ⟨g, 0, rfl, (Array.getElem?_eq_some_iff.1 hg).1, fun j x hj => ?_⟩⟩
    have hjl := (List.getElem?_eq_some_iff.1 hj).1
    subst hv
    rw [Nat.zero_add, h.cellAt j (by omega), List.getElem?_map, hj]
    rfl
/-- A part of a slice: 's[i:j]', where its address is as the model writes it. -/
theorem newsI1 {wr : World} {x : Int} {t : TypeId} : ∀ (j : Nat) (u : Value), [Value.int .i64 x][j]? = some u → (wr.alloc (.cells #[.int .i64 x] t)).cell? (Addr.add ⟨wr.heap.size, 0, none⟩ j) = some u := by
  intro j u hj
  match j, hj with
  | 0, hj => simp at hj; subst hj; simp [Addr.add]
theorem newsI2 {x : Int} : ∀ u ∈ [Value.int .i64 x], u.oneCell' = true := by
  intro u hu; simp at hu; subst hu; rfl
theorem own_pushI {B : Nat} {w wr w1 : World} {v v' : Value} {o : List Int} {y : Int} {ob : Obj} (hown : wr.ownsRow B 3 1 v o.length (o.map (Value.int .i64))) (hb : Below B w wr) (hB : B ≤ wr.heap.size)
    (hown' : w1.ownsRow B 3 1 v' (o.length + 1) (o.map (Value.int .i64) ++ [.int .i64 y])) (hgrow : (wr.alloc ob).grownBy w1 v.ownBlock) :
    w1.ownsRow B 3 1 v' (o ++ [y]).length ((o ++ [y]).map (Value.int .i64)) ∧ Below B w w1 := by
  refine ⟨?_, (hb.alloc hB ob).grown hgrow (by simp; omega) (fun j hj => (hown.lt j hj).1)⟩
  rw [List.length_append, List.map_append]
  exact hown'
theorem own_len {w : World} {B e z n : Nat} {v : Value} {xs : List Value} (h : w.ownsRow B e z v n xs) : ∃ ao cap, v = .slice ao n cap := by
  rcases h.2 with ⟨rfl, rfl⟩ | ⟨g, cap, _, rfl, _⟩
  · exact ⟨_, _, rfl⟩
  · exact ⟨_, _, rfl⟩
theorem own_block {w w' : World} {B e z n c g : Nat} {xs : List Value} (h : w.ownsRow B e z (.slice (some ⟨g, 0, none⟩) n c) n xs) (hh : w'.heap[g]? = w.heap[g]?) : w'.ownsRow B e z (.slice (some ⟨g, 0, none⟩) n c) n xs := by
  refine ⟨h.1, ?_⟩
  rcases h.2 with hn | ⟨g', cap, cur, hv, hg, hgg, rest⟩
  · simp at hn
  · simp only [Value.slice.injEq, Option.some.injEq, Addr.mk.injEq, and_true, true_and] at hv
    obtain ⟨rfl, rfl⟩ := hv
    exact .inr ⟨g, c, cur, rfl, hg, by rw [hh]; exact hgg, rest⟩
theorem enc_oneI (xs : List Int) : ∀ u ∈ xs.map (Value.int .i64), u.oneCell' = true := by
  intro u hu
  obtain ⟨x, _, rfl⟩ := List.mem_map.1 hu
  rfl
theorem enc_cellsI {w : World} {b o : Nat} {xs : List Int} (h : ∀ j x, xs[j]? = some x → w.cell? ⟨b, o + j, none⟩ = some (.int .i64 x)) :
    ∀ j u, (xs.map (Value.int .i64))[j]? = some u → w.cell? (Addr.add ⟨b, o, none⟩ j) = some u := by
  intro j u hj
  rw [List.getElem?_map] at hj
  cases hx : xs[j]? with
  | none => rw [hx] at hj; simp at hj
  | some x =>
    rw [hx] at hj
    simp only [Option.map_some, Option.some.injEq] at hj
    subst hj
    rw [show (Addr.add ⟨b, o, none⟩ j) = ⟨b, o + j, none⟩ by simp [Addr.add]]
    exact h j x hx
/-- A contract at arguments that are typed out. -/
theorem calls_at {P : Program} {f : FuncId} {args args' : Array Value} {w : World} {Q Q' : Ending → World → Prop} (h : args' = args) (c : Calls P f args w Q) (k : ∀ e w', Q e w' → Q' e w') : Calls P f args' w Q' := by
  subst h; exact c.mono k
theorem sym_of {P : Program} {f : FuncId} {args : Array Value} {w : World} {v : Value} (h : Calls P f args w fun e w' => e = .returned v ∧ w = w') : Calls P f args w fun e w' => e = .returned v ∧ w' = w := h.mono fun _ _ ⟨a, b⟩ => ⟨a, b.symm⟩
theorem of_drew {w w' : World} (h : Below w.drew.heap.size w.drew w') : Below w.heap.size w w' := ⟨h.os, h.tape, h.output, h.size, h.block⟩
theorem of_drewN {w w' : World} {n : Nat} (h : Below (w.drewN n).heap.size (w.drewN n) w') : Below w.heap.size w w' := ⟨h.os, h.tape, h.output, h.size, h.block⟩
theorem own_drewN {w : World} {B : Nat} {e : TypeId} {z n : Nat} {v : Value} {xs : List Value} (h : w.ownsRow B e z v n xs) (m : Nat) : (w.drewN m).ownsRow B e z v n xs := h
theorem take_nextI {xs ys : List Int} {k : Nat} (h1 : k < xs.length) (h2 : k < ys.length) (h : xs.take k = ys.take k) (e : xs[k] = ys[k]) : xs.take (k + 1) = ys.take (k + 1) := by
  rw [List.take_add_one, List.take_add_one, geti h1, geti h2, h, e]

end Go.Proofs.YtpakjdgddomdjaaDoor.Cm
