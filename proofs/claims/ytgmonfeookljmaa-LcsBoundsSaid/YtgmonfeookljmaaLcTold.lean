/-
  WHAT IS ASKED OF THE PROGRAM's Length, Pairs and Dice (package lcs): the walks of the statements lean on it.
-/
import Derived.Test.YtgmonfeookljmaaLcHelp
import Derived.Test.YtgmonfeookljmaaCmFrame
namespace Go.Proofs.Ytgmonfeookljmaa.Lc
open Go.RowKit Go.Proofs.Ytgmonfeookljmaa.Cm
set_option linter.unusedVariables false

structure ToldL : Prop where
  length : ∀ (va vb : Value) (a b : List Int) (w : World), Rz w va a → Rz w vb b → a.length ≤ 200 → b.length ≤ 200 →
    Calls Try.prog 10 #[va, vb] w fun e w' => e = .returned (.int .i64 (lcs a b)) ∧ Below w.heap.size w w'
  dice : ∀ (va vb : Value) (a b : List Int) (w : World), Rz w va a → Rz w vb b → a.length ≤ 200 → b.length ≤ 200 →
    Calls Try.prog 16 #[va, vb] w fun e w' => e = .returned (.int .i64 (dice a b)) ∧ Below w.heap.size w w'
structure Told : Prop extends ToldL where
  pairs : ∀ (va vb : Value) (a b : List Int) (w : World), Rz w va a → Rz w vb b → a.length ≤ 200 → b.length ≤ 200 →
    Calls Try.prog 14 #[va, vb] w fun e w' => ∃ v, e = .returned v ∧ Rk 2 encP w' v (pairs a b) ∧ Below w.heap.size w w'
theorem rz_lit {w : World} {xs : List Int} {us : Array Value} {t : TypeId} (h : us.toList = xs.map (Value.int .i64)) : Rz (w.alloc (.cells us t)) (.slice (some ⟨w.heap.size, 0, none⟩) xs.length xs.length) xs := by
  refine ⟨_, _, rfl, Nat.le_refl _, Or.inr ⟨w.heap.size, 0, rfl, by simp, fun j x hj => ?_⟩⟩
  rw [Nat.zero_add, World.cell?_alloc_new, ← Array.getElem?_toList, h, List.getElem?_map, hj]
  rfl
theorem rz_nil (w : World) : Rz w (.slice none 0 0) [] := ⟨none, 0, rfl, Nat.le_refl _, Or.inl rfl⟩

set_option maxHeartbeats 800000 in
theorem awake_any (K : ToldL) (w : World) :
    Calls Try.prog 9 #[] w fun e w' => e = .returned (.bool true) ∧ Below w.heap.size w w' := by
  have h1 : ∀ w1 : World, Below (w1.alloc (.cells #[.int .i64 1, .int .i64 2, .int .i64 3] 3)).heap.size (w1.alloc (.cells #[.int .i64 1, .int .i64 2, .int .i64 3] 3)) ((w1.alloc (.cells #[.int .i64 1, .int .i64 2, .int .i64 3] 3)).alloc (.cells #[.int .i64 2, .int .i64 3, .int .i64 1] 3)) := fun w1 => (Below.refl _ _).alloc (Nat.le_refl _) _
  have hl := K.length _ _ [1, 2, 3] [2, 3, 1] ((w.alloc (.cells #[.int .i64 1, .int .i64 2, .int .i64 3] 3)).alloc (.cells #[.int .i64 2, .int .i64 3, .int .i64 1] 3)) ((rz_lit rfl).below (h1 w)) (rz_lit rfl) (by decide) (by decide)
  rw [show lcs [1, 2, 3] [2, 3, 1] = 2 from by simp [lcs]] at hl
  have HL := Lib.hid hl
  have HB := Lib.hid (((Below.refl w.heap.size w).alloc (Nat.le_refl _) (.cells #[.int .i64 1, .int .i64 2, .int .i64 3] 3)).alloc (by simp) (.cells #[.int .i64 2, .int .i64 3, .int .i64 1] 3))
  have HD : Hid (∀ w, Calls Try.prog 16 #[.slice none 0 0, .slice none 0 0] w fun e w' => e = .returned (.int .i64 1000) ∧ Below w.heap.size w w') := Lib.hid (fun w => K.dice _ _ [] [] w (rz_nil w) (rz_nil w) (by decide) (by decide))
  clear hl h1
  go_enter Try.func9, Try.ntmps9
  go_wp2_with fail
  refine calls_at (by simp) HL.out ?_
  rintro e w1 ⟨rfl, hb⟩
  have B1 := Lib.hid (HB.out.trans (hb.mono (by simp; omega)))
  clear hb
  go_wp2_with fail
  refine (HD.out _).mono ?_
  rintro e w2 ⟨rfl, hb2⟩
  have B2 := Lib.hid (B1.out.trans (hb2.mono B1.out.size))
  clear hb2
  go_wp2_with fail
  go_ret
  exact ⟨rfl, B2.out⟩

end Go.Proofs.Ytgmonfeookljmaa.Lc
