/-
  COMMON WORDS on columns in memory (package lcs), and the CONTRACTS of wordOf, columnOf, lastColumn.
-/
import Derived.Test.YtbfclmhcoelplaaLcBits
import Derived.Test.YtbfclmhcoelplaaCmInt
import Derived.Laws.BitsAllLaws
import Derived.Deep.Cut
import Derived.Test.YtbfclmhcoelplaaLcTable
namespace Go.Proofs.Ytbfclmhcoelplaa.Lp
open Go.RowKit Go.Proofs.Ytbfclmhcoelplaa.Cm Go.Proofs.Ytbfclmhcoelplaa.Lc Go.Proofs.Ytbfclmhcoelplaa.Lcx
set_option linter.unusedVariables false

/-- What lay there lies there still, but for some blocks. -/
structure Keep (S : Nat → Prop) (w w' : World) : Prop where
  os : w'.os = w.os
  tape : w'.tape = w.tape
  output : w'.output = w.output
  size : w.heap.size ≤ w'.heap.size
  block : ∀ k, k < w.heap.size → ¬ S k → w'.heap[k]? = w.heap[k]?
theorem Keep.refl (S : Nat → Prop) (w : World) : Keep S w w := ⟨rfl, rfl, rfl, Nat.le_refl _, fun _ _ _ => rfl⟩
theorem Keep.trans {S : Nat → Prop} {a b c : World} (h : Keep S a b) (k : Keep S b c) : Keep S a c :=
  ⟨k.os.trans h.os, k.tape.trans h.tape, k.output.trans h.output, Nat.le_trans h.size k.size, fun i hi hs => (k.block i (Nat.lt_of_lt_of_le hi h.size) hs).trans (h.block i hi hs)⟩
theorem Keep.mono {S T : Nat → Prop} {a b : World} (h : Keep S a b) (hST : ∀ k, k < a.heap.size → S k → T k) : Keep T a b :=
  ⟨h.os, h.tape, h.output, h.size, fun i hi ht => h.block i hi (fun hs => ht (hST i hi hs))⟩
theorem Keep.below {S : Nat → Prop} {a b : World} {B : Nat} (h : Keep S a b) (hS : ∀ k, S k → B ≤ k) (hB : B ≤ a.heap.size) : Below B a b :=
  ⟨h.os, h.tape, h.output, h.size, fun k hk => h.block k (by omega) (fun hs => by have := hS k hs; omega)⟩
theorem Keep.of_below {S : Nat → Prop} {a b : World} (h : Below a.heap.size a b) : Keep S a b :=
  ⟨h.os, h.tape, h.output, h.size, fun k hk _ => h.block k hk⟩
theorem Keep.alloc {S : Nat → Prop} {a w : World} (h : Keep S a w) (o : Obj) : Keep S a (w.alloc o) :=
  h.trans ⟨rfl, rfl, rfl, by simp, fun k hk _ => Below.heap_alloc _ _ _ hk⟩
theorem Keep.setCell {S : Nat → Prop} {a w : World} (h : Keep S a w) {p : Addr} (hp : S p.block ∨ a.heap.size ≤ p.block) (u : Value) : Keep S a (w.setCell p u) :=
  ⟨h.os, h.tape, h.output, by simpa [World.setCell] using h.size, fun k hk hs => (Below.heap_setCell _ _ _ _ (fun e => by
    subst e; rcases hp with hp | hp
    · exact hs hp
    · omega)).trans (h.block k hk hs)⟩
theorem Keep.drew {S : Nat → Prop} {a w : World} (h : Keep S a w) : Keep S a w.drew := ⟨h.os, h.tape, h.output, h.size, h.block⟩
theorem Keep.drewN {S : Nat → Prop} {a w : World} (h : Keep S a w) (n : Nat) : Keep S a (w.drewN n) := ⟨h.os, h.tape, h.output, h.size, h.block⟩
theorem Keep.grown {S : Nat → Prop} {a w w' : World} {row : Option Nat} (h : Keep S a w) (hg : w.grownBy w' row) (hr : ∀ k, row = some k → S k ∨ a.heap.size ≤ k) : Keep S a w' :=
  ⟨hg.os.trans h.os, hg.tape.trans h.tape, hg.output.trans h.output, Nat.le_trans h.size hg.size, fun k hk hs => (hg.block k (Nat.lt_of_lt_of_le hk h.size) (fun e => by
    rcases hr k e.symm with h1 | h1
    · exact hs h1
    · omega)).trans (h.block k hk hs)⟩
theorem Keep.at {S : Nat → Prop} {a b : World} (h : Keep S a b) {k : Nat} {o : Obj} (hk : a.heap[k]? = some o) (hs : ¬ S k) : b.heap[k]? = some o :=
  (h.block k (Array.getElem?_eq_some_iff.1 hk).1 hs).trans hk
theorem lt_of_at {w : World} {k : Nat} {o : Obj} (hk : w.heap[k]? = some o) : k < w.heap.size := (Array.getElem?_eq_some_iff.1 hk).1
theorem cell_at {w : World} {b : Nat} {c : Array Value} {t : TypeId} {f : Nat × Nat} (h : w.heap[b]? = some (.cells c t f)) (i : Nat) : w.cell? ⟨b, i, none⟩ = c[i]? := by simp [World.cell?, h]
theorem frozen_at {w : World} {b : Nat} {c : Array Value} {t : TypeId} (h : w.heap[b]? = some (.cells c t (0, 0))) (i : Nat) : w.frozen? ⟨b, i, none⟩ = false := by simp [World.frozen?, h]
theorem set_at {w : World} {b : Nat} {c : Array Value} {t : TypeId} {f : Nat × Nat} (h : w.heap[b]? = some (.cells c t f)) (i : Nat) (v : Value) : (w.setCell ⟨b, i, none⟩ v).heap[b]? = some (.cells (c.setIfInBounds i v) t f) := by
  simp [World.setCell, Array.getElem?_modify, h]
theorem set_other {w : World} {b b' : Nat} {o : Obj} (h : w.heap[b]? = some o) {i : Nat} {v : Value} (hne : b ≠ b') : (w.setCell ⟨b', i, none⟩ v).heap[b]? = some o :=
  (Below.heap_setCell _ _ _ _ hne).trans h
theorem alloc_at {w : World} {b : Nat} {o : Obj} (h : w.heap[b]? = some o) (o' : Obj) : (w.alloc o').heap[b]? = some o :=
  (Below.heap_alloc _ _ _ (lt_of_at h)).trans h

theorem alloc_new (w : World) (o : Obj) : (w.alloc o).heap[w.heap.size]? = some o := by
  show (w.heap.push o)[w.heap.size]? = _
  simp

/-- The words of a column: the slice v, of W words, in block B. -/
def Wd (w : World) (v : Value) (W B : Nat) (X : Nat → Nat) : Prop :=
  (W = 0 ∧ ∃ ao c, v = .slice ao 0 c) ∨
  (0 < W ∧ ∃ cap cur, v = .slice (some ⟨B, 0, none⟩) W cap ∧ W ≤ cap ∧ w.heap[B]? = some (.cells cur 85 (0, 0)) ∧ W ≤ cur.size ∧ ∀ q, q < W → cur[q]? = some (.int .u64 (X q)))
/-- A column. -/
def Col (w : World) (C : Nat) (v : Value) (W B : Nat) (X : Nat → Nat) (t : Nat) : Prop :=
  w.heap[C]? = some (.cells #[v, .int .i64 t] 97 (0, 0)) ∧ Wd w v W B X ∧ t ≤ W ∧ ∀ q, t ≤ q → X q = 0
theorem Wd.len {w : World} {v : Value} {W B : Nat} {X : Nat → Nat} (h : Wd w v W B X) : ∃ ao c, v = .slice ao W c := by
  rcases h with ⟨rfl, ao, c, rfl⟩ | ⟨_, cap, cur, rfl, _⟩
  · exact ⟨_, _, rfl⟩
  · exact ⟨_, _, rfl⟩
theorem Wd.keep {S : Nat → Prop} {w w' : World} {v : Value} {W B : Nat} {X : Nat → Nat} (h : Wd w v W B X) (k : Keep S w w') (hB : ¬ S B) : Wd w' v W B X := by
  rcases h with h | ⟨h0, cap, cur, h1, h2, h3, h4, h5⟩
  · exact .inl h
  · exact .inr ⟨h0, cap, cur, h1, h2, k.at h3 hB, h4, h5⟩
theorem Col.keep {S : Nat → Prop} {w w' : World} {C : Nat} {v : Value} {W B t : Nat} {X : Nat → Nat} (h : Col w C v W B X t) (k : Keep S w w') (hC : ¬ S C) (hB : ¬ S B) : Col w' C v W B X t :=
  ⟨k.at h.1 hC, h.2.1.keep k hB, h.2.2⟩
theorem keep_alloc (w : World) (o : Obj) : Keep (fun _ => False) w (w.alloc o) := (Keep.refl _ w).alloc o

/-! ### wordOf -/
theorem shl_one (s : Nat) (hs : s < 64) : IntKind.u64.wrap ((2 : Int) ^ s) = ((2 ^ s : Nat) : Int) := by
  have : (2 : Nat) ^ s < 2 ^ 64 := Nat.pow_lt_pow_right (by decide) hs
  have e : ((2 : Int) ^ s) = ((2 ^ s : Nat) : Int) := by simp
  rw [IntKind.wrap_u64, e]
  generalize 2 ^ s = y at *
  omega
set_option maxHeartbeats 800000 in
theorem wordOf_any (place len : Nat) (w : World) (h : place < len) (hl : len ≤ 1000000) :
    Calls Try.prog 56 #[.int .i64 place, .int .i64 len] w fun e w' => e = .returned (.agg #[.int .i64 ((len - 1 - place) / 64 : Nat), .int .u64 (2 ^ ((len - 1 - place) % 64) : Nat)]) ∧ Below w.heap.size w w' := by
  obtain ⟨l1, h1⟩ : ∃ l1, len - 1 = l1 := ⟨_, rfl⟩
  obtain ⟨p, hp⟩ : ∃ p, l1 - place = p := ⟨_, rfl⟩
  have e1 : IntKind.i64.wrap ((len : Int) - 1) = (l1 : Int) := by rw [IntKind.wrap_i64]; omega
  have e2 : IntKind.i64.wrap ((l1 : Int) - (place : Int)) = (p : Int) := by rw [IntKind.wrap_i64]; omega
  have e1' : (len : Int) - 1 = (l1 : Int) := by omega
  have e2' : (l1 : Int) - (place : Int) = (p : Int) := by omega
  have hpb : p ≤ 1000000 := by omega
  rw [h1, hp]
  clear h1 hp
  go_enter Try.func56, Try.ntmps56
  go_wp2_with fail
  rw [shl_one (p % 64) (by omega)]
  exact bodyPost_ret (v := .agg #[.int .i64 ((p : Int) / 64), .int .u64 ((2 ^ (p % 64) : Nat) : Int)]) (by simp [results, Try.results56, go_sem]) rfl ⟨by simp, (Below.refl _ w).alloc (Nat.le_refl _) _⟩

/-! ### columnOf, lastColumn -/
theorem columnOf_any (v : Value) (W B : Nat) (X : Nat → Nat) (w : World) (h : Wd w v W B X) (h0 : ∀ q, W ≤ q → X q = 0) (hW : W ≤ 1000000) :
    Calls Try.prog 57 #[v] w fun e w' => e = .returned (.pointer (some ⟨w.heap.size, 0, none⟩)) ∧ Col w' w.heap.size v W B X W ∧ Keep (fun _ => False) w w' := by
  obtain ⟨ao, c, rfl⟩ := h.len
  have H := Lib.hid h
  have H0 := Lib.hid h0
  clear h h0
  go_enter Try.func57, Try.ntmps57
  go_wp2_with fail
  go_ret
  have K := keep_alloc w (.cells #[.slice ao W c, .int .i64 W] 97)
  exact ⟨rfl, ⟨alloc_new w _, H.out.keep K (fun h => h), Nat.le_refl _, H0.out⟩, K⟩
theorem infoU : (Try.prog.info? 85).map (fun i => (i.zero, i.size, i.bytes)) = some (some (.int .u64 0), 1, 8) := by kernel_rfl
set_option maxHeartbeats 800000 in
theorem lastColumn_any (va : Value) (a : List Int) (w : World) (ha : Rz w va a) (hla : a.length ≤ 1000000) :
    Calls Try.prog 49 #[va] w fun e w' => ∃ C v B, e = .returned (.pointer (some ⟨C, 0, none⟩)) ∧ Col w' C v ((a.length + 63) / 64) B (fun _ => 0) ((a.length + 63) / 64) ∧ w.heap.size ≤ B ∧ w.heap.size ≤ C ∧ B ≠ C ∧ B < w'.heap.size ∧ Below w.heap.size w w' := by
  obtain ⟨ao, c, rfl⟩ := ha.len
  obtain ⟨i0, hi, hz0, hz1, hz2⟩ := info_parts infoU
  clear ha
  obtain ⟨n, hn⟩ : ∃ n, a.length + 63 = n := ⟨_, rfl⟩
  obtain ⟨W, hW⟩ : ∃ W, n / 64 = W := ⟨_, rfl⟩
  have e1 : IntKind.i64.wrap ((a.length : Int) + 63) = (n : Int) := by rw [IntKind.wrap_i64]; omega
  have e1' : (a.length : Int) + 63 = (n : Int) := by omega
  have e2 : (n : Int) / 64 = (W : Int) := by omega
  rw [hn, hW]
  have hWb : W ≤ 1000000 := by omega
  clear hn hW
  go_enter Try.func49, Try.ntmps49
  go_wp2_with (at_make; refine wpList_make_full _ rfl _ _ 95 rfl w.heap.size 85 i0 (.int .u64 0) 1 Try.underlying95 hi hz0 hz1 _ _ _ _ W rfl rfl rfl rfl (by rw [hz2]; omega) (by unfold maxLen; omega) (Nat.le_refl _) ?_)
  intro w2 hown hgrow
  have hB := (hown.lt _ rfl).2
  have hw : Wd w2 (.slice (some ⟨w.heap.size, 0, none⟩) W W) W w.heap.size (fun _ => 0) := by
    by_cases h0 : W = 0
    · exact .inl ⟨h0, _, _, by rw [h0]⟩
    · rcases hown.2 with ⟨h1, _⟩ | ⟨g, cap, cur, h1, _, h2, h3, _, h4, h5⟩
      · cases h1
      · simp only [Value.slice.injEq, Option.some.injEq, Addr.mk.injEq, and_true, true_and] at h1
        obtain ⟨rfl, rfl⟩ := h1
        refine .inr ⟨by omega, _, cur, rfl, Nat.le_refl _, h2, by omega, fun q hq => ?_⟩
        have h6 := hown.cellAt q (by omega)
        rw [cell_at h2 q] at h6
        rw [h6, toList_madeCells_one, List.getElem?_replicate, if_pos hq]
        rfl
  have HC := Lib.hid (columnOf_any _ W _ _ w2 hw (fun _ _ => rfl) hWb)
  have hbel : Below w.heap.size w w2 := (Below.refl _ w).grown hgrow (Nat.le_refl _) (fun k h => by cases h)
  have HB := Lib.hid hbel
  clear hw hown hgrow hbel
  go_wp2_with fail
  refine HC.out.mono ?_
  rintro e w3 ⟨rfl, hc, hk⟩
  have R1 := Lib.hid hc
  have R2 := Lib.hid (HB.out.trans (hk.below (B := w.heap.size) (fun _ h => h.elim) HB.out.size))
  have R3 := Lib.hid HB.out.size
  have R4 : Hid (w.heap.size < w3.heap.size) := Lib.hid (by have := hk.size; omega)
  clear hc hk
  go_wp2_with fail
  go_ret
  exact ⟨_, _, _, rfl, R1.out, Nat.le_refl _, R3.out, by omega, R4.out, R2.out⟩

/-! ### put -/
theorem lit_cell {w : World} {p : Addr} {v : Value} (h : w.cell? p = some v) : ({ heap := w.heap, tape := w.tape, drawn := w.drawn + 1, os := w.os, output := w.output } : World).cell? p = some v := h
theorem lit_froz {w : World} {p : Addr} (h : w.frozen? p = false) : ({ heap := w.heap, tape := w.tape, drawn := w.drawn + 1, os := w.os, output := w.output } : World).frozen? p = false := h
def up (X : Nat → Nat) (q x : Nat) : Nat → Nat := fun i => if i = q then x else X i
theorem Wd.put {w : World} {v : Value} {W B q x : Nat} {X : Nat → Nat} (h : Wd w v W B X) (hq : q < W) : Wd (w.setCell ⟨B, q, none⟩ (.int .u64 x)) v W B (up X q x) := by
  rcases h with ⟨h0, _⟩ | ⟨h0, cap, cur, h1, h2, h3, h4, h5⟩
  · omega
  refine .inr ⟨h0, cap, _, h1, h2, set_at h3 q _, by simpa using h4, fun i hi => ?_⟩
  rw [Array.getElem?_setIfInBounds]
  unfold up
  by_cases e : q = i
  · subst e; rw [if_pos rfl, if_pos (by omega), if_pos rfl]
  · rw [if_neg e, if_neg (fun h => e h.symm)]; exact h5 i hi
set_option maxRecDepth 100000 in
set_option maxHeartbeats 1600000 in
theorem put_any (C B W t q x : Nat) (v : Value) (X : Nat → Nat) (w : World) (h : Col w C v W B X t) (hq : q < W) (hW : W ≤ 1000000) (hBC : B ≠ C) :
    Calls Try.prog 60 #[.pointer (some ⟨C, 0, none⟩), .agg #[.int .i64 q, .int .u64 x]] w fun e w' => (∃ r, e = .returned r) ∧ Col w' C v W B (up X q x) (max t (q + 1)) ∧ Keep (fun k => k = C ∨ k = B) w w' := by
  have H := Lib.hid h
  obtain ⟨h1, h2, h3, h4⟩ := h
  rcases h2 with ⟨h0, _⟩ | ⟨h0, cap, cur, rfl, k1, k2, k3, k4⟩
  · omega
  have lC := lt_of_at h1
  have lB := lt_of_at k2
  obtain ⟨q1, hq1⟩ : ∃ q1, q + 1 = q1 := ⟨_, rfl⟩
  have e1 : IntKind.i64.wrap ((q : Int) + 1) = (q1 : Int) := by rw [IntKind.wrap_i64]; omega
  obtain ⟨t1, ht1⟩ : ∃ t1, max t q1 = t1 := ⟨_, rfl⟩
  have m2 : ∀ w, (Builtin.max_ #[3, 3] 3 #[.int .i64 (t : Int), .int .i64 (q1 : Int)]).run Try.prog w = .ok (.int .i64 (t1 : Int)) w := fun w => by rw [max2, ← ht1]; congr 2; omega
  have hqW : (q : Int) < (W : Int) := by omega
  have HC2 := Lib.hid (cell_at k2 q)
  have HF2 := Lib.hid (frozen_at k2 q)
  have HK4 := Lib.hid (k4 q hq)
  rw [hq1, ht1]
  have HQ := Lib.hid hq1
  have HT := Lib.hid ht1
  have HC := Lib.hid h1
  clear h1 k2 k3 k4 h4 hq1 ht1 h3
  go_enter Try.func60, Try.ntmps60
  go_upto_region 1 with fail
  have hn := Lib.hid (alloc_new w (.cells #[.int .i64 q, .int .u64 x] 89))
  have hk := Lib.hid (keep_alloc w (.cells #[.int .i64 q, .int .u64 x] 89))
  generalize w.alloc (.cells #[.int .i64 q, .int .u64 x] 89) = w1 at *
  generalize hs : w.heap.size = N at *
  have c0 := cell_at (hk.out.at HC.out (fun h => h)) 0
  have c1 := cell_at hn.out 0
  have c2 := cell_at hn.out 1
  have c3 : w1.cell? ⟨B, q, none⟩ = some (.int .u64 (X q)) := by rw [show w1.cell? ⟨B, q, none⟩ = w.cell? ⟨B, q, none⟩ from World.cell?_of_block (hk.out.block B (by omega) (fun h => h)), HC2.out, HK4.out]
  have f3 : w1.frozen? ⟨B, q, none⟩ = false := by rw [show w1.frozen? ⟨B, q, none⟩ = w.frozen? ⟨B, q, none⟩ from World.frozen?_of_block (hk.out.block B (by omega) (fun h => h)), HF2.out]
  have c0 : w1.cell? ⟨C, 0, none⟩ = some (.slice (some ⟨B, 0, none⟩) W cap) := c0
  have c1 : w1.cell? ⟨N, 0, none⟩ = some (.int .i64 q) := c1
  have c2 : w1.cell? ⟨N, 1, none⟩ = some (.int .u64 x) := c2
  have d0 := lit_cell c0
  have d1 := lit_cell c1
  have d2 := lit_cell c2
  have HN := Lib.hid hs
  clear hs
  go_wp2_with fail
  go_still_tail 9, (by kernel_rfl)
  change wpList _ _ _ _ _ w1.drew
  clear d0 d1 d2 c0 c1 c2
  have c4 : w1.drew.cell? ⟨B, q, none⟩ = some (.int .u64 (X q)) := c3
  have f4 : w1.drew.frozen? ⟨B, q, none⟩ = false := f3
  have hn2 : Hid (w1.drew.heap[N]? = _) := hn
  have hk2 : Hid (Keep (fun _ => False) w w1.drew) := Lib.hid hk.out.drew
  clear c3 f3 hn hk
  generalize w1.drew = w2 at *
  go_upto_region 2 with fail
  have hn3 := Lib.hid (set_other hn2.out (show N ≠ B by have := HN.out; omega) (i := q) (v := .int .u64 x))
  have hC3 := Lib.hid (set_other (hk2.out.at HC.out (fun h => h)) (Ne.symm hBC) (i := q) (v := .int .u64 x))
  have hW3 := Lib.hid ((H.out.2.1.keep hk2.out (fun h => h)).put (x := x) hq)
  have hk3 : Hid (Keep (fun k => k = C ∨ k = B) w (w2.setCell ⟨B, q, none⟩ (.int .u64 x))) := Lib.hid ((hk2.out.mono (fun _ _ h => h.elim)).setCell (Or.inl (Or.inr rfl)) _)
  clear hn2 hk2 c4 f4
  generalize w2.setCell ⟨B, q, none⟩ (.int .u64 x) = w3 at *
  have c0 := cell_at hC3.out 1
  have f0 := frozen_at hC3.out 1
  have c1 := cell_at hn3.out 0
  have c0 : w3.cell? ⟨C, 1, none⟩ = some (.int .i64 t) := c0
  have c1 : w3.cell? ⟨N, 0, none⟩ = some (.int .i64 q) := c1
  have d0 := lit_cell c0
  have d1 := lit_cell c1
  go_wp2_with fail
  go_still_tail 11, (by kernel_rfl)
  change wpList _ _ _ _ _ w3.drew
  have c4 : w3.drew.cell? ⟨C, 1, none⟩ = some (.int .i64 t) := c0
  have f4 : w3.drew.frozen? ⟨C, 1, none⟩ = false := f0
  have hC4 : Hid (w3.drew.heap[C]? = _) := hC3
  have hW4 : Hid (Wd w3.drew _ W B (up X q x)) := Lib.hid (hW3.out.keep ((Keep.refl (fun _ => False) w3).drew) (fun h => h))
  have hk4 : Hid (Keep _ w w3.drew) := Lib.hid hk3.out.drew
  clear hC3 hW3 hk3 c0 c1 d0 d1 f0 hn3
  generalize w3.drew = w4 at *
  go_wp2_with fail
  go_end0
  refine ⟨⟨_, rfl⟩, ⟨?_, ?_, ?_, ?_⟩, hk4.out.setCell (Or.inl (Or.inl rfl)) _⟩
  · exact set_at hC4.out 1 _
  · exact hW4.out.keep (S := fun k => k = C) ((Keep.refl (fun k => k = C) w4).setCell (p := ⟨C, 1, none⟩) (Or.inl rfl) _) hBC
  · have := HT.out; have := HQ.out; have := H.out.2.2.1; omega
  · intro i hi
    have := HT.out
    have := HQ.out
    unfold up
    rw [if_neg (by omega)]
    exact H.out.2.2.2 i (by omega)
end Go.Proofs.Ytbfclmhcoelplaa.Lp
