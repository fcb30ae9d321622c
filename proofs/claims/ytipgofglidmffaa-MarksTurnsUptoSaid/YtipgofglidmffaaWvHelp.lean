/-
  CONTRACTS of the document's Clean and Same over chunks (emendationref05), and of the statements' own 'list' and 'few'.
-/
import Derived.Test.YtipgofglidmffaaWvRef
namespace Go.Proofs.Ytipgofglidmffaa.Wv
open Go.RowKit Go.Proofs.Ytipgofglidmffaa.Cm Go.Proofs.Ytipgofglidmffaa.Lc
set_option linter.unusedVariables false

/-- A chunk, as it lies. -/
def encC (c : Ch) : List Value := [.int .i64 c.b1, .int .i64 c.b2, .int .i64 c.o1, .int .i64 c.o2, .int .i64 c.t1, .int .i64 c.t2, .int .i64 c.out]
theorem encC_len (c : Ch) : (encC c).length = 7 := rfl
theorem encC_one (c : Ch) : ∀ u ∈ encC c, u.oneCell' = true := by
  intro u hu
  simp [encC] at hu
  rcases hu with rfl | rfl | rfl | rfl | rfl | rfl | rfl <;> rfl
theorem getc {xs : List Ch} {k : Nat} (h : k < xs.length) : xs[k]? = some xs[k] := List.getElem?_eq_getElem h
theorem take_nextC {xs ys : List Ch} {k : Nat} (h1 : k < xs.length) (h2 : k < ys.length) (h : xs.take k = ys.take k) (e : xs[k] = ys[k]) : xs.take (k + 1) = ys.take (k + 1) := by
  rw [List.take_add_one, List.take_add_one, getc h1, getc h2, h, e]
/-- All cells of a chunk. -/
def Seven (w : World) (b o : Nat) (c : Ch) : Prop :=
  w.cell? ⟨b, o, none⟩ = some (.int .i64 c.b1) ∧ w.cell? ⟨b, o + 1, none⟩ = some (.int .i64 c.b2) ∧ w.cell? ⟨b, o + 2, none⟩ = some (.int .i64 c.o1) ∧ w.cell? ⟨b, o + 3, none⟩ = some (.int .i64 c.o2) ∧
    w.cell? ⟨b, o + 4, none⟩ = some (.int .i64 c.t1) ∧ w.cell? ⟨b, o + 5, none⟩ = some (.int .i64 c.t2) ∧ w.cell? ⟨b, o + 6, none⟩ = some (.int .i64 c.out)
theorem Rk.seven {w : World} {ao : Option Addr} {n c : Nat} {xs : List Ch} (h : Rk 7 encC w (.slice ao n c) xs) : ∀ i (hi : i < xs.length), ∃ b o, ao = some ⟨b, o, none⟩ ∧ b < w.heap.size ∧ Seven w b (o + i * 7) xs[i] := by
  intro i hi
  obtain ⟨b, o, h1, h2, h3⟩ := h.at i hi
  exact ⟨b, o, h1, h2, h3 0 _ rfl, h3 1 _ rfl, h3 2 _ rfl, h3 3 _ rfl, h3 4 _ rfl, h3 5 _ rfl, h3 6 _ rfl⟩
theorem Seven.below {B : Nat} {w w' : World} {b o : Nat} {c : Ch} (h : Seven w b o c) (hb : Below B w w') (hl : b < B) : Seven w' b o c := by
  obtain ⟨h0, h1, h2, h3, h4, h5, h6⟩ := h
  exact ⟨(hb.cell (by exact hl)).trans h0, (hb.cell (by exact hl)).trans h1, (hb.cell (by exact hl)).trans h2, (hb.cell (by exact hl)).trans h3, (hb.cell (by exact hl)).trans h4, (hb.cell (by exact hl)).trans h5, (hb.cell (by exact hl)).trans h6⟩

theorem clean_drop {xs : List Ch} {k : Nat} (hk : k < xs.length) (h : cleanB xs = cleanB (xs.drop k)) : cleanB xs = ((xs[k].out != 5) && cleanB (xs.drop (k + 1))) := by
  rw [h, List.drop_eq_getElem_cons hk]; rfl

theorem first_off {c d : Ch} (h : c ≠ d) : (((c.b1 : Int) == (d.b1 : Int)) = false) ∨ (((c.b1 : Int) == (d.b1 : Int)) = true ∧ ((c.b2 : Int) == (d.b2 : Int)) = false) ∨ (((c.b1 : Int) == (d.b1 : Int)) = true ∧ ((c.b2 : Int) == (d.b2 : Int)) = true ∧ ((c.o1 : Int) == (d.o1 : Int)) = false) ∨ (((c.b1 : Int) == (d.b1 : Int)) = true ∧ ((c.b2 : Int) == (d.b2 : Int)) = true ∧ ((c.o1 : Int) == (d.o1 : Int)) = true ∧ ((c.o2 : Int) == (d.o2 : Int)) = false) ∨ (((c.b1 : Int) == (d.b1 : Int)) = true ∧ ((c.b2 : Int) == (d.b2 : Int)) = true ∧ ((c.o1 : Int) == (d.o1 : Int)) = true ∧ ((c.o2 : Int) == (d.o2 : Int)) = true ∧ ((c.t1 : Int) == (d.t1 : Int)) = false) ∨ (((c.b1 : Int) == (d.b1 : Int)) = true ∧ ((c.b2 : Int) == (d.b2 : Int)) = true ∧ ((c.o1 : Int) == (d.o1 : Int)) = true ∧ ((c.o2 : Int) == (d.o2 : Int)) = true ∧ ((c.t1 : Int) == (d.t1 : Int)) = true ∧ ((c.t2 : Int) == (d.t2 : Int)) = false) ∨ (((c.b1 : Int) == (d.b1 : Int)) = true ∧ ((c.b2 : Int) == (d.b2 : Int)) = true ∧ ((c.o1 : Int) == (d.o1 : Int)) = true ∧ ((c.o2 : Int) == (d.o2 : Int)) = true ∧ ((c.t1 : Int) == (d.t1 : Int)) = true ∧ ((c.t2 : Int) == (d.t2 : Int)) = true ∧ ((c.out : Int) == (d.out : Int)) = false) := by
  have e : ∀ a b : Nat, ((a : Int) == (b : Int)) = decide (a = b) := fun a b => by rw [Bool.eq_iff_iff, beq_iff_eq, decide_eq_true_eq]; omega
  simp only [e]
  obtain ⟨c0, c1, c2, c3, c4, c5, c6⟩ := c
  obtain ⟨d0, d1, d2, d3, d4, d5, d6⟩ := d
  simp only [ne_eq, Ch.mk.injEq, not_and] at h
  simp only [decide_eq_true_eq, decide_eq_false_iff_not]
  omega

end Go.Proofs.Ytipgofglidmffaa.Wv
