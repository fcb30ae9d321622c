/-
  CONTRACTS of weave's small functions: on, between, behind, firstOf, part; slices.Equal at ints; Clean.
-/
import Derived.Test.YtipgofglidmffaaWvTold
import Derived.Test.YtipgofglidmffaaWvSpots
import Derived.Test.YtipgofglidmffaaCmKeep
namespace Go.Proofs.Ytipgofglidmffaa.Wv
open Go.RowKit Go.Proofs.Ytipgofglidmffaa.Cm Go.Proofs.Ytipgofglidmffaa.Lc
set_option linter.unusedVariables false

/-- A spot, as it lies. -/
def encS (s : Spot) : List Value := [.int .i64 s.b, .int .i64 s.o, .int .i64 s.t]
theorem encS_len (s : Spot) : (encS s).length = 3 := rfl
theorem encS_one (s : Spot) : ∀ u ∈ encS s, u.oneCell' = true := by
  intro u hu
  simp [encS] at hu
  rcases hu with rfl | rfl | rfl <;> rfl
theorem infoS : (Try.prog.info? 76).map (fun i => (i.zero, i.size, i.bytes)) = some (some (.agg #[.int .i64 0, .int .i64 0, .int .i64 0]), 3, 24) := by kernel_rfl
def vS (s : Spot) : Value := .agg #[.int .i64 s.b, .int .i64 s.o, .int .i64 s.t]
def vC (c : Ch) : Value := .agg #[.int .i64 c.b1, .int .i64 c.b2, .int .i64 c.o1, .int .i64 c.o2, .int .i64 c.t1, .int .i64 c.t2, .int .i64 c.out]

theorem on_any (x y z n xn yn zn : Nat) (w : World) (hx : x + n = xn) (hy : y + n = yn) (hz : z + n = zn) (h1 : xn ≤ 1000000) (h2 : yn ≤ 1000000) (h3 : zn ≤ 1000000) :
    Calls Try.prog 38 #[vS ⟨x, y, z⟩, .int .i64 n] w fun e w' => e = .returned (vS ⟨xn, yn, zn⟩) ∧ Below w.heap.size w w' := by
  have ex : IntKind.i64.wrap ((x : Int) + (n : Int)) = (xn : Int) := by rw [IntKind.wrap_i64]; omega
  have ey : IntKind.i64.wrap ((y : Int) + (n : Int)) = (yn : Int) := by rw [IntKind.wrap_i64]; omega
  have ez : IntKind.i64.wrap ((z : Int) + (n : Int)) = (zn : Int) := by rw [IntKind.wrap_i64]; omega
  clear hx hy hz
  show Calls Try.prog 38 #[.agg #[.int .i64 (x : Nat), .int .i64 (y : Nat), .int .i64 (z : Nat)], .int .i64 n] w _
  go_enter Try.func38, Try.ntmps38
  go_wp2_with fail
  exact bodyPost_ret (v := vS ⟨xn, yn, zn⟩) (by simp [results, Try.results38, go_sem, vS]) rfl ⟨by simp, ((Below.refl _ w).alloc (Nat.le_refl _) _).alloc (by simp) _⟩
theorem between_any (f t : Spot) (w : World) :
    Calls Try.prog 37 #[vS f, vS t] w fun e w' => e = .returned (vC ⟨f.b, t.b, f.o, t.o, f.t, t.t, 0⟩) ∧ Below w.heap.size w w' := by
  obtain ⟨x, y, z⟩ := f
  obtain ⟨x', y', z'⟩ := t
  show Calls Try.prog 37 #[.agg #[.int .i64 (x : Nat), .int .i64 (y : Nat), .int .i64 (z : Nat)], .agg #[.int .i64 (x' : Nat), .int .i64 (y' : Nat), .int .i64 (z' : Nat)]] w _
  go_enter Try.func37, Try.ntmps37
  go_wp2_with fail
  exact bodyPost_ret (v := vC ⟨x, x', y, y', z, z', 0⟩) (by simp [results, Try.results37, go_sem, vC]) rfl ⟨by simp, (((Below.refl _ w).alloc (Nat.le_refl _) _).alloc (by simp) _).alloc (by simp; omega) _⟩
theorem behind_any (c : Ch) (w : World) :
    Calls Try.prog 40 #[vC c] w fun e w' => e = .returned (vS ⟨c.b2, c.o2, c.t2⟩) ∧ Below w.heap.size w w' := by
  obtain ⟨x, x', y, y', z, z', o⟩ := c
  show Calls Try.prog 40 #[.agg #[.int .i64 (x : Nat), .int .i64 (x' : Nat), .int .i64 (y : Nat), .int .i64 (y' : Nat), .int .i64 (z : Nat), .int .i64 (z' : Nat), .int .i64 (o : Nat)]] w _
  go_enter Try.func40, Try.ntmps40
  go_wp2_with fail
  exact bodyPost_ret (v := vS ⟨x', y', z'⟩) (by simp [results, Try.results40, go_sem, vS]) rfl ⟨by simp, ((Below.refl _ w).alloc (Nat.le_refl _) _).alloc (by simp) _⟩
theorem Rk.three {w : World} {ao : Option Addr} {n c : Nat} {xs : List Spot} (h : Rk 3 encS w (.slice ao n c) xs) : ∀ i (hi : i < xs.length), ∃ b o, ao = some ⟨b, o, none⟩ ∧ b < w.heap.size ∧ w.cell? ⟨b, o + i * 3, none⟩ = some (.int .i64 xs[i].b) ∧ w.cell? ⟨b, o + i * 3 + 1, none⟩ = some (.int .i64 xs[i].o) ∧ w.cell? ⟨b, o + i * 3 + 2, none⟩ = some (.int .i64 xs[i].t) := by
  intro i hi
  obtain ⟨b, o, h1, h2, h3⟩ := h.at i hi
  exact ⟨b, o, h1, h2, h3 0 _ rfl, h3 1 _ rfl, h3 2 _ rfl⟩
theorem firstOf_any (v : Value) (S : List Spot) (d : Spot) (w : World) (h : Rk 3 encS w v S) :
    Calls Try.prog 39 #[v, vS d] w fun e w' => e = .returned (vS (S.head?.getD d)) ∧ Below w.heap.size w w' := by
  obtain ⟨ao, ca, rfl⟩ := h.len
  have F := Rk.three h
  obtain ⟨x, y, z⟩ := d
  show Calls Try.prog 39 #[_, .agg #[.int .i64 (x : Nat), .int .i64 (y : Nat), .int .i64 (z : Nat)]] w _
  cases S with
  | nil =>
    clear F h
    go_enter Try.func39, Try.ntmps39
    go_wp2_with fail
    exact bodyPost_ret (v := vS ⟨x, y, z⟩) (by simp [results, Try.results39, go_sem, vS]) rfl ⟨by simp, ((Below.refl _ w).alloc (Nat.le_refl _) _).alloc (by simp) _⟩
  | cons s S =>
    obtain ⟨b, o, rfl, hb, c0, c1, c2⟩ := F 0 (by simp)
    simp only [List.getElem_cons_zero, Nat.zero_mul, Nat.add_zero] at c0 c1 c2
    simp only [List.length_cons]
    obtain ⟨sx, sy, sz⟩ := s
    simp only at c0 c1 c2
    have e0 : (((S.length + 1 : Nat) : Int) == 0) = false := by rw [beq_eq_false_iff_ne]; omega
    have e1 : (S.length + 1 == 0) = false := by simp
    have e2 : ((S.length : Int) + 1 == 0) = false := by rw [beq_eq_false_iff_ne]; omega
    have t1 : 0 < S.length + 1 := by omega
    have hne1 : b ≠ w.heap.size := by omega
    have hne2 : b ≠ w.heap.size + 1 := by omega
    clear F h
    go_enter Try.func39, Try.ntmps39
    go_wp2_with fail
    exact bodyPost_ret (v := vS ⟨sx, sy, sz⟩) (by simp [results, Try.results39, go_sem, vS]) rfl ⟨by simp, ((Below.refl _ w).alloc (Nat.le_refl _) _).alloc (by simp) _⟩

end Go.Proofs.Ytipgofglidmffaa.Wv
