/-
  CONTRACTS of OnesCount64 (math/bits), count and has (package lcs).
-/
import Derived.Test.YtbfclmhcoelplaaLpCol
namespace Go.Proofs.Ytbfclmhcoelplaa.Lp
open Go.RowKit Go.Proofs.Ytbfclmhcoelplaa.Cm Go.Proofs.Ytbfclmhcoelplaa.Lc Go.Proofs.Ytbfclmhcoelplaa.Lcx
set_option linter.unusedVariables false

theorem and_u (a b : Nat) (ha : a < 2 ^ 64) (hb : b < 2 ^ 64) : bits .and .u64 (a : Int) (b : Int) = ((a &&& b : Nat) : Int) := u64_and_nat a b ha hb
theorem add_u (a b : Nat) (h : a + b < 2 ^ 64) : IntKind.u64.wrap ((a : Int) + (b : Int)) = ((a + b : Nat) : Int) := by
  rw [IntKind.wrap_u64]; omega
/-- The numbers on the way. -/
structure Way (x y a b z : Nat) (x1 a1 a2 a3 a4 a5 : Nat) : Prop where
  e1 : bits .and .u64 ((x : Int) / 2) 6148914691236517205 = (a1 : Int)
  e2 : bits .and .u64 (x : Int) 6148914691236517205 = (a2 : Int)
  e3 : IntKind.u64.wrap ((a1 : Int) + (a2 : Int)) = (x1 : Int)
  e4 : bits .and .u64 ((x1 : Int) / 4) 3689348814741910323 = (a3 : Int)
  e5 : bits .and .u64 (x1 : Int) 3689348814741910323 = (a4 : Int)
  e6 : IntKind.u64.wrap ((a3 : Int) + (a4 : Int)) = (y : Int)
  e7 : IntKind.u64.wrap ((y : Int) / 16 + (y : Int)) = (a5 : Int)
  e8 : bits .and .u64 (a5 : Int) 1085102592571150095 = (a : Int)
  e9 : IntKind.u64.wrap ((a : Int) + (a : Int) / 256) = (b : Int)
  e10 : IntKind.u64.wrap ((b : Int) + (b : Int) / 65536) = (z : Int)
theorem way (x : Nat) (hx : x < 2 ^ 64) : ∃ y a b z x1 a1 a2 a3 a4 a5 : Nat, Way x y a b z x1 a1 a2 a3 a4 a5 ∧ z < 3000000000000000000 ∧ (z + z / 4294967296) % 128 = pc x := by
  have h1 : x / 2 &&& 6148914691236517205 ≤ 6148914691236517205 := Nat.and_le_right
  have h2 : x &&& 6148914691236517205 ≤ 6148914691236517205 := Nat.and_le_right
  obtain ⟨a1, ha1⟩ : ∃ a1, x / 2 &&& 6148914691236517205 = a1 := ⟨_, rfl⟩
  obtain ⟨a2, ha2⟩ : ∃ a2, x &&& 6148914691236517205 = a2 := ⟨_, rfl⟩
  have l1 : a1 + a2 < 2 ^ 64 := by omega
  have h3 : (a1 + a2) / 4 &&& 3689348814741910323 ≤ 3689348814741910323 := Nat.and_le_right
  have h4 : (a1 + a2) &&& 3689348814741910323 ≤ 3689348814741910323 := Nat.and_le_right
  obtain ⟨a3, ha3⟩ : ∃ a3, (a1 + a2) / 4 &&& 3689348814741910323 = a3 := ⟨_, rfl⟩
  obtain ⟨a4, ha4⟩ : ∃ a4, (a1 + a2) &&& 3689348814741910323 = a4 := ⟨_, rfl⟩
  have l2 : a3 + a4 < 8000000000000000000 := by omega
  have l3 : (a3 + a4) / 16 + (a3 + a4) < 2 ^ 64 := by omega
  have h5 : ((a3 + a4) / 16 + (a3 + a4)) &&& 1085102592571150095 ≤ 1085102592571150095 := Nat.and_le_right
  obtain ⟨a, ha⟩ : ∃ a, ((a3 + a4) / 16 + (a3 + a4)) &&& 1085102592571150095 = a := ⟨_, rfl⟩
  have l4 : a + a / 256 < 1100000000000000000 := by omega
  have l5 : a + a / 256 + (a + a / 256) / 65536 < 1200000000000000000 := by omega
  have hs := ones_eq x hx
  have m1 : msk8 85 8 = 6148914691236517205 := by decide
  have m2 : msk8 51 8 = 3689348814741910323 := by decide
  have m3 : msk8 15 8 = 1085102592571150095 := by decide
  unfold ones at hs
  have s_1 : s1 8 x = a1 + a2 := by unfold s1; rw [m1, ha1, ha2]
  have s_2 : s2 8 (a1 + a2) = a3 + a4 := by unfold s2; rw [m2, ha3, ha4]
  have s_3 : s3 8 (a3 + a4) = a := by unfold s3; rw [m3, ha]
  rw [s_1, s_2, s_3] at hs
  refine ⟨a3 + a4, a, a + a / 256, a + a / 256 + (a + a / 256) / 65536, a1 + a2, a1, a2, a3, a4, (a3 + a4) / 16 + (a3 + a4), ⟨?_, ?_, add_u _ _ l1, ?_, ?_, add_u _ _ (by omega), ?_, ?_, ?_, ?_⟩, by omega, hs⟩
  · rw [← ha1]; exact and_u (x / 2) 6148914691236517205 (by omega) (by decide)
  · rw [← ha2]; exact and_u x 6148914691236517205 hx (by decide)
  · rw [← ha3]; exact and_u ((a1 + a2) / 4) 3689348814741910323 (by omega) (by decide)
  · rw [← ha4]; exact and_u (a1 + a2) 3689348814741910323 l1 (by decide)
  · exact add_u ((a3 + a4) / 16) (a3 + a4) l3
  · rw [← ha]; exact and_u _ 1085102592571150095 l3 (by decide)
  · exact add_u a (a / 256) (by omega)
  · exact add_u (a + a / 256) ((a + a / 256) / 65536) (by omega)
theorem wsum_le (X : Nat → Nat) : ∀ W, wsum X W ≤ 64 * W
  | 0 => Nat.le_refl _
  | W + 1 => by
    show wsum X W + pc (X W) ≤ _
    have := wsum_le X W
    have := bsum_le (X W).testBit 64
    unfold pc; omega
theorem bit_of (x k : Nat) : (x &&& 2 ^ k == 0) = !x.testBit k := by
  cases h : x.testBit k
  · have : x &&& 2 ^ k = 0 := by
      apply Nat.eq_of_testBit_eq
      intro i
      rw [Nat.testBit_and, Nat.testBit_two_pow, Nat.zero_testBit]
      by_cases e : k = i
      · subst e; rw [h]; rfl
      · simp [e]
    rw [this]; rfl
  · have : x &&& 2 ^ k ≠ 0 := by
      intro e
      have h2 := congrArg (fun y => y.testBit k) e
      simp only [Nat.testBit_and, Nat.testBit_two_pow, Nat.zero_testBit, h] at h2
      simp at h2
    simp [this]
set_option maxHeartbeats 800000 in
theorem has_any (C B W t q k : Nat) (v : Value) (X : Nat → Nat) (w : World) (h : Col w C v W B X t) (hX : ∀ q, X q < 2 ^ 64) (hW : W ≤ 1000000) (hq : q < W) (hk : k < 64) :
    Calls Try.prog 55 #[.pointer (some ⟨C, 0, none⟩), .agg #[.int .i64 q, .int .u64 (2 ^ k : Nat)]] w fun e w' => e = .returned (.bool ((X q).testBit k)) ∧ Keep (fun _ => False) w w' := by
  obtain ⟨h1, h2, h3, h4⟩ := h
  rcases h2 with ⟨h0, _⟩ | ⟨h0, cap, cur, rfl, k1, k2, k3, k4⟩
  · omega
  have hp : 2 ^ k < 2 ^ 64 := Nat.pow_lt_pow_right (by decide) hk
  have e1 := and_u (X q) (2 ^ k) (hX q) hp
  have e2 : (((X q &&& 2 ^ k : Nat) : Int) != 0) = (X q).testBit k := by
    have h := bit_of (X q) k
    cases hb : (X q).testBit k
    · rw [hb] at h
      have : X q &&& 2 ^ k = 0 := by simpa using h
      rw [this]; rfl
    · rw [hb] at h
      have : X q &&& 2 ^ k ≠ 0 := by simpa using h
      rw [bne_iff_ne]; omega
  have hqW : (q : Int) < (W : Int) := by omega
  have HC := Lib.hid h1
  have lB := lt_of_at k2
  have HC2 := Lib.hid ((cell_at k2 q).trans (k4 q hq))
  generalize X q &&& 2 ^ k = y at *
  generalize (X q).testBit k = bt at *
  generalize 2 ^ k = p at *
  generalize X q = x at *
  clear h1 k2 k3 k4 h4 h3 hp hX
  go_enter Try.func55, Try.ntmps55
  go_upto_region 1 with fail
  have hn := Lib.hid (alloc_new w (.cells #[.int .i64 q, .int .u64 p] 89))
  have hk' := Lib.hid (keep_alloc w (.cells #[.int .i64 q, .int .u64 p] 89))
  generalize w.alloc (.cells #[.int .i64 q, .int .u64 p] 89) = w1 at *
  generalize hs : w.heap.size = N at *
  have c0 := cell_at (hk'.out.at HC.out (fun h => h)) 0
  have c1 := cell_at hn.out 0
  have c2 := cell_at hn.out 1
  have c3 : w1.cell? ⟨B, q, none⟩ = some (.int .u64 x) := by rw [show w1.cell? ⟨B, q, none⟩ = w.cell? ⟨B, q, none⟩ from World.cell?_of_block (hk'.out.block B (by omega) (fun h => h)), HC2.out]
  have c0 : w1.cell? ⟨C, 0, none⟩ = some (.slice (some ⟨B, 0, none⟩) W cap) := c0
  have c1 : w1.cell? ⟨N, 0, none⟩ = some (.int .i64 q) := c1
  have c2 : w1.cell? ⟨N, 1, none⟩ = some (.int .u64 p) := c2
  clear hs
  go_wp2_with fail
  go_quiet (fail)
  have K := Lib.hid (hk'.out.drewN nq)
  go_wp2_with fail
  go_ret
  exact ⟨rfl, K.out⟩
end Go.Proofs.Ytbfclmhcoelplaa.Lp
