/-
  CONTRACT of wideOf (package lcs): of a table that isn't too great all columns are reckoned at once.
-/
import Derived.Test.YtbfclmhcoelplaaLpKept
import Derived.Test.YtbfclmhcoelplaaShelf
namespace Go.Proofs.Ytbfclmhcoelplaa.Lp
open Go.RowKit Go.Proofs.Ytbfclmhcoelplaa.Cm Go.Proofs.Ytbfclmhcoelplaa.Lc Go.Proofs.Ytbfclmhcoelplaa.Lcx
set_option linter.unusedVariables false

set_option maxHeartbeats 1600000 in
theorem wideOf_any (W n : Nat) (w : World) (hn : n ≤ 100000) (hW : W ≤ 100000) (hs : n * max W 1 ≤ 1048576) :
    Calls Try.prog 50 #[.int .i64 W, .int .i64 n, .int .i64 1048576] w fun e w' => ∃ wd : Nat, e = .returned (.int .i64 wd) ∧ n ≤ wd ∧ 1 ≤ wd ∧ wd ≤ 8589934592 ∧ ∃ k, w' = w.drewN k := by
  obtain ⟨bl, hbl⟩ : ∃ bl, Lib.bitLen ((n : Int)).toNat = bl := ⟨_, rfl⟩
  have hble : bl ≤ 64 := by rw [← hbl]; exact Any.bitLen_leU _ (by omega) (by omega)
  have HL := Lib.hid (fun w => Try.bits_Len (n : Int) w (by omega) (by omega))
  rw [hbl] at HL
  obtain ⟨hb, hhb⟩ : ∃ hb, bl / 2 = hb := ⟨_, rfl⟩
  have e1 : (bl : Int) / 2 = (hb : Int) := by omega
  have hhle : hb ≤ 32 := by omega
  obtain ⟨p, hp⟩ : ∃ p, 2 ^ hb = p := ⟨_, rfl⟩
  have hpp : 1 ≤ p ∧ p ≤ 4294967296 := by
    rw [← hp]
    exact ⟨Nat.two_pow_pos hb, Nat.le_trans (Nat.pow_le_pow_right (by decide) hhle) (by decide)⟩
  have e2 : wrap64 ((2 : Int) ^ hb) = (p : Int) := by
    have : ((2 : Int) ^ hb) = (p : Int) := by rw [← hp]; simp
    rw [this]; unfold wrap64; omega
  have e2' : IntKind.i64.wrap ((2 : Int) ^ hb) = (p : Int) := by
    have : ((2 : Int) ^ hb) = (p : Int) := by rw [← hp]; simp
    rw [this, IntKind.wrap_i64]; omega
  obtain ⟨W1, hW1⟩ : ∃ W1, max W 1 = W1 := ⟨_, rfl⟩
  have hW1p : 1 ≤ W1 ∧ W1 ≤ 100000 := by omega
  rw [hW1] at hs
  obtain ⟨q, hq⟩ : ∃ q, 1048576 / W1 = q := ⟨_, rfl⟩
  have hnq : n ≤ q := by rw [← hq]; exact (Nat.le_div_iff_mul_le (by omega)).2 hs
  have hq2 : q ≤ 1048576 := by rw [← hq]; exact Nat.div_le_self _ _
  have e3 : (1048576 : Int) / (W1 : Int) = (q : Int) := by rw [← hq]; rfl
  have m1 : ∀ w, (Builtin.max_ #[3, 3] 3 #[.int .i64 (W : Int), .int .i64 1]).run Try.prog w = .ok (.int .i64 (W1 : Int)) w := fun w => by rw [max2, ← hW1]; congr 2; omega
  obtain ⟨wd, hwd⟩ : ∃ wd, max p q = wd := ⟨_, rfl⟩
  have m2 : ∀ w, (Builtin.max_ #[3, 3] 3 #[.int .i64 (p : Int), .int .i64 (q : Int)]).run Try.prog w = .ok (.int .i64 (wd : Int)) w := fun w => by rw [max2, ← hwd]; congr 2; omega
  have hWn : ((W1 : Int) == 0) = false := by rw [beq_eq_false_iff_ne]; omega
  have FIN : Hid (n ≤ wd ∧ 1 ≤ wd ∧ wd ≤ 8589934592) := Lib.hid (by omega)
  clear hbl hhb hp hW1 hq hwd hs hnq
  go_enter Try.func50, Try.ntmps50
  go_wp2_with fail
  go_quiet ((go_at_call 58; exact Calls.quiet_of_same (HL.out _)))
  go_wp2_with fail
  go_ret
  exact ⟨wd, rfl, FIN.out.1, FIN.out.2.1, FIN.out.2.2, _, rfl⟩
end Go.Proofs.Ytbfclmhcoelplaa.Lp
