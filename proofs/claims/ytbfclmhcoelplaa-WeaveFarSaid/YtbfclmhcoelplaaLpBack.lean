/-
  CONTRACT of back (package lcs): the column one place further ahead, and what its words were.
-/
import Derived.Test.YtbfclmhcoelplaaLpCount
import Derived.Test.YtbfclmhcoelplaaCmRow
import Derived.Laws.Externs
import Derived.Deep.CutRange
import Derived.Maps.AppendAt
namespace Go.Proofs.Ytbfclmhcoelplaa.Lp
open Go.RowKit Go.Proofs.Ytbfclmhcoelplaa.Cm Go.Proofs.Ytbfclmhcoelplaa.Lc Go.Proofs.Ytbfclmhcoelplaa.Lcx
set_option linter.unusedVariables false

/-! ### Plain: what has been changed so far -/
def chg (X M : Nat → Nat) : Nat → List (Nat × Nat)
  | 0 => []
  | k + 1 => chg X M k ++ (if nw X M k = X k then [] else [(k, X k)])
theorem chg_same {X M : Nat → Nat} {k : Nat} : ∀ k', k ≤ k' → (∀ q, k ≤ q → q < k' → nw X M q = X q) → chg X M k' = chg X M k
  | 0, h, _ => by rw [show k = 0 by omega]
  | k' + 1, h, hs => by
    by_cases e : k = k' + 1
    · rw [e]
    · show chg X M k' ++ _ = _
      rw [if_pos (hs k' (by omega) (by omega)), List.append_nil, chg_same k' (by omega) (fun q h1 h2 => hs q h1 (by omega))]
theorem chg_len (X M : Nat → Nat) : ∀ k, (chg X M k).length ≤ k
  | 0 => Nat.le_refl _
  | k + 1 => by
    show (chg X M k ++ _).length ≤ _
    have := chg_len X M k
    rw [List.length_append]
    split <;> simp <;> omega
theorem chg_in (X M : Nat → Nat) : ∀ k, ∀ p ∈ chg X M k, p.1 < k ∧ p.2 = X p.1
  | 0, p, h => absurd h List.not_mem_nil
  | k + 1, p, h => by
    rcases List.mem_append.1 h with h | h
    · have := chg_in X M k p h; exact ⟨by omega, this.2⟩
    · split at h
      · cases h
      · simp at h; subst h; exact ⟨by show k < k + 1; omega, rfl⟩
/-- The column so far. -/
def mid (X M : Nat → Nat) (k : Nat) : Nat → Nat := fun q => if q < k then nw X M q else X q
theorem mid_zero (X M : Nat → Nat) : mid X M 0 = X := funext (fun q => if_neg (by omega))
theorem mid_pass {X M : Nat → Nat} {k k' : Nat} (h : k ≤ k') (hs : ∀ q, k ≤ q → q < k' → nw X M q = X q) : mid X M k' = mid X M k := funext (fun q => by
  unfold mid
  by_cases h1 : q < k
  · rw [if_pos h1, if_pos (by omega)]
  · rw [if_neg h1]
    by_cases h2 : q < k'
    · rw [if_pos h2, hs q (by omega) h2]
    · rw [if_neg h2])
theorem mid_up {X M : Nat → Nat} {k : Nat} : up (mid X M k) k (nw X M k) = mid X M (k + 1) := funext (fun q => by
  unfold up mid
  by_cases h1 : q = k
  · subst h1; rw [if_pos rfl, if_pos (by omega)]
  · rw [if_neg h1]
    by_cases h2 : q < k
    · rw [if_pos h2, if_pos (by omega)]
    · rw [if_neg h2, if_neg (by omega)])
theorem mid_end {X M : Nat → Nat} {k : Nat} (hs : ∀ q, k ≤ q → nw X M q = X q) : mid X M k = nw X M := funext (fun q => by
  unfold mid
  by_cases h1 : q < k
  · rw [if_pos h1]
  · rw [if_neg h1, hs q (by omega)])

/-! ### Lists of words in memory -/
def encW (p : Nat × Nat) : List Value := [.int .i64 p.1, .int .u64 p.2]
theorem encW_len (p : Nat × Nat) : (encW p).length = 2 := rfl
theorem encW_one (p : Nat × Nat) : ∀ u ∈ encW p, u.oneCell' = true := by
  intro u hu
  simp [encW] at hu
  rcases hu with rfl | rfl <;> rfl
theorem infoW : (Try.prog.info? 89).map (fun i => (i.zero, i.size, i.bytes)) = some (some (.agg #[.int .i64 0, .int .u64 0]), 2, 16) := by kernel_rfl
/-- A slice that reads as these words; its block isn't one of S. -/
def Pl (S : Nat → Prop) (w : World) (v : Value) (l : List (Nat × Nat)) : Prop :=
  ∃ ao cap, v = .slice ao l.length cap ∧ l.length ≤ cap ∧ (l = [] ∨ ∃ b o, ao = some ⟨b, o, none⟩ ∧ b < w.heap.size ∧ ¬ S b ∧ ∀ j p, l[j]? = some p → w.cell? ⟨b, o + j * 2, none⟩ = some (.int .i64 p.1) ∧ w.cell? ⟨b, o + j * 2 + 1, none⟩ = some (.int .u64 p.2))
theorem Pl.keep {S : Nat → Prop} {w w' : World} {v : Value} {l : List (Nat × Nat)} (h : Pl S w v l) (k : Keep S w w') : Pl S w' v l := by
  obtain ⟨ao, cap, h1, h2, h3⟩ := h
  refine ⟨ao, cap, h1, h2, ?_⟩
  rcases h3 with h3 | ⟨b, o, h4, h5, h6, h7⟩
  · exact .inl h3
  · have e : ∀ i, w'.cell? ⟨b, i, none⟩ = w.cell? ⟨b, i, none⟩ := fun i => World.cell?_of_block (k.block b h5 h6)
    exact .inr ⟨b, o, h4, Nat.lt_of_lt_of_le h5 k.size, h6, fun j p hj => by rw [e, e]; exact h7 j p hj⟩

theorem run_subW (x m : Nat) (c : Bool) (z : Int) (hz : z = (c.toNat : Int)) (w : World) :
    (callFunc 59 #[.int .u64 x, .int .u64 (offW x m : Nat), .int .u64 z]).run Try.prog w = .ok (.value (.tuple #[.int .u64 (lessW x m c : Nat), .int .u64 ((outW x m c).toNat : Nat)])) w := by
  subst hz
  rw [run_callFunc_extern Try.func59 (by kernel_rfl) (by kernel_rfl) (by kernel_rfl) (e := fun args => do
    let (x, y, b) ← Extern.MathBitsCarry.three "Sub64" args
    pure (Extern.MathBitsCarry.pair ((x + Extern.MathBitsCarry.m64 - y - b) % Extern.MathBitsCarry.m64) (if x < y + b then 1 else 0))) (by kernel_rfl)]
  have e : (outW x m c).toNat = if x < offW x m + c.toNat then 1 else 0 := by
    unfold outW
    by_cases h : x < offW x m + c.toNat
    · rw [decide_eq_true h, if_pos h]; rfl
    · rw [decide_eq_false h, if_neg h]; rfl
  rw [e]
  unfold lessW
  generalize offW x m = y
  cases c <;> rfl

/-- 'places[1:]'. -/
theorem slice_rest {S : Nat → Prop} {w0 : World} {ao : Option Addr} {c : Nat} {p : Nat × Nat} {r : List (Nat × Nat)} (h : Pl S w0 (.slice ao (r.length + 1) c) (p :: r)) (hl : r.length ≤ 1000000) :
    ∃ v, (∀ w, (Instr.slice 99 (.slice ao (r.length + 1) c) (some (.int .i64 1)) none none).run Try.prog w = .ok v w) ∧ Pl S w0 v r := by
  have u := Try.underlying99
  have hz : Try.prog.cellsOf 89 = 2 := by kernel_rfl
  obtain ⟨ao', c', hv, hc, hx⟩ := h
  simp only [Value.slice.injEq, true_and, List.length_cons] at hv hc
  obtain ⟨rfl, _, rfl⟩ := hv
  rcases hx with hx | ⟨b, o, rfl, hb, hs, hcell⟩
  · cases hx
  by_cases hic : 1 < c
  · refine ⟨.slice (some ⟨b, o + 2, none⟩) r.length (c - 1), fun w => ?_, _, c - 1, rfl, by omega, Or.inr ⟨b, o + 2, rfl, hb, hs, fun q x hq => ?_⟩⟩
    · have hicn : ¬ c ≤ 1 := by omega
      have hn : ¬ c - 1 = 0 := by omega
      go_simp
      rw [if_pos (by omega), if_neg (by omega)]
    · have := hcell (q + 1) x (by simpa using hq)
      rw [show o + (q + 1) * 2 = o + 2 + q * 2 by omega] at this
      exact this
  · obtain rfl : c = 1 := by omega
    have hr : r = [] := List.eq_nil_of_length_eq_zero (by omega)
    subst hr
    refine ⟨.slice (some ⟨b, o, none⟩) 0 0, fun w => ?_, _, 0, rfl, Nat.le_refl _, Or.inl rfl⟩
    go_simp
/-- 'were[:0]'. -/
theorem slice_none {w0 : World} {v : Value} {n : Nat} {xs : List Value} (h : w0.ownsRow 0 89 2 v n xs) (hl : n ≤ 1000000) :
    ∃ v', (∀ w, (Instr.slice 99 v none (some (.int .i64 0)) none).run Try.prog w = .ok v' w) ∧ w0.ownsRow 0 89 2 v' 0 [] ∧ v'.ownBlock = v.ownBlock := by
  have u := Try.underlying99
  have hz : Try.prog.cellsOf 89 = 2 := by kernel_rfl
  rcases h.2 with ⟨rfl, rfl⟩ | ⟨g, cap, cur, rfl, hb, hg, h1, h2, h3, h4⟩
  · refine ⟨.slice none 0 0, fun w => ?_, World.ownsRow_nil _ _ _ _, rfl⟩
    go_simp
  · refine ⟨.slice (some ⟨g, 0, none⟩) 0 cap, fun w => ?_, ⟨rfl, .inr ⟨g, cap, cur, rfl, Nat.zero_le _, hg, Nat.zero_le _, h2, h3, by simp⟩⟩, rfl⟩
    go_simp
end Go.Proofs.Ytbfclmhcoelplaa.Lp
