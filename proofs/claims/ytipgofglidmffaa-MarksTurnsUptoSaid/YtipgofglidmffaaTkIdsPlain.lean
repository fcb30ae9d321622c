/-
  NUMBERS OF TEXTS, in plain words: what is sorted and compacted rises and has every text once; a place found by halving. No program.
-/
import Derived.Test.YtipgofglidmffaaTkBase
import Derived.Lib.SlicesCompact
namespace Go.Proofs.Ytipgofglidmffaa.Tk
open Go.RowKit
set_option linter.unusedVariables false

theorem cu_ok (zs : List Tx) (hs : zs.Pairwise (· ≤ ·)) : ∀ m, m ≤ zs.length → Rises (Lib.compactUpTo zs.toArray m) ∧ (∀ y, y ∈ Lib.compactUpTo zs.toArray m ↔ y ∈ zs.take m) ∧ (∀ h : 0 < m, ∀ hm : m - 1 < zs.length, ∀ y ∈ Lib.compactUpTo zs.toArray m, y ≤ zs[m - 1])
  | 0, _ => ⟨by simp [Lib.compactUpTo, Rises], by simp [Lib.compactUpTo], fun h => absurd h (Nat.lt_irrefl _)⟩
  | m + 1, hm => by
    obtain ⟨i1, i2, i3⟩ := cu_ok zs hs m (by omega)
    have hg : zs.toArray[m]! = zs[m] := by rw [getElem!_pos _ m (by simp; omega)]; simp
    have ht : zs.take (m + 1) = zs.take m ++ [zs[m]] := by rw [List.take_add_one, List.getElem?_eq_getElem (by omega)]; rfl
    rw [Lib.compactUpTo_succ, ht, hg]
    cases hk : Lib.keeps zs.toArray m with
    | true =>
      rw [if_pos rfl]
      have hlt : ∀ y ∈ Lib.compactUpTo zs.toArray m, y < zs[m] := by
        intro y hy
        by_cases h0 : m = 0
        · subst h0
          simp [Lib.compactUpTo] at hy
        have hp : zs.toArray[m - 1]! = zs[m - 1] := by rw [getElem!_pos _ (m - 1) (by simp; omega)]; simp
        have hne : zs[m] ≠ zs[m - 1] := by
          simp only [Lib.keeps, decide_eq_true_eq] at hk
          rw [hg, hp] at hk
          exact hk.resolve_left h0
        have h1 : zs[m - 1] ≤ zs[m] := List.pairwise_iff_getElem.1 hs (m - 1) m (by omega) (by omega) (by omega)
        have h2 := i3 (by omega) (by omega) y hy
        have h3 : zs[m - 1] < zs[m] := by
          rcases lt_tri zs[m - 1] zs[m] with h | h | h
          · exact h
          · exact absurd h.symm hne
          · exact absurd h1 (by rw [List.not_le]; exact h)
        rcases lt_tri y zs[m - 1] with h | h | h
        · exact List.lt_trans h h3
        · rw [h]; exact h3
        · exact absurd h2 (by rw [List.not_le]; exact h)
      refine ⟨?_, fun y => ?_, fun _ hm' y hy => ?_⟩
      · refine List.pairwise_append.2 ⟨i1, List.pairwise_singleton _ _, fun a ha b hb => ?_⟩
        rw [List.mem_singleton.1 hb]
        exact hlt a ha
      · rw [List.mem_append, List.mem_append, i2]
      · show y ≤ zs[m]
        rcases List.mem_append.1 hy with hy | hy
        · exact List.le_of_lt (hlt y hy)
        · rw [List.mem_singleton.1 hy]
          exact List.le_refl _
    | false =>
      rw [if_neg (by decide), List.append_nil]
      have h0 : m ≠ 0 := by
        intro h
        subst h
        simp [Lib.keeps] at hk
      have hp : zs.toArray[m - 1]! = zs[m - 1] := by rw [getElem!_pos _ (m - 1) (by simp; omega)]; simp
      have heq : zs[m] = zs[m - 1] := by
        simp only [Lib.keeps, decide_eq_false_iff_not, not_or] at hk
        rw [hg, hp] at hk
        exact Classical.not_not.1 hk.2
      have hmem : zs[m] ∈ zs.take m := by
        rw [heq]
        exact List.mem_take_iff_getElem.2 ⟨m - 1, by omega, rfl⟩
      refine ⟨i1, fun y => ?_, fun _ hm' y hy => ?_⟩
      · rw [i2, List.mem_append]
        exact ⟨Or.inl, fun h => h.elim id (fun h => by rw [List.mem_singleton.1 h]; exact hmem)⟩
      · show y ≤ zs[m]
        rw [heq]
        exact i3 (by omega) (by omega) y hy
/-- Each text of the lists once, in order. -/
def uniq (all : List Tx) : List Tx := Lib.compact (all.mergeSort fun x y => decide (x ≤ y))
theorem uniq_ok (all : List Tx) : Rises (uniq all) ∧ ∀ y, y ∈ uniq all ↔ y ∈ all := by
  have hs : (all.mergeSort fun x y => decide (x ≤ y)).Pairwise (· ≤ ·) := by
    have := List.pairwise_mergeSort (le := fun x y : Tx => decide (x ≤ y)) (fun a b c h1 h2 => by
      simp only [decide_eq_true_eq] at h1 h2 ⊢
      exact List.le_trans h1 h2) (fun a b => by
      simp only [Bool.or_eq_true, decide_eq_true_eq]
      exact List.le_total a b) all
    exact this.imp (fun h => by simpa using h)
  obtain ⟨h1, h2, _⟩ := cu_ok _ hs _ (Nat.le_refl _)
  refine ⟨h1, fun y => ?_⟩
  show y ∈ Lib.compactUpTo _ _ ↔ _
  rw [h2, List.take_length, List.mem_mergeSort]
theorem uniq_at (all : List Tx) (x : Tx) : at_ (uniq all) x = rank all x := at_rank (uniq_ok all).1 (uniq_ok all).2 x
theorem compact_len (zs : List Tx) : (Lib.compact zs).length ≤ zs.length := by
  unfold Lib.compact Lib.compactUpTo
  rw [List.length_map]
  exact Nat.le_trans (List.length_filter_le _ _) (by simp)
theorem uniq_len (all : List Tx) : (uniq all).length ≤ all.length := by
  have := compact_len (all.mergeSort fun x y => decide (x ≤ y))
  rwa [List.length_mergeSort] at this
theorem rise_at {l : List Tx} (h : Rises l) {i j : Nat} (hi : i < j) (hj : j < l.length) : l[i] < l[j] := List.pairwise_iff_getElem.1 h i j (by omega) hj hi
theorem at_found : ∀ (l : List Tx) (s : Tx) (i : Nat), i ≤ l.length → (∀ t (h : t < l.length), t < i → l[t] < s) → (∀ h : i < l.length, ¬ l[i] < s) → at_ l s = i
  | [], s, i, hi, _, _ => by simp at hi; subst hi; rfl
  | x :: l, s, 0, _, _, h2 => at_cons_no (h2 (by simp)) l
  | x :: l, s, i + 1, hi, h1, h2 => by
    have hx : x < s := h1 0 (by simp) (by omega)
    rw [at_cons_yes hx]
    rw [at_found l s i (by simpa using hi) (fun t h ht => h1 (t + 1) (by simpa using h) (by omega)) (fun h => h2 (by simpa using h))]

end Go.Proofs.Ytipgofglidmffaa.Tk
