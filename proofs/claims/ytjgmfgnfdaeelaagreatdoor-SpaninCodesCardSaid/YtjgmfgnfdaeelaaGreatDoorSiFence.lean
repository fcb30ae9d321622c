/-
  READING SPANS, in plain words: a text in one line between more backticks than stand in it. No program.
-/
import Derived.Test.YtjgmfgnfdaeelaaGreatDoorPkD
namespace Go.Proofs.YtjgmfgnfdaeelaaGreatDoor.Sp
open Go.Proofs.YtjgmfgnfdaeelaaGreatDoor.Tk (cls at_data len_data)
set_option linter.unusedVariables false

theorem ticks_count : ∀ l : List UInt8, ticks l ≤ l.count 96
  | [] => Nat.le_refl _
  | b :: r => by
    have ih := ticks_count r
    unfold ticks
    split
    · rename_i h; rw [h, List.count_cons_self]; omega
    · exact Nat.zero_le _
theorem count_drop (l : List UInt8) (k : Nat) : (l.drop k).count 96 ≤ l.count 96 := List.Sublist.count_le _ (List.drop_sublist _ _)
theorem hasRun_count (n : Nat) : ∀ (g : Nat) (p : List UInt8), hasRun n g p = true → n ≤ p.count 96
  | 0, p, h => by simp [hasRun] at h
  | g + 1, [], h => by simp [hasRun] at h
  | g + 1, b :: r, h => by
    rw [hasRun_cons] at h
    split at h
    · rename_i hk
      rw [← hk]
      exact ticks_count _
    · exact Nat.le_trans (hasRun_count n g _ h) (count_drop _ _)
theorem only_pad (s : List UInt8) : onlySp (32 :: (s ++ [32])) = onlySp s := by
  unfold onlySp
  rw [List.all_cons, List.all_append]
  simp
theorem strip_pad (s : List UInt8) : strip (32 :: (s ++ [32])) = if onlySp s = true then 32 :: (s ++ [32]) else s := by
  unfold strip
  rw [only_pad]
  cases h : onlySp s with
  | true => rw [if_neg (by simp), if_pos rfl]
  | false =>
    rw [if_pos ⟨rfl, rfl, by rw [← List.cons_append, List.getLast?_append]; rfl⟩, if_neg (by simp)]
    show (s ++ [32]).dropLast = s
    rw [List.dropLast_concat]
theorem Rdr_fence (s : List UInt8) (n : Nat) (hn : s.count 96 < n) (h10 : (10 : UInt8) ∉ s) :
    (Rdr false false (List.replicate n 96 ++ (32 :: (s ++ [32]) ++ List.replicate n 96))).1 = [.mk 2 (if onlySp s = true then 32 :: (s ++ [32]) else s) []] := by
  obtain ⟨m, rfl⟩ : ∃ m, n = m + 1 := ⟨n - 1, by omega⟩
  have hp10 : (10 : UInt8) ∉ (32 :: (s ++ [32]) : List UInt8) := by
    intro h
    rcases List.mem_cons.1 h with h | h
    · exact absurd h (by decide)
    · rcases List.mem_append.1 h with h | h
      · exact h10 h
      · rw [List.mem_singleton] at h; exact absurd h (by decide)
  have hpl : (32 :: (s ++ [32]) : List UInt8).getLast? ≠ some 96 := by rw [← List.cons_append, List.getLast?_append]; simp
  have hpc : (32 :: (s ++ [32]) : List UInt8).count 96 = s.count 96 := by rw [List.count_cons, List.count_append]; simp
  have hrun : hasRun (m + 1) (32 :: (s ++ [32]) : List UInt8).length (32 :: (s ++ [32])) = false := by
    cases hh : hasRun (m + 1) (32 :: (s ++ [32]) : List UInt8).length (32 :: (s ++ [32])) with
    | false => rfl
    | true =>
      have := hasRun_count _ _ _ hh
      rw [hpc] at this
      omega
  obtain ⟨P, hP⟩ : ∃ P, (32 :: (s ++ [32]) : List UInt8) = P := ⟨_, rfl⟩
  have hPh : P.head? ≠ some 96 := by rw [← hP]; simp
  have hst := strip_pad s
  rw [hP] at hp10 hpl hrun hst ⊢
  have hPne : P ≠ [] := by rw [← hP]; simp
  have hh : (P ++ List.replicate (m + 1) (96 : UInt8)).head? ≠ some 96 := by
    cases P with
    | nil => exact absurd rfl hPne
    | cons a b => exact hPh
  have htk := ticks_rep (m + 1) (P ++ List.replicate (m + 1) 96) hh
  have hlist : List.replicate (m + 1) 96 ++ (P ++ List.replicate (m + 1) 96) = 96 :: (List.replicate m 96 ++ (P ++ List.replicate (m + 1) (96 : UInt8))) := by rw [List.replicate_succ, List.cons_append, ← List.replicate_succ]
  rw [hlist] at htk
  rw [hlist, Rdr_cons]
  have hdrop : (96 :: (List.replicate m 96 ++ (P ++ List.replicate (m + 1) (96 : UInt8)))).drop (m + 1) = P ++ (List.replicate (m + 1) 96 ++ []) := by
    rw [← hlist, List.append_nil, List.drop_left' (List.length_replicate ..)]
  have hcode : code (m + 1) (96 :: (List.replicate m 96 ++ (P ++ List.replicate (m + 1) (96 : UInt8)))).length [] (P ++ (List.replicate (m + 1) 96 ++ [])) = some ([] ++ P, []) := by
    refine code_closes (m + 1) (by omega) [] (by simp) P.length P [] _ P.length (Nat.le_refl _) hp10 (fun _ => hpl) hrun (Nat.le_refl _) ?_
    rw [List.length_cons, List.length_append, List.length_append]
    omega
  have hs : stp false false 96 (List.replicate m 96 ++ (P ++ List.replicate (m + 1) 96)) = .span (.mk 2 (strip P) []) [] := by
    unfold stp stepOf
    rw [if_neg (by simp), if_neg (by simp), if_pos rfl, htk, hdrop, hcode]
    rfl
  rw [hs, ← hst]
  rfl

end Go.Proofs.YtjgmfgnfdaeelaaGreatDoor.Sp
