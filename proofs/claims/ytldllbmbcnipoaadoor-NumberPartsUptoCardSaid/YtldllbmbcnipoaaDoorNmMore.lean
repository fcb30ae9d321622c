/-
  PLAIN FACTS of how alike two blocks are.
-/
import Derived.Test.YtldllbmbcnipoaaDoorPkNO
namespace Go.Proofs.YtldllbmbcnipoaaDoor.Nm
open Go.Proofs.YtldllbmbcnipoaaDoor.Bt (smB)
open Go.Proofs.YtldllbmbcnipoaaDoor.Bk (Bk Tx)
set_option linter.unusedVariables false

theorem al_eq (x y : Bk) : al x y = if smB [x] [y] = true then 1000 else if x.kind ≠ y.kind then 0 else min 999 (Lc.dice (Tk.rk (pt x ++ pt y) (pt x)) (Tk.rk (pt y ++ pt x) (pt y))) := rfl
theorem dice_comm (a b : List Int) : Lc.dice a b = Lc.dice b a := by
  unfold Lc.dice
  rw [Lc.lcs_comm a b, Nat.add_comm a.length b.length]
theorem sm_comm (x y : Bk) : smB [x] [y] = smB [y] [x] := by
  cases h : smB [x] [y] with
  | true =>
    have := (Bt.smB_iff _ _).1 h
    exact ((Bt.smB_iff _ _).2 this.symm).symm
  | false =>
    cases h' : smB [y] [x] with
    | false => rfl
    | true =>
      have := (Bt.smB_iff _ _).1 h'
      rw [(Bt.smB_iff _ _).2 this.symm] at h
      cases h
theorem al_comm (x y : Bk) : al x y = al y x := by
  rw [al_eq, al_eq, sm_comm x y, dice_comm]
  by_cases h : smB [y] [x] = true
  · rw [if_pos h, if_pos h]
  · rw [if_neg h, if_neg h]
    by_cases hk : x.kind = y.kind
    · rw [if_neg (by simp [hk]), if_neg (by simp [hk])]
    · rw [if_pos hk, if_pos (fun h => hk h.symm)]
theorem al_le (x y : Bk) : al x y ≤ 1000 := by
  rw [al_eq]; split
  · omega
  · split <;> omega
theorem al_1000 (x y : Bk) : al x y = 1000 ↔ smB [x] [y] = true := by
  rw [al_eq]
  constructor
  · intro h
    split at h
    · assumption
    · split at h <;> omega
  · intro h
    rw [if_pos h]
theorem al_kind {x y : Bk} (h : x.kind ≠ y.kind) : al x y = 0 := by
  rw [al_eq, if_neg, if_pos h]
  intro hs
  have := (Bt.smB_iff _ _).1 hs
  simp only [List.cons.injEq] at this
  exact h (by rw [this.1])
theorem al_self (x : Bk) : al x x = 1000 := (al_1000 x x).2 ((Bt.smB_iff _ _).2 rfl)
/-! Quotes. -/
def qu (l : List Bk) : Bk := .mk 5 0 [] [] [] l
theorem pt_qu (l : List Bk) : pt (qu l) = keys l := rfl
theorem rk_same' {all all' : List Tx} (h : ∀ y, y ∈ all ↔ y ∈ all') (l : List Tx) : Tk.rk all l = Tk.rk all' l := List.map_congr_left (fun x _ => by rw [Tk.rank_same h])
theorem qu_no {l m : List Bk} (h : l.length ≠ m.length) : smB [qu l] [qu m] = false := by
  cases hs : smB [qu l] [qu m] with
  | false => rfl
  | true =>
    have := (Bt.smB_iff _ _).1 hs
    simp only [List.cons.injEq, and_true] at this
    unfold qu at this
    simp only [Bk.mk.injEq, true_and] at this
    exact absurd (by rw [this]) h
theorem al_qu (l : List Bk) (x : Bk) : al (qu l) (qu (l ++ [x])) = min 999 (2000 * l.length / (2 * l.length + 1)) := by
  rw [al_eq, if_neg (by rw [qu_no (by simp)]; simp), if_neg (by simp [qu, Bk.kind]), pt_qu, pt_qu]
  have hk : keys (l ++ [x]) = keys l ++ [bk1 x] := by simp [keys]
  have hs : Tk.rk (keys l ++ keys (l ++ [x])) (keys l) = Tk.rk (keys (l ++ [x]) ++ keys l) (keys l) := rk_same' (fun y => by rw [List.mem_append, List.mem_append]; exact Or.comm) _
  have hl : (keys l).length = l.length := List.length_map _
  rw [hs, hk]
  have hr : Tk.rk (keys l ++ [bk1 x] ++ keys l) (keys l ++ [bk1 x]) = Tk.rk (keys l ++ [bk1 x] ++ keys l) (keys l) ++ [(Tk.rank (keys l ++ [bk1 x] ++ keys l) (bk1 x) : Int)] := by simp [Tk.rk]
  rw [hr]
  generalize hz : Tk.rk (keys l ++ [bk1 x] ++ keys l) (keys l) = z
  have hzl : z.length = l.length := by rw [← hz, Tk.rk, List.length_map, hl]
  unfold Lc.dice
  rw [if_neg (by rw [List.length_append]; simp), Lc.lcs_sub (List.sublist_append_left _ _), List.length_append, hzl]
  simp only [List.length_cons, List.length_nil]
  congr 2
  omega
theorem al_none (l : List Bk) (x : Bk) : al (qu []) (qu (l ++ [x])) = 0 := by
  rw [al_eq, if_neg (by rw [qu_no (by simp)]; simp), if_neg (by simp [qu, Bk.kind]), pt_qu]
  have h0 : Tk.rk (keys [] ++ pt (qu (l ++ [x]))) (keys []) = [] := rfl
  rw [h0]
  have hd : Lc.dice [] (Tk.rk (pt (qu (l ++ [x])) ++ keys []) (pt (qu (l ++ [x])))) = 0 := by
    refine Lc.dice_zero (Lc.lcs_nil _) ?_
    rw [Tk.rk, List.length_map, pt_qu, keys, List.length_map]
    simp
  rw [hd]
  rfl
end Go.Proofs.YtldllbmbcnipoaaDoor.Nm
