/-
  A base of unlike numbers, with something put in the place of two of them. No program.
-/
import Derived.Test.YtbfclmhcoelplaaWvFar
namespace Go.Proofs.Ytbfclmhcoelplaa.Wv
open Go.Proofs.Ytbfclmhcoelplaa.Lc
set_option linter.unusedVariables false

/-- The numbers so far; with U in the place of x. -/
def base (i : Nat) : List Int := (List.range i).map (fun j : Nat => (j : Int))
def put (x : Nat) (U : List Int) (i : Nat) : List Int := (List.range i).flatMap (fun j => if j = x then U else [(j : Int)])
def both (x y : Nat) (U V : List Int) (i : Nat) : List Int := (List.range i).flatMap (fun j => if j = x then U else if j = y then V else [(j : Int)])
theorem base_succ (i : Nat) : base (i + 1) = base i ++ [(i : Int)] := by unfold base; rw [List.range_succ, List.map_append]; rfl
theorem put_succ (x : Nat) (U : List Int) (i : Nat) : put x U (i + 1) = put x U i ++ (if i = x then U else [(i : Int)]) := by
  unfold put; rw [List.range_succ, List.flatMap_append, List.flatMap_cons, List.flatMap_nil, List.append_nil]
theorem both_succ (x y : Nat) (U V : List Int) (i : Nat) : both x y U V (i + 1) = both x y U V i ++ (if i = x then U else if i = y then V else [(i : Int)]) := by
  unfold both; rw [List.range_succ, List.flatMap_append, List.flatMap_cons, List.flatMap_nil, List.append_nil]
theorem base_len (i : Nat) : (base i).length = i := by unfold base; simp
theorem put_len (x : Nat) (U : List Int) : ∀ i, (put x U i).length ≤ i + U.length
  | 0 => Nat.zero_le _
  | i + 1 => by
    have e : (put x U (i + 1)).length = (put x U i).length + (if i = x then U else [(i : Int)]).length := by rw [put_succ, List.length_append]
    by_cases h : i ≤ x
    · have h2 : (put x U i).length ≤ i := by
        unfold put
        have : (List.range i).flatMap (fun j => if j = x then U else [(j : Int)]) = (List.range i).map (fun j : Nat => (j : Int)) := by
          have h3 : ∀ l : List Nat, (∀ j ∈ l, j ≠ x) → l.flatMap (fun j => if j = x then U else [(j : Int)]) = l.map (fun j : Nat => (j : Int)) := by
            intro l
            induction l with
            | nil => intro _; rfl
            | cons a l ih => intro hl; rw [List.flatMap_cons, if_neg (hl a (List.mem_cons_self ..)), ih (fun j hj => hl j (List.mem_cons_of_mem _ hj))]; rfl
          exact h3 _ (fun j hj => by have := List.mem_range.1 hj; omega)
        rw [this]; simp
      rw [e]
      split
      · omega
      · simp; omega
    · have := put_len x U i
      rw [e, if_neg (by omega)]
      simp; omega
theorem flat_plain {f : Nat → List Int} {l : List Nat} (h : ∀ j ∈ l, f j = [(j : Int)]) : l.flatMap f = l.map (fun j : Nat => (j : Int)) := by
  induction l with
  | nil => rfl
  | cons a l ih => rw [List.flatMap_cons, h a (List.mem_cons_self ..), ih (fun j hj => h j (List.mem_cons_of_mem _ hj))]; rfl
theorem range_split {n x y : Nat} (hxy : x + 2 ≤ y) (hyn : y < n) : List.range n = List.range' 0 x ++ x :: (List.range' (x + 1) (y - x - 1) ++ y :: List.range' (y + 1) (n - y - 1)) := by
  have h1 : List.range' y (n - y) = y :: List.range' (y + 1) (n - y - 1) := by
    rw [show n - y = (n - y - 1) + 1 by omega, List.range'_succ]
    congr 2
  have h2 : List.range' (x + 1) (y - x - 1) ++ List.range' y (n - y) = List.range' (x + 1) (n - x - 1) := by
    have := List.range'_append_1 (s := x + 1) (m := y - x - 1) (n := n - y)
    rw [show x + 1 + (y - x - 1) = y by omega, show (y - x - 1) + (n - y) = n - x - 1 by omega] at this
    exact this
  have h3 : x :: List.range' (x + 1) (n - x - 1) = List.range' x (n - x) := by
    rw [show n - x = (n - x - 1) + 1 by omega, List.range'_succ]
    congr 2
  have h4 : List.range' 0 x ++ List.range' x (n - x) = List.range' 0 n := by
    have := List.range'_append_1 (s := 0) (m := x) (n := n - x)
    rw [show 0 + x = x by omega, show x + (n - x) = n by omega] at this
    exact this
  rw [← h1, h2, h3, h4, List.range_eq_range']
theorem mem_seg {s m : Nat} {v : Int} : v ∈ (List.range' s m).map (fun j : Nat => (j : Int)) ↔ ∃ j : Nat, s ≤ j ∧ j < s + m ∧ v = (j : Int) := by
  rw [List.mem_map]
  constructor
  · rintro ⟨j, hj, rfl⟩
    rw [List.mem_range'_1] at hj
    exact ⟨j, hj.1, hj.2, rfl⟩
  · rintro ⟨j, h1, h2, rfl⟩
    exact ⟨j, List.mem_range'_1.2 ⟨h1, h2⟩, rfl⟩
/-- What each side puts is there. -/
theorem far_puts {n x y : Nat} {U V : List Int} (hxy : x + 2 ≤ y) (hyn : y < n) (hU : ∀ u ∈ U, (n : Int) ≤ u) (hV : ∀ v ∈ V, (n : Int) ≤ v) :
    merge (base n) (put x U n) (put y V n) = (both x y U V n, true) := by
  have P := fun (f : Nat → List Int) (s m : Nat) (h : ∀ j, s ≤ j → j < s + m → f j = [(j : Int)]) => flat_plain (f := f) (l := List.range' s m) (fun j hj => by rw [List.mem_range'_1] at hj; exact h j hj.1 hj.2)
  have e1 : base n = (List.range' 0 x).map (fun j : Nat => (j : Int)) ++ (x : Int) :: ((List.range' (x + 1) (y - x - 1)).map (fun j : Nat => (j : Int)) ++ (y : Int) :: (List.range' (y + 1) (n - y - 1)).map (fun j : Nat => (j : Int))) := by
    unfold base
    rw [range_split hxy hyn, List.map_append, List.map_cons, List.map_append, List.map_cons]
  have e2 : put x U n = (List.range' 0 x).map (fun j : Nat => (j : Int)) ++ (U ++ ((List.range' (x + 1) (y - x - 1)).map (fun j : Nat => (j : Int)) ++ (y : Int) :: (List.range' (y + 1) (n - y - 1)).map (fun j : Nat => (j : Int)))) := by
    unfold put
    rw [range_split hxy hyn, List.flatMap_append, List.flatMap_cons, List.flatMap_append, List.flatMap_cons, if_pos rfl, if_neg (by omega),
      P _ 0 x (fun j h1 h2 => if_neg (by omega)), P _ (x + 1) (y - x - 1) (fun j h1 h2 => if_neg (by omega)), P _ (y + 1) (n - y - 1) (fun j h1 h2 => if_neg (by omega))]
    rfl
  have e3 : put y V n = (List.range' 0 x).map (fun j : Nat => (j : Int)) ++ (x : Int) :: ((List.range' (x + 1) (y - x - 1)).map (fun j : Nat => (j : Int)) ++ (V ++ (List.range' (y + 1) (n - y - 1)).map (fun j : Nat => (j : Int)))) := by
    unfold put
    rw [range_split hxy hyn, List.flatMap_append, List.flatMap_cons, List.flatMap_append, List.flatMap_cons, if_pos rfl, if_neg (by omega),
      P _ 0 x (fun j h1 h2 => if_neg (by omega)), P _ (x + 1) (y - x - 1) (fun j h1 h2 => if_neg (by omega)), P _ (y + 1) (n - y - 1) (fun j h1 h2 => if_neg (by omega))]
    rfl
  have e4 : both x y U V n = (List.range' 0 x).map (fun j : Nat => (j : Int)) ++ (U ++ ((List.range' (x + 1) (y - x - 1)).map (fun j : Nat => (j : Int)) ++ (V ++ (List.range' (y + 1) (n - y - 1)).map (fun j : Nat => (j : Int))))) := by
    unfold both
    rw [range_split hxy hyn, List.flatMap_append, List.flatMap_cons, List.flatMap_append, List.flatMap_cons, if_pos rfl, if_neg (by omega), if_pos rfl,
      P _ 0 x (fun j h1 h2 => by rw [if_neg (by omega), if_neg (by omega)]), P _ (x + 1) (y - x - 1) (fun j h1 h2 => by rw [if_neg (by omega), if_neg (by omega)]), P _ (y + 1) (n - y - 1) (fun j h1 h2 => by rw [if_neg (by omega), if_neg (by omega)])]
  rw [e1, e2, e3, e4]
  refine merge_far _ _ _ U V (x : Int) (y : Int) (fun h => ?_) (fun h => ?_) (fun u hu h => ?_) (fun h => ?_) (fun v hv h => ?_)
  · have := congrArg List.length h
    simp at this
    omega
  · rcases List.mem_append.1 h with h | h
    · have := hU _ h; omega
    · rcases List.mem_append.1 h with h | h
      · obtain ⟨j, h1, h2, h3⟩ := mem_seg.1 h; omega
      · rcases List.mem_cons.1 h with h | h
        · omega
        · obtain ⟨j, h1, h2, h3⟩ := mem_seg.1 h; omega
  · have h0 := hU _ hu
    rcases List.mem_append.1 h with h | h
    · obtain ⟨j, h1, h2, h3⟩ := mem_seg.1 h; omega
    · rcases List.mem_cons.1 h with h | h
      · omega
      · obtain ⟨j, h1, h2, h3⟩ := mem_seg.1 h; omega
  · rcases List.mem_append.1 h with h | h
    · have := hV _ h; omega
    · obtain ⟨j, h1, h2, h3⟩ := mem_seg.1 h; omega
  · have h0 := hV _ hv
    obtain ⟨j, h1, h2, h3⟩ := mem_seg.1 h; omega

end Go.Proofs.Ytbfclmhcoelplaa.Wv
