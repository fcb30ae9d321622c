/-
  THE SIDES EXCHANGED, in plain words: as many clashes, as many lines; each side chosen is the other one.
-/
import Derived.Test.YtipgofglidmffaaMkMerge
namespace Go.Proofs.Ytipgofglidmffaa.Mk
open Go.Proofs.Ytipgofglidmffaa.Tk (rank rank_same)
open Go.Proofs.Ytipgofglidmffaa.Wv (Ch chunks swap chunks_swap)
set_option linter.unusedVariables false

theorem nums_same {l m : List Tx} (h : ∀ y, y ∈ l ↔ y ∈ m) (xs : List Tx) : nums l xs = nums m xs := by
  unfold nums
  exact List.map_congr_left (fun x _ => by rw [rank_same h])
theorem cks_swap (B O T : List Tx) : cks B T O = (cks B O T).map swap := by
  have h : ∀ y, y ∈ [B, T, O].flatten ↔ y ∈ [B, O, T].flatten := fun y => by
    simp only [List.flatten_cons, List.flatten_nil, List.append_nil, List.mem_append]
    constructor
    · rintro (h | h | h)
      · exact Or.inl h
      · exact Or.inr (Or.inr h)
      · exact Or.inr (Or.inl h)
    · rintro (h | h | h)
      · exact Or.inl h
      · exact Or.inr (Or.inr h)
      · exact Or.inr (Or.inl h)
  unfold cks
  rw [nums_same h, nums_same h, nums_same h, chunks_swap]
theorem cks_par (B O T : List Tx) : ∀ c ∈ cks B O T, Par O T c :=
  par_chunks [B, O, T].flatten B O T (fun s hs => by simp [hs]) (fun s hs => by simp [hs])
theorem turn_clashes (B O T : List Tx) : clashes (cks B T O) = clashes (cks B O T) := by rw [cks_swap, clashes_swap]
theorem turn_len (h : Nat) (no nb nt : Tx) (B O T : List Tx) : (mlines h nt nb no B T O (cks B T O)).length = (mlines h no nb nt B O T (cks B O T)).length := by
  rw [cks_swap]
  exact mlines_swap_len h no nb nt B O T _ (cks_par B O T)
/-- What each side has, everywhere. -/
def eachS (side : Nat) (B O T : List Tx) : List Tx := (cks B O T).flatMap (segS side B O T)
theorem turn_one (h side : Nat) (hh : 0 < h) (hs : side = 1 ∨ side = 2 ∨ side = 3) (no nb nt : Tx) (B O T : List Tx) (hB : Clear h B) (hO : Clear h O) (hT : Clear h T) :
    choose h side 0 (mlines h no nb nt B O T (cks B O T)) = some (eachS side B O T) := choose_mlines h side hh hs no nb nt B O T hB hO hT _
theorem turn_two (h side : Nat) (hh : 0 < h) (hs : side = 1 ∨ side = 2 ∨ side = 3) (no nb nt : Tx) (B O T : List Tx) (hB : Clear h B) (hO : Clear h O) (hT : Clear h T) :
    choose h (4 - side) 0 (mlines h nt nb no B T O (cks B T O)) = some (eachS side B O T) := by
  rw [choose_mlines h (4 - side) hh (by omega) nt nb no B T O hB hT hO, cks_swap, sides_swap side hs B O T _ (cks_par B O T)]
  rfl
theorem eachS_len (side : Nat) (B O T : List Tx) : (eachS side B O T).length ≤ (cks B O T).length * (B.length + O.length + T.length) := by
  unfold eachS
  have p : ∀ (l : List Tx) a b, (partL l a b).length ≤ l.length := fun l a b => by
    unfold partL
    rw [List.length_take, List.length_drop]
    omega
  have q : ∀ c : Ch, (segS side B O T c).length ≤ B.length + O.length + T.length := fun c => by
    have p1 := p B c.b1 c.b2
    have p2 := p O c.o1 c.o2
    have p3 := p T c.t1 c.t2
    unfold segS sel
    repeat' split
    all_goals omega
  generalize cks B O T = l
  induction l with
  | nil => simp
  | cons c l ih =>
    have := q c
    rw [List.flatMap_cons, List.length_append, List.length_cons, Nat.add_mul]
    omega
theorem mlines_each (h : Nat) (hh : h ≤ 1000) (no nb nt : Tx) (l1 : no.length ≤ 2000) (l2 : nb.length ≤ 2000) (l3 : nt.length ≤ 2000) (B O T : List Tx) (hB : ∀ x ∈ B, x.length ≤ 2000) (hO : ∀ x ∈ O, x.length ≤ 2000) (hT : ∀ x ∈ T, x.length ≤ 2000) (l : List Ch) :
    ∀ x ∈ mlines h no nb nt B O T l, x.length ≤ 1000000 := by
  have mk : ∀ c n, n.length ≤ 2000 → (mkr c h n).length ≤ 1000000 := fun c n hn => by
    unfold mkr
    rw [List.length_append, List.length_replicate]
    split
    · simp; omega
    · simp; omega
  intro x hx
  unfold mlines at hx
  obtain ⟨c, _, hx⟩ := List.mem_flatMap.1 hx
  have pB : ∀ {a b}, x ∈ partL B a b → x.length ≤ 1000000 := fun h => Nat.le_trans (hB x (partL_mem h)) (by omega)
  have pO : ∀ {a b}, x ∈ partL O a b → x.length ≤ 1000000 := fun h => Nat.le_trans (hO x (partL_mem h)) (by omega)
  have pT : ∀ {a b}, x ∈ partL T a b → x.length ≤ 1000000 := fun h => Nat.le_trans (hT x (partL_mem h)) (by omega)
  unfold seg at hx
  split at hx
  · exact pT hx
  · split at hx
    · exact pO hx
    · simp only [region, List.mem_cons, List.mem_append, List.not_mem_nil, or_false] at hx
      rcases hx with rfl | hx | rfl | hx | rfl | hx | rfl
      · exact mk _ _ l1
      · exact pO hx
      · exact mk _ _ l2
      · exact pB hx
      · exact mk _ _ (by simp)
      · exact pT hx
      · exact mk _ _ l3
theorem size_three (a : Int) (B O T : List Tx) (h : size a [B, O, T].flatten ≠ 1000) :
    Clear (hold (size a [B, O, T].flatten)) B ∧ Clear (hold (size a [B, O, T].flatten)) O ∧ Clear (hold (size a [B, O, T].flatten)) T := by
  have hc := size_clear a _ h
  refine ⟨hc.sub ?_, hc.sub ?_, hc.sub ?_⟩ <;> intro x hx <;> simp [hx]

end Go.Proofs.Ytipgofglidmffaa.Mk
