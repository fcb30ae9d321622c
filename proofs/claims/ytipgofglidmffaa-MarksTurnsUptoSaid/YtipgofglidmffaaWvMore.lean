/-
  THREE LISTS WOVEN: how many chunks there are, where they lie, and how long is what comes of them. No program.
-/
import Derived.Test.YtipgofglidmffaaWvLaws
namespace Go.Proofs.Ytipgofglidmffaa.Wv
open Go.Proofs.Ytipgofglidmffaa.Lc
set_option linter.unusedVariables false

theorem ch_len (B O T : List Int) (k q : Nat → Option Nat) : ∀ f x y z, (ch B O T k q f x y z).length ≤ f
  | 0, _, _, _ => Nat.le_refl _
  | f + 1, x, y, z => by
    unfold ch
    split
    · split
      · exact Nat.succ_le_succ (ch_len B O T k q f _ _ _)
      · exact Nat.succ_le_succ (ch_len B O T k q f _ _ _)
    · exact Nat.zero_le _
theorem chunks_len (B O T : List Int) : (chunks B O T).length ≤ B.length + O.length + T.length := by
  have := ch_len B O T (kp (pairs B O)) (kp (pairs B T)) (rest B O T 0 0 0) 0 0 0
  unfold rest at this
  simpa [chunks, rest] using this
/-- A chunk lies in the lists. -/
structure Lies (B O T : List Int) (c : Ch) : Prop where
  b : c.b1 ≤ c.b2
  b' : c.b2 ≤ B.length
  o : c.o1 ≤ c.o2
  o' : c.o2 ≤ O.length
  t : c.t1 ≤ c.t2
  t' : c.t2 ≤ T.length
  lo : 1 ≤ c.out
  hi : c.out ≤ 5
theorem cov_lies {B O T : List Int} : ∀ (l : List Ch) (x y z : Nat), Cov B O T l x y z → ∀ c ∈ l, Lies B O T c
  | [], _, _, _, _, c, hc => by cases hc
  | d :: l, x, y, z, h, c, hc => by
    obtain ⟨h1, h2, h3, h4, h5, h6, _, h8, h9, h10, ho, _, hn⟩ := h
    rcases List.mem_cons.1 hc with rfl | hc
    · exact ⟨by omega, h8, by omega, h9, by omega, h10, ho.1, ho.2⟩
    · exact cov_lies l _ _ _ hn c hc
theorem chunks_lies (B O T : List Int) : ∀ c ∈ chunks B O T, Lies B O T c := cov_lies _ _ _ _ (chunks_cov B O T)
theorem mg_len {B O T : List Int} : ∀ (l : List Ch) (x y z : Nat), Cov B O T l x y z → (mg O T l).length + y + z ≤ O.length + T.length
  | [], x, y, z, h => by
    obtain ⟨_, h2, h3⟩ := h
    show 0 + y + z ≤ _
    omega
  | d :: l, x, y, z, h => by
    obtain ⟨h1, h2, h3, h4, h5, h6, _, h8, h9, h10, ho, _, hn⟩ := h
    have := mg_len l _ _ _ hn
    show (((if d.out = 1 ∨ d.out = 3 then part T d.t1 d.t2 else part O d.o1 d.o2) ++ mg O T l).length) + y + z ≤ _
    rw [List.length_append]
    split
    · rw [part_len T h10]; omega
    · rw [part_len O h9]; omega
theorem merge_len (B O T : List Int) : (merge B O T).1.length ≤ O.length + T.length := by
  unfold merge
  split
  · have := mg_len _ _ _ _ (chunks_cov B O T)
    simpa using this
  · exact Nat.zero_le _
/-- What one chunk gives. -/
def mg1 (O T : List Int) (c : Ch) : List Int := if c.out = 1 ∨ c.out = 3 then part T c.t1 c.t2 else part O c.o1 c.o2
theorem mg_take {O T : List Int} {l : List Ch} {i : Nat} (h : i < l.length) : mg O T (l.take (i + 1)) = mg O T (l.take i) ++ mg1 O T l[i] := by
  unfold mg
  rw [List.take_add_one, List.getElem?_eq_getElem h, List.flatMap_append]
  show _ ++ List.flatMap _ [l[i]] = _
  rw [List.flatMap_cons, List.flatMap_nil, List.append_nil]
  rfl
theorem mg_take_len (B O T : List Int) (i : Nat) : (mg O T ((chunks B O T).take i)).length ≤ O.length + T.length := by
  have h := mg_len _ _ _ _ (chunks_cov B O T)
  have e : mg O T (chunks B O T) = mg O T ((chunks B O T).take i) ++ mg O T ((chunks B O T).drop i) := by
    unfold mg
    rw [← List.flatMap_append, List.take_append_drop]
  rw [e, List.length_append] at h
  omega

end Go.Proofs.Ytipgofglidmffaa.Wv
