/-
  PLAIN: bytes of text behind spans; spans behind spans, texts that meet made one. No program.
-/
import Derived.Test.YtjgmfgnfdaeelaaGreatDoorPkA
namespace Go.Proofs.YtjgmfgnfdaeelaaGreatDoor.Sp
set_option linter.unusedVariables false

/-- Bytes of text behind spans. -/
def snocT : List Sp → List UInt8 → List Sp
  | [], s => [.mk 1 s []]
  | [x], s => if x.kind = 1 then [.mk x.kind (x.s ++ s) x.kids] else [x, .mk 1 s []]
  | x :: y :: r, s => x :: snocT (y :: r) s
theorem snocT_app (s : List UInt8) (x : Sp) : ∀ L : List Sp, snocT (L ++ [x]) s = L ++ (if x.kind = 1 then [.mk x.kind (x.s ++ s) x.kids] else [x, .mk 1 s []])
  | [] => by rw [List.nil_append, List.nil_append, snocT]
  | [y] => by rw [show [y] ++ [x] = y :: x :: [] from rfl, snocT, snocT]; rfl
  | y :: z :: r => by
    have := snocT_app s x (z :: r)
    rw [List.cons_append] at this
    rw [List.cons_append, List.cons_append, snocT, this]
    rfl
theorem snocT_other {L : List Sp} (s : List UInt8) (h : ∀ x, L.getLast? = some x → x.kind ≠ 1) : snocT L s = L ++ [.mk 1 s []] := by
  rcases List.eq_nil_or_concat L with rfl | ⟨M, x, rfl⟩
  · rfl
  · rw [List.concat_eq_append] at h ⊢
    rw [snocT_app, if_neg (h x (by simp))]
    simp
theorem kd1 (s : List UInt8) (l : List Sp) : (Sp.mk 1 s l).kind = 1 := rfl
theorem snocT_snocT (a b : List UInt8) (L : List Sp) : snocT (snocT L a) b = snocT L (a ++ b) := by
  rcases List.eq_nil_or_concat L with rfl | ⟨M, x, rfl⟩
  · rfl
  · rw [List.concat_eq_append, snocT_app, snocT_app]
    by_cases h : x.kind = 1
    · rw [if_pos h, if_pos h, snocT_app, if_pos (show (Sp.mk x.kind (x.s ++ a) x.kids).kind = 1 from h)]
      simp [Sp.kind, Sp.s, Sp.kids]
    · rw [if_neg h, if_neg h, show M ++ [x, .mk 1 a []] = (M ++ [x]) ++ [.mk 1 a []] by simp, snocT_app, if_pos (kd1 _ _)]
      simp [Sp.kind, Sp.s, Sp.kids]
def glue (L : List Sp) : List Sp → List Sp
  | [] => L
  | x :: r => (if x.kind = 1 then snocT L x.s else L ++ [x]) ++ r
/-- A Text ahead has no kids. -/
def T0 (R : List Sp) : Prop := ∀ y r, R = y :: r → y.kind = 1 → y.kids = []
theorem glue_text (L : List Sp) (a : List UInt8) : ∀ R : List Sp, glue L (consT a R) = glue (snocT L a) R
  | [] => by rw [consT, glue, glue, if_pos (kd1 _ _)]; simp [Sp.s]
  | .mk k t kids :: r => by
    by_cases h : k = 1
    · rw [show consT a (.mk k t kids :: r) = .mk 1 (a ++ t) kids :: r from if_pos h, glue, glue, if_pos (kd1 _ _), if_pos (show (Sp.mk k t kids).kind = 1 from h), snocT_snocT]
      rfl
    · rw [show consT a (.mk k t kids :: r) = .mk 1 a [] :: .mk k t kids :: r from if_neg h, glue, glue, if_pos (kd1 _ _), if_neg (show ¬ (Sp.mk k t kids).kind = 1 from h)]
      simp [Sp.s]
theorem glue_span (L : List Sp) (x : Sp) (hx : x.kind ≠ 1) : ∀ R : List Sp, T0 R → glue L (x :: R) = glue (L ++ [x]) R
  | [], _ => by rw [glue, glue, if_neg hx, List.append_nil]
  | y :: r, h => by
    rw [glue, glue, if_neg hx]
    by_cases hy : y.kind = 1
    · have hk := h y r rfl hy
      obtain ⟨k, s, kids⟩ := y
      simp only [Sp.kind, Sp.kids] at hy hk
      subst hy
      subst hk
      rw [if_pos (kd1 _ _), snocT_app, if_neg hx]
      simp [Sp.s]
    · rw [if_neg hy]
      simp
theorem glue_nil (R : List Sp) (h : T0 R) : glue [] R = R := by
  match R, h with
  | [], _ => rfl
  | y :: r, h =>
    rw [glue]
    by_cases hy : y.kind = 1
    · have hk := h y r rfl hy
      obtain ⟨k, s, kids⟩ := y
      simp only [Sp.kind, Sp.kids] at hy hk
      subst hy
      subst hk
      rw [if_pos (kd1 _ _)]
      rfl
    · rw [if_neg hy]; rfl

/-! How much there is. -/
def Bnd (n : Nat) (L : List Sp) : Prop := L.length ≤ n ∧ ∀ x ∈ L, x.s.length ≤ n
theorem Bnd.nil (n : Nat) : Bnd n [] := ⟨Nat.zero_le _, fun x h => by cases h⟩
theorem Bnd.mono {n m : Nat} {L : List Sp} (h : Bnd n L) (hm : n ≤ m) : Bnd m L := ⟨Nat.le_trans h.1 hm, fun x hx => Nat.le_trans (h.2 x hx) hm⟩
theorem Bnd.snoc {n d : Nat} {L : List Sp} (h : Bnd n L) (a : List UInt8) (ha : a.length ≤ d) (hd : 1 ≤ d) : Bnd (n + d) (snocT L a) := by
  rcases List.eq_nil_or_concat L with rfl | ⟨M, x, rfl⟩
  · exact ⟨by simp [snocT]; omega, fun y hy => by simp [snocT] at hy; subst hy; simp [Sp.s]; omega⟩
  · rw [List.concat_eq_append] at h ⊢
    rw [snocT_app]
    have hx := h.2 x (by simp)
    have hl := h.1
    rw [List.length_append, List.length_singleton] at hl
    by_cases hk : x.kind = 1
    · rw [if_pos hk]
      refine ⟨by simp; omega, fun y hy => ?_⟩
      rcases List.mem_append.1 hy with hy | hy
      · have := h.2 y (List.mem_append_left _ hy); omega
      · rw [List.mem_singleton] at hy; subst hy; simp [Sp.s] at hx ⊢; omega
    · rw [if_neg hk]
      refine ⟨by simp; omega, fun y hy => ?_⟩
      rcases List.mem_append.1 hy with hy | hy
      · have := h.2 y (List.mem_append_left _ hy); omega
      · simp at hy
        rcases hy with rfl | rfl
        · omega
        · simp [Sp.s]; omega
theorem Bnd.push {n d : Nat} {L : List Sp} (h : Bnd n L) (x : Sp) (hx : x.s.length ≤ d) (hd : 1 ≤ d) : Bnd (n + d) (L ++ [x]) := by
  refine ⟨by have := h.1; simp; omega, fun y hy => ?_⟩
  rcases List.mem_append.1 hy with hy | hy
  · have := h.2 y hy; omega
  · rw [List.mem_singleton] at hy; subst hy; omega

end Go.Proofs.YtjgmfgnfdaeelaaGreatDoor.Sp
