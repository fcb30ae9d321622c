/-
  CONTRACT of the document's Same (emendationref07).
-/
import Derived.Test.YtpakjdgddomdjaaDoorSpHelp
namespace Go.Proofs.YtpakjdgddomdjaaDoor.Sp
open Go.RowKit
open Go.Proofs.YtpakjdgddomdjaaDoor.Tk (S S_of S_list S_size S_toList S_app ret_int)
open Go.Proofs.YtpakjdgddomdjaaDoor.Cm (calls_at)
set_option linter.unusedVariables false

mutual
def smOne : Sp → Sp → Bool
  | .mk k s l, .mk q t m => decide (k = q) && decide (s = t) && smAll l m
def smAll : List Sp → List Sp → Bool
  | [], [] => true
  | x :: r, y :: t => smOne x y && smAll r t
  | _, _ => false
end
theorem smOne_eq (x y : Sp) : smOne x y = (decide (x.kind = y.kind) && decide (x.s = y.s) && smAll x.kids y.kids) := by
  obtain ⟨k, s, l⟩ := x
  obtain ⟨q, t, m⟩ := y
  unfold smOne
  rfl
theorem smAll_cons (x y : Sp) (r t : List Sp) : smAll (x :: r) (y :: t) = (smOne x y && smAll r t) := by rw [smAll]
mutual
theorem smOne_iff : ∀ x y : Sp, smOne x y = true ↔ x = y
  | .mk k s l, .mk q t m => by
    unfold smOne
    rw [Bool.and_eq_true, Bool.and_eq_true, decide_eq_true_iff, decide_eq_true_iff, smAll_iff l m]
    simp [and_assoc]
theorem smAll_iff : ∀ a b : List Sp, smAll a b = true ↔ a = b
  | [], [] => by simp [smAll]
  | [], _ :: _ => by simp [smAll]
  | _ :: _, [] => by simp [smAll]
  | x :: r, y :: t => by
    rw [smAll_cons, Bool.and_eq_true, smOne_iff x y, smAll_iff r t]
    simp
end
theorem smAll_len : ∀ a b : List Sp, a.length ≠ b.length → smAll a b = false
  | [], [], h => absurd rfl h
  | [], _ :: _, _ => by simp [smAll]
  | _ :: _, [], _ => by simp [smAll]
  | x :: r, y :: t, h => by
    rw [smAll_cons, smAll_len r t (by simpa using h), Bool.and_false]
theorem Tr.drewN {w : World} {v : Value} {l : List Sp} (h : Tr w v l) (n : Nat) : Tr (w.drewN n) v l := h.below (below_drewN (Below.refl _ _) n)

end Go.Proofs.YtpakjdgddomdjaaDoor.Sp
