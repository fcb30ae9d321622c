/-
  CONTRACTS of the document's texts and Same (emendationref10).
-/
import Derived.Test.YtpakjdgddomdjaaDoorBtCount
import Derived.Test.YtpakjdgddomdjaaDoorSpSame
import Derived.Test.YtpakjdgddomdjaaDoorSpRight
import Derived.Deep.Cut
import Derived.Deep.CutRange
import Derived.Deep.CutBlock
namespace Go.Proofs.YtpakjdgddomdjaaDoor.Bt
open Go.RowKit
open Go.Proofs.YtpakjdgddomdjaaDoor.Tk (S S_of S_list S_size S_toList ret_int Rd get_lt take_next take_off)
open Go.Proofs.YtpakjdgddomdjaaDoor.Cm (calls_at alloc_new alloc_at cell_at)
open Go.Proofs.YtpakjdgddomdjaaDoor.Sp (Sp Tr ret_bool OkAns smAll totAll)
open Go.Proofs.YtpakjdgddomdjaaDoor.Bk (Bk)
set_option linter.unusedVariables false

mutual
def smOne : Bk → Bk → Bool
  | .mk k lv i ls ss l, .mk q lw j ms tt m => decide (k = q) && decide (lv = lw) && decide (i = j) && decide (ls = ms) && smAll ss tt && smB l m
def smB : List Bk → List Bk → Bool
  | [], [] => true
  | x :: r, y :: t => smOne x y && smB r t
  | _, _ => false
end
theorem smOne_eq (x y : Bk) : smOne x y = (decide (x.kind = y.kind) && decide (x.level = y.level) && decide (x.info = y.info) && decide (x.lines = y.lines) && smAll x.spans y.spans && smB x.kids y.kids) := by
  obtain ⟨k, lv, i, ls, ss, l⟩ := x
  obtain ⟨q, lw, j, ms, tt, m⟩ := y
  rw [smOne]
  rfl
theorem smB_cons (x y : Bk) (r t : List Bk) : smB (x :: r) (y :: t) = (smOne x y && smB r t) := by rw [smB]
mutual
theorem smOne_iff : ∀ x y : Bk, smOne x y = true ↔ x = y
  | .mk k lv i ls ss l, .mk q lw j ms tt m => by
    rw [smOne, Bool.and_eq_true, Bool.and_eq_true, Bool.and_eq_true, Bool.and_eq_true, Bool.and_eq_true, decide_eq_true_iff, decide_eq_true_iff, decide_eq_true_iff, decide_eq_true_iff, Sp.smAll_iff ss tt, smB_iff l m]
    simp [and_assoc]
theorem smB_iff : ∀ a b : List Bk, smB a b = true ↔ a = b
  | [], [] => by simp [smB]
  | [], _ :: _ => by simp [smB]
  | _ :: _, [] => by simp [smB]
  | x :: r, y :: t => by
    rw [smB_cons, Bool.and_eq_true, smOne_iff x y, smB_iff r t]
    simp
end
theorem smB_len : ∀ a b : List Bk, a.length ≠ b.length → smB a b = false
  | [], [], h => absurd rfl h
  | [], _ :: _, _ => by simp [smB]
  | _ :: _, [], _ => by simp [smB]
  | x :: r, y :: t, h => by
    rw [smB_cons, smB_len r t (by simpa using h), Bool.and_false]

end Go.Proofs.YtpakjdgddomdjaaDoor.Bt
