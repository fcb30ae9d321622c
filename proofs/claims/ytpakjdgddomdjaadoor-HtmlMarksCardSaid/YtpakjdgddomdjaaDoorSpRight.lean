/-
  CONTRACTS of the document's one, all (emendationref07): spans in normal form, but for the ends.
-/
import Derived.Test.YtpakjdgddomdjaaDoorSpText
import Derived.Test.YtpakjdgddomdjaaDoorUtfRefCheck
import Derived.Deep.RegionHeld3
namespace Go.Proofs.YtpakjdgddomdjaaDoor.Sp
open Go.RowKit
open Go.Proofs.YtpakjdgddomdjaaDoor.Tk (S S_of S_list S_size S_toList S_app ret_int eq8 ne8 at_data len_data)
open Go.Proofs.YtpakjdgddomdjaaDoor.Cm (calls_at Keep alloc_new alloc_at cell_at lt_of_at)
open Go.Proofs.YtpakjdgddomdjaaDoor.Utf (chk)
set_option linter.unusedVariables false

def ckB (s : List UInt8) : Bool := decide (chk (S s) = 0)
mutual
/-- Can a span be, in an Emph (e), in a Link (k)? -/
def okOne (e k : Bool) : Sp → Bool
  | .mk q s l => ckB s && (if q = 1 then (l.isEmpty && ttB s) else if q = 2 then (l.isEmpty && (!s.isEmpty && (!hsB 10 s && !hsB 13 s)))
      else if q = 3 then (s.isEmpty && (!l.isEmpty && (!e && okAll true k 0 l))) else if q = 4 then (dsB s && (!l.isEmpty && (!k && okAll e true 0 l))) else false)
/-- Can spans be, behind one of kind p? -/
def okAll (e k : Bool) (p : Int) : List Sp → Bool
  | [] => true
  | x :: r => okOne e k x && !(decide (x.kind = p) && decide (x.kind ≤ 2)) && okAll e k x.kind r
end
theorem okAll_cons (e k : Bool) (p : Int) (x : Sp) (r : List Sp) : okAll e k p (x :: r) = (okOne e k x && !(decide (x.kind = p) && decide (x.kind ≤ 2)) && okAll e k x.kind r) := by rw [okAll]
theorem okOne_eq (e k : Bool) (x : Sp) : okOne e k x = (ckB x.s && (if x.kind = 1 then (x.kids.isEmpty && ttB x.s) else if x.kind = 2 then (x.kids.isEmpty && (!x.s.isEmpty && (!hsB 10 x.s && !hsB 13 x.s)))
      else if x.kind = 3 then (x.s.isEmpty && (!x.kids.isEmpty && (!e && okAll true k 0 x.kids))) else if x.kind = 4 then (dsB x.s && (!x.kids.isEmpty && (!k && okAll e true 0 x.kids))) else false)) := by
  obtain ⟨q, s, l⟩ := x
  rw [okOne]
  rfl
theorem okOne_kind {e k : Bool} {x : Sp} (h : okOne e k x = true) : 1 ≤ x.kind ∧ x.kind ≤ 4 := by
  rw [okOne_eq, Bool.and_eq_true] at h
  have h2 := h.2
  split at h2
  · omega
  · split at h2
    · omega
    · split at h2
      · omega
      · split at h2
        · omega
        · simp at h2
theorem isEmpty_len {α : Type} (l : List α) : ((l.length : Int) == 0) = l.isEmpty := by
  cases l with
  | nil => rfl
  | cons a r =>
    rw [List.isEmpty_cons, beq_eq_false_iff_ne]
    simp
    omega
theorem gt_len {α : Type} (l : List α) : decide ((l.length : Int) > 0) = !l.isEmpty := by
  cases l with
  | nil => rfl
  | cons a r =>
    rw [List.isEmpty_cons]
    exact decide_eq_true (by simp)

def OkAns (w : World) (b : Bool) (e : Ending) (w' : World) : Prop := e = .returned (.bool b) ∧ Below w.heap.size w w'

end Go.Proofs.YtpakjdgddomdjaaDoor.Sp
