/-
  CONTRACT of the document's Right (emendationref07).
-/
import Derived.Test.YtpakjdgddomdjaaDoorSpAll
namespace Go.Proofs.YtpakjdgddomdjaaDoor.Sp
open Go.RowKit
open Go.Proofs.YtpakjdgddomdjaaDoor.Tk (S S_of S_list S_size S_toList S_app ret_int eq8 ne8 at_data len_data)
open Go.Proofs.YtpakjdgddomdjaaDoor.Cm (calls_at Keep alloc_new alloc_at cell_at lt_of_at)
set_option linter.unusedVariables false

def hdB (x : Sp) : Bool := !decide (x.kind = 1) || !edB (x.s.headD 0)
def ltB (x : Sp) : Bool := !decide (x.kind = 1) || !edB (x.s.getLastD 0)
def endB (l : List Sp) : Bool := (l.head?.elim true hdB) && (l.getLast?.elim true ltB)
/-- Spans in normal form. -/
def rtB (l : List Sp) : Bool := okAll false false 0 l && endB l
theorem okAll_mem {e k : Bool} : ∀ {l : List Sp} {p : Int}, okAll e k p l = true → ∀ x ∈ l, okOne e k x = true
  | [], _, _, x, hx => by cases hx
  | y :: r, p, h, x, hx => by
    rw [okAll_cons, Bool.and_eq_true, Bool.and_eq_true] at h
    rcases List.mem_cons.1 hx with rfl | hx
    · exact h.1.1
    · exact okAll_mem h.2 x hx
theorem okOne_text {e k : Bool} {x : Sp} (h : okOne e k x = true) (h1 : x.kind = 1) : x.s ≠ [] := by
  rw [okOne_eq, if_pos h1, Bool.and_eq_true, Bool.and_eq_true] at h
  have := h.2.2
  unfold ttB at this
  rw [Bool.and_eq_true, Bool.and_eq_true] at this
  have := this.2.1
  intro e
  rw [e] at this
  simp at this
def fstB (t : ByteArray) : UInt8 := t.data.toList.headD 0
def lstB (t : ByteArray) : UInt8 := t.data.toList.getLastD 0
theorem fstB_eq (t : ByteArray) (h : 0 < t.size) : fstB t = t[0] := by
  have := at_data t 0 h
  rw [List.drop_zero] at this
  have h2 : t.data.toList.head? = some t[0] := congrArg List.head? this
  unfold fstB
  rw [List.headD_eq_head?_getD, h2]
  rfl
theorem lstB_eq (t : ByteArray) (h : t.size - 1 < t.size) : lstB t = t[t.size - 1] := by
  have h1 := at_data t (t.size - 1) h
  have hl := len_data t
  have h2 : (t.data.toList.drop (t.size - 1)).head? = some t[t.size - 1] := congrArg List.head? h1
  unfold lstB
  rw [List.getLastD_eq_getLast?, List.getLast?_eq_getElem?, ← List.head?_drop, hl, h2]
  rfl
theorem fst_S (s : List UInt8) : fstB (S s) = s.headD 0 := by unfold fstB; rw [S_list]
theorem lst_S (s : List UInt8) : lstB (S s) = s.getLastD 0 := by unfold lstB; rw [S_list]

end Go.Proofs.YtpakjdgddomdjaaDoor.Sp
