/-
  CONTRACTS of the document's space, edge, has, Dest and text (emendationref07).
-/
import Derived.Test.YtpakjdgddomdjaaDoorSpHelp
import Derived.Deep.Cut
import Derived.Deep.CutRange
import Derived.Deep.CutBlock
namespace Go.Proofs.YtpakjdgddomdjaaDoor.Sp
open Go.RowKit
open Go.Proofs.YtpakjdgddomdjaaDoor.Tk (S S_of S_list S_size S_toList S_app ret_int eq8 ne8 at_data len_data)
open Go.Proofs.YtpakjdgddomdjaaDoor.Cm (calls_at)
set_option linter.unusedVariables false

def spB (c : UInt8) : Bool := decide (c = 32) || decide (c = 9)
def edB (c : UInt8) : Bool := spB c || decide (c = 10)
theorem i8 (c : UInt8) (n : Nat) (hn : n < 256) : ((c.toNat : Int) == (n : Int)) = decide (c = UInt8.ofNat n) := by
  rw [Bool.eq_iff_iff, beq_iff_eq, decide_eq_true_iff]
  constructor
  · intro h
    apply UInt8.toNat_inj.1
    rw [UInt8.toNat_ofNat']
    omega
  · intro h
    rw [h, UInt8.toNat_ofNat']
    omega

theorem drop_all (s : ByteArray) (k : Nat) (h : ¬ k < s.size) : s.data.toList.drop k = [] := List.drop_eq_nil_of_le (by simp; omega)
/-- Does a byte stand in a text? -/
def hsB (c : UInt8) (s : List UInt8) : Bool := s.any (fun b => decide (b = c))
/-! Where a link can go to. -/
def marksL : List UInt8 := [46, 47, 95, 45, 35, 63, 38, 58, 37]
def alB (c : UInt8) : Bool := (decide (97 ≤ (c.toNat : Int)) && decide ((c.toNat : Int) ≤ 122)) || (decide (65 ≤ (c.toNat : Int)) && decide ((c.toNat : Int) ≤ 90)) || (decide (48 ≤ (c.toNat : Int)) && decide ((c.toNat : Int) ≤ 57))
def dcB (c : UInt8) : Bool := alB c || marksL.any (fun b => decide (c = b))
def dsB (s : List UInt8) : Bool := s.all dcB && !s.isEmpty
end Go.Proofs.YtpakjdgddomdjaaDoor.Sp
