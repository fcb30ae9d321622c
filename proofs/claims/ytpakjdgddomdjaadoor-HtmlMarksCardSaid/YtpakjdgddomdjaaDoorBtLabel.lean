/-
  CONTRACTS of the document's has, gap, tight, line, Label and Info (emendationref10).
-/
import Derived.Test.YtpakjdgddomdjaaDoorSpDest
import Derived.Test.YtpakjdgddomdjaaDoorUtfRefCheck
namespace Go.Proofs.YtpakjdgddomdjaaDoor.Bt
open Go.RowKit
open Go.Proofs.YtpakjdgddomdjaaDoor.Tk (S S_of S_list S_size S_toList S_app ret_int eq8 ne8 at_data len_data)
open Go.Proofs.YtpakjdgddomdjaaDoor.Sp (hsB spB ret_bool)
open Go.Proofs.YtpakjdgddomdjaaDoor.Utf (chk)
set_option linter.unusedVariables false

def ckB (s : List UInt8) : Bool := decide (chk (S s) = 0)
def lineB (s : List UInt8) : Bool := ckB s && !hsB 10 s && !hsB 13 s
def tgB (s : List UInt8) : Bool := s.isEmpty || (!spB (s.headD 0) && !spB (s.getLastD 0))
def labB (s : List UInt8) : Bool := !s.isEmpty && lineB s && tgB s && !hsB 91 s && !hsB 93 s && !hsB 92 s
def infB (s : List UInt8) : Bool := lineB s && tgB s && !hsB 96 s

theorem drop_all (s : ByteArray) (k : Nat) (h : ¬ k < s.size) : s.data.toList.drop k = [] := List.drop_eq_nil_of_le (by simp; omega)
theorem head_data (s : ByteArray) (h : 0 < s.size) : s.data.toList.headD 0 = s[0] := by
  have := at_data s 0 h
  rw [List.drop_zero] at this
  rw [this]
  rfl
theorem last_data (s : ByteArray) (h : s.size - 1 < s.size) : s.data.toList.getLastD 0 = s[s.size - 1] := by
  have hl : s.data.toList.getLast? = some s[s.size - 1] := by
    rw [List.getLast?_eq_getElem?, len_data, List.getElem?_eq_getElem (by rw [len_data]; exact h)]
    rfl
  rw [List.getLastD_eq_getLast?, hl]
  rfl
end Go.Proofs.YtpakjdgddomdjaaDoor.Bt
