/-
  CONTRACT of the document's Check (emendationref01).
-/
import Derived.Test.YtpakjdgddomdjaaDoorUtfRef
import Derived.Test.YtpakjdgddomdjaaDoorUtfCheck
namespace Go.Proofs.YtpakjdgddomdjaaDoor.Utf
open Go.RowKit
set_option linter.unusedVariables false

theorem zero_at (t : ByteArray) (k : Nat) (h : k < t.size) (e : t[k].toNat = 0) : zeroB t = true := by
  unfold zeroB
  apply decide_eq_true
  have h' : k < t.data.toList.length := by simpa using h
  have e1 : t.data.toList[k] = t[k] := rfl
  have e2 : t.data.toList[k] = 0 := by rw [e1]; exact UInt8.toNat_inj.1 e
  exact e2 ▸ List.getElem_mem h'
theorem no_zero (t : ByteArray) (h : ∀ k (hk : k < t.size), t[k].toNat ≠ 0) : zeroB t = false := by
  unfold zeroB
  apply decide_eq_false
  intro hm
  obtain ⟨i, hi, he⟩ := List.getElem_of_mem hm
  have hi' : i < t.size := by simpa using hi
  refine h i hi' ?_
  have e1 : t.data.toList[i] = t[i] := rfl
  rw [← e1, he]; rfl
/-- None of the first k bytes is 0. -/
def Clean0 (t : ByteArray) (k : Nat) : Prop := ∀ j (hj : j < t.size), j < k → t[j].toNat ≠ 0

end Go.Proofs.YtpakjdgddomdjaaDoor.Utf
