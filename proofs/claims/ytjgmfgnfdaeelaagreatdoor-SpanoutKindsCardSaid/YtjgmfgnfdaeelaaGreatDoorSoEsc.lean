/-
  CONTRACT of the document's Escape (emendationref09); written by gen_esc.py.
-/
import Derived.Test.YtjgmfgnfdaeelaaGreatDoorPkD
import Derived.Test.YtjgmfgnfdaeelaaGreatDoorPkA
namespace Go.Proofs.YtjgmfgnfdaeelaaGreatDoor.Sp
open Go.RowKit
open Go.Proofs.YtjgmfgnfdaeelaaGreatDoor.Tk (S S_of S_list S_size S_toList S_app ret_int eq8 ne8 at_data len_data)
open Go.Proofs.YtjgmfgnfdaeelaaGreatDoor.Cm (calls_at)
set_option linter.unusedVariables false

theorem one_S9 (s : ByteArray) (k : Nat) (h : k < s.size) : s.extract k (k + 1) = S [s[k]] := by
  rw [← ext_one' s k h, S_of]
theorem esc_cons (c : UInt8) (r : List UInt8) : esc (c :: r) = (if marked c = true then [92, c] else [c]) ++ esc r := by
  rw [esc]
  split <;> rfl
theorem esc_le : ∀ l : List UInt8, (esc l).length ≤ 2 * l.length
  | [] => Nat.le_refl _
  | c :: r => by
    have := esc_le r
    rw [esc_cons, List.length_append, List.length_cons]
    split <;> simp <;> omega
theorem marked_no {c : UInt8} (h1 : c ≠ 92) (h2 : c ≠ 42) (h3 : c ≠ 91) (h4 : c ≠ 93) (h5 : c ≠ 35) (h6 : c ≠ 62) (h7 : c ≠ 45) (h8 : c ≠ 96) : marked c = false := by
  unfold marked
  simp [h1, h2, h3, h4, h5, h6, h7, h8]

end Go.Proofs.YtjgmfgnfdaeelaaGreatDoor.Sp
