/-
  CONTRACTS of the statements' own kind, and of the document's Plain and Same (emendationref07).
-/
import Derived.Test.YtjgmfgnfdaeelaaDoorSpFew
namespace Go.Proofs.YtjgmfgnfdaeelaaDoor.Sp
open Go.RowKit
open Go.Proofs.YtjgmfgnfdaeelaaDoor.Tk (S S_of S_list S_size S_toList S_app ret_int)
open Go.Proofs.YtjgmfgnfdaeelaaDoor.Cm (calls_at)
set_option linter.unusedVariables false

theorem ret_bool {x y : Bool} (h : x = y) : Ending.returned (.bool x) = Ending.returned (.bool y) := by rw [h]
mutual
/-- Is there a span of a kind, however deep? -/
def kdOne (k : Int) : Sp → Bool
  | .mk q _ l => decide (q = k) || kdAll k l
def kdAll (k : Int) : List Sp → Bool
  | [] => false
  | x :: r => kdOne k x || kdAll k r
end
theorem kdOne_eq (k : Int) (x : Sp) : kdOne k x = (decide (x.kind = k) || kdAll k x.kids) := by obtain ⟨q, s, l⟩ := x; unfold kdOne; rfl
theorem kdAll_cons (k : Int) (x : Sp) (r : List Sp) : kdAll k (x :: r) = (kdOne k x || kdAll k r) := by rw [kdAll]

mutual
/-- What spans read. -/
def plOne : Sp → List UInt8
  | .mk q s l => (if q = 1 ∨ q = 2 then s else []) ++ plAll l
def plAll : List Sp → List UInt8
  | [] => []
  | x :: r => plOne x ++ plAll r
end
theorem plOne_eq (x : Sp) : plOne x = (if x.kind = 1 ∨ x.kind = 2 then x.s else []) ++ plAll x.kids := by obtain ⟨q, s, l⟩ := x; unfold plOne; rfl
theorem plAll_cons (x : Sp) (r : List Sp) : plAll (x :: r) = plOne x ++ plAll r := by rw [plAll]
theorem plAll_app : ∀ l m : List Sp, plAll (l ++ m) = plAll l ++ plAll m
  | [], m => by rw [List.nil_append]; rfl
  | x :: r, m => by rw [List.cons_append, plAll_cons, plAll_cons, plAll_app r m, List.append_assoc]
mutual
theorem plOne_len : ∀ x : Sp, (plOne x).length ≤ totOne x
  | .mk q s l => by
    have := plAll_len l
    unfold plOne totOne
    rw [List.length_append]
    split <;> simp <;> omega
theorem plAll_len : ∀ l : List Sp, (plAll l).length ≤ totAll l
  | [] => by unfold plAll totAll; simp
  | x :: r => by
    have h1 := plOne_len x
    have h2 := plAll_len r
    rw [plAll_cons, totAll_cons, List.length_append]
    omega
end
theorem ret_str {x y : ByteArray} (h : x = y) : Ending.returned (.string x) = Ending.returned (.string y) := by rw [h]

end Go.Proofs.YtjgmfgnfdaeelaaDoor.Sp
