/-
  CONTRACTS of the document's Count and Deep (emendationref10).
-/
import Derived.Test.YtpakjdgddomdjaaDoorBtTree
import Derived.Test.YtpakjdgddomdjaaDoorSpFew
namespace Go.Proofs.YtpakjdgddomdjaaDoor.Bt
open Go.RowKit
open Go.Proofs.YtpakjdgddomdjaaDoor.Tk (S S_of S_list S_size ret_int)
open Go.Proofs.YtpakjdgddomdjaaDoor.Cm (calls_at)
open Go.Proofs.YtpakjdgddomdjaaDoor.Bk (Bk)
set_option linter.unusedVariables false

mutual
/-- How much there is: for inductions alone. -/
def szOne : Bk → Nat
  | .mk _ _ _ _ _ l => 1 + szAll l
def szAll : List Bk → Nat
  | [] => 0
  | x :: r => szOne x + szAll r
end
theorem szOne_eq (x : Bk) : szOne x = 1 + szAll x.kids := by obtain ⟨k, lv, i, ls, ss, l⟩ := x; rw [szOne]; rfl
theorem szAll_cons (x : Bk) (r : List Bk) : szAll (x :: r) = szOne x + szAll r := by rw [szAll]
theorem szAll_mem : ∀ {l : List Bk} {x : Bk}, x ∈ l → szOne x ≤ szAll l
  | [], x, h => by cases h
  | y :: r, x, h => by
    rw [szAll_cons]
    rcases List.mem_cons.1 h with rfl | h
    · omega
    · have := szAll_mem h; omega
theorem szAll_kids {l : List Bk} {x : Bk} (h : x ∈ l) : szAll x.kids < szAll l := by
  have h1 := szAll_mem h
  rw [szOne_eq] at h1
  omega
theorem szAll_app : ∀ l m : List Bk, szAll (l ++ m) = szAll l + szAll m
  | [], m => by rw [List.nil_append, szAll]; omega
  | x :: r, m => by rw [List.cons_append, szAll_cons, szAll_cons, szAll_app r m]; omega
theorem szAll_len : ∀ l : List Bk, l.length ≤ szAll l
  | [] => Nat.zero_le _
  | x :: r => by
    have := szAll_len r
    rw [szAll_cons, szOne_eq, List.length_cons]
    omega
theorem drop_cons (l : List Bk) (k : Nat) (h : k < l.length) : l.drop k = l[k] :: l.drop (k + 1) := List.drop_eq_getElem_cons h

/-! All blocks. -/
mutual
/-- As the machine counts. -/
def cntAll (n : Int) : List Bk → Int
  | [] => n
  | x :: r => cntAll (cntOne n x) r
def cntOne (n : Int) : Bk → Int
  | .mk _ _ _ _ _ l => IntKind.i64.wrap (n + cntAll (l.length : Int) l)
end
def cnt (l : List Bk) : Int := cntAll (l.length : Int) l
theorem cntAll_cons (n : Int) (x : Bk) (r : List Bk) : cntAll n (x :: r) = cntAll (IntKind.i64.wrap (n + cnt x.kids)) r := by
  obtain ⟨k, lv, i, ls, ss, l⟩ := x
  rw [cntAll, cntOne]
  rfl

end Go.Proofs.YtpakjdgddomdjaaDoor.Bt
