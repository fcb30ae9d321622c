/-
  Several texts in one:
  CONTRACTS of bytes.IndexByte, utf.Check, utf.Class and of the statements' own 'awake'.
  CONTRACT of the document's Check (emendationref01).
  CONTRACTS of the document's one, all (emendationref07): spans in normal form, but for the ends.
-/
import Derived.Test.YtldllbmbcnipoaaDoorPkNE
import Derived.Lib.BytesEntry
import Derived.Lib.SlBytesRow
import Derived.Lib.IndexLaws
import Derived.Lib.Walk
import Derived.Lib.SlBytesConst
import Derived.Laws.IdiomStrings
import Derived.Deep.RegionHeld3
namespace Go.Proofs.YtldllbmbcnipoaaDoor.Utf
open Go.RowKit
set_option linter.unusedVariables false

def nums (t : ByteArray) : List Int := t.data.toList.map fun x => (x.toNat : Int)
theorem nums_length (t : ByteArray) : (nums t).length = t.size := by simp [nums]
theorem nums_getD (t : ByteArray) (i : Nat) (h : i < t.size) : (nums t).getD i 0 = (t[i].toNat : Int) := by
  have h' : i < t.data.toList.length := by simpa using h
  unfold nums
  rw [List.getD_eq_getElem?_getD, List.getElem?_map, List.getElem?_eq_getElem h']
  rfl
theorem bytesOf_nums (t : ByteArray) : Lib.bytesOf (nums t) = t.data.toList := by
  unfold Lib.bytesOf nums
  rw [List.map_map]
  conv => rhs; rw [← List.map_id t.data.toList]
  apply List.map_congr_left
  intro x _
  simp
theorem index_yes (t : ByteArray) (h : zeroB t = true) : 0 ≤ Lib.indexByte t.data.toList 0 := by
  have h1 := Lib.indexByte_ge t.data.toList 0
  by_cases e : Lib.indexByte t.data.toList 0 = -1
  · have h2 : (0 : UInt8) ∈ t.data.toList := by simpa [zeroB] using h
    obtain ⟨i, hi, he⟩ := List.getElem_of_mem h2
    exact absurd (by rw [List.getElem?_eq_getElem hi, he]) (Lib.indexByte_none e i)
  · omega
theorem index_no (t : ByteArray) (h : zeroB t = false) : Lib.indexByte t.data.toList 0 = -1 := by
  have h1 := Lib.indexByte_ge t.data.toList 0
  by_cases e : Lib.indexByte t.data.toList 0 = -1
  · exact e
  · exfalso
    have h2 : ¬ (0 : UInt8) ∈ t.data.toList := by simpa [zeroB] using h
    have h3 := (Lib.indexByte_some (l := t.data.toList) (c := 0) (o := (Lib.indexByte t.data.toList 0).toNat) (by omega)).1
    exact h2 (List.mem_of_getElem? h3)

/-- What '[]byte(s)' has laid. -/
theorem bytes_row (w : World) (s : ByteArray) (cap : Nat) (e : TypeId) (fr : Nat × Nat) : Lib.Bytes (w.alloc (.cells (bytesRow s cap) e fr)) w.heap.size 0 s := by
  intro i hi
  rw [Nat.zero_add, World.cell?_alloc_mark, bytesRow_at s cap i hi]
  rfl
set_option maxHeartbeats 400000 in
theorem class_a (w : World) : Calls Tryd.prog 68 #[.int .i64 97] w fun e w' => e = .returned (.int .i64 1) ∧ w = w' := by
  go_enter Tryd.func68, Tryd.ntmps68
  go_wp2
  go_ret
  exact ⟨rfl, rfl⟩

end Go.Proofs.YtldllbmbcnipoaaDoor.Utf

namespace Go.Proofs.YtldllbmbcnipoaaDoor.Utf
open Go.RowKit
set_option linter.unusedVariables false

theorem zero_at (t : ByteArray) (k : Nat) (h : k < t.size) (e : t[k].toNat = 0) : zeroB t = true := by
  unfold zeroB
  apply decide_eq_true
  have h' : k < t.data.toList.length := by simpa using h
  have e1 : t.data.toList[k] = t[k] := rfl
  have e2 : t.data.toList[k] = 0 := by rw [e1]; exact UInt8.toNat_inj.1 e
  exact e2 ▸ List.getElem_mem h'
theorem no_zero (t : ByteArray) (h : ∀ k (hk : k < t.size), t[k].toNat ≠ 0) : zeroB t = false := by
  unfold zeroB
  apply decide_eq_false
  intro hm
  obtain ⟨i, hi, he⟩ := List.getElem_of_mem hm
  have hi' : i < t.size := by simpa using hi
  refine h i hi' ?_
  have e1 : t.data.toList[i] = t[i] := rfl
  rw [← e1, he]; rfl
/-- None of the first k bytes is 0. -/
def Clean0 (t : ByteArray) (k : Nat) : Prop := ∀ j (hj : j < t.size), j < k → t[j].toNat ≠ 0

end Go.Proofs.YtldllbmbcnipoaaDoor.Utf

namespace Go.Proofs.YtldllbmbcnipoaaDoor.Sp
open Go.RowKit
open Go.Proofs.YtldllbmbcnipoaaDoor.Tk (S S_of S_list S_size S_toList S_app ret_int eq8 ne8 at_data len_data)
open Go.Proofs.YtldllbmbcnipoaaDoor.Cm (calls_at Keep alloc_new alloc_at cell_at lt_of_at)
open Go.Proofs.YtldllbmbcnipoaaDoor.Utf (chk)
set_option linter.unusedVariables false

def ckB (s : List UInt8) : Bool := decide (chk (S s) = 0)
mutual
/-- Can a span be, in an Emph (e), in a Link (k)? -/
def okOne (e k : Bool) : Sp → Bool
  | .mk q s l => ckB s && (if q = 1 then (l.isEmpty && ttB s) else if q = 2 then (l.isEmpty && (!s.isEmpty && (!hsB 10 s && !hsB 13 s)))
      else if q = 3 then (s.isEmpty && (!l.isEmpty && (!e && okAll true k 0 l))) else if q = 4 then (dsB s && (!l.isEmpty && (!k && okAll e true 0 l))) else false)
/-- Can spans be, behind one of kind p? -/
def okAll (e k : Bool) (p : Int) : List Sp → Bool
  | [] => true
  | x :: r => okOne e k x && !(decide (x.kind = p) && decide (x.kind ≤ 2)) && okAll e k x.kind r
end
theorem okAll_cons (e k : Bool) (p : Int) (x : Sp) (r : List Sp) : okAll e k p (x :: r) = (okOne e k x && !(decide (x.kind = p) && decide (x.kind ≤ 2)) && okAll e k x.kind r) := by rw [okAll]
theorem okOne_eq (e k : Bool) (x : Sp) : okOne e k x = (ckB x.s && (if x.kind = 1 then (x.kids.isEmpty && ttB x.s) else if x.kind = 2 then (x.kids.isEmpty && (!x.s.isEmpty && (!hsB 10 x.s && !hsB 13 x.s)))
      else if x.kind = 3 then (x.s.isEmpty && (!x.kids.isEmpty && (!e && okAll true k 0 x.kids))) else if x.kind = 4 then (dsB x.s && (!x.kids.isEmpty && (!k && okAll e true 0 x.kids))) else false)) := by
  obtain ⟨q, s, l⟩ := x
  rw [okOne]
  rfl
theorem okOne_kind {e k : Bool} {x : Sp} (h : okOne e k x = true) : 1 ≤ x.kind ∧ x.kind ≤ 4 := by
  rw [okOne_eq, Bool.and_eq_true] at h
  have h2 := h.2
  split at h2
  · omega
  · split at h2
    · omega
    · split at h2
      · omega
      · split at h2
        · omega
        · simp at h2
theorem isEmpty_len {α : Type} (l : List α) : ((l.length : Int) == 0) = l.isEmpty := by
  cases l with
  | nil => rfl
  | cons a r =>
    rw [List.isEmpty_cons, beq_eq_false_iff_ne]
    simp
    omega
theorem gt_len {α : Type} (l : List α) : decide ((l.length : Int) > 0) = !l.isEmpty := by
  cases l with
  | nil => rfl
  | cons a r =>
    rw [List.isEmpty_cons]
    exact decide_eq_true (by simp)

def OkAns (w : World) (b : Bool) (e : Ending) (w' : World) : Prop := e = .returned (.bool b) ∧ Below w.heap.size w w'

end Go.Proofs.YtldllbmbcnipoaaDoor.Sp
