/-
  CONTRACTS of bytes.IndexByte, utf.Check, utf.Class and of the statements' own 'awake'.
-/
import Derived.Test.YtpakjdgddomdjaaDoorUtfNext
import Derived.Lib.BytesEntry
import Derived.Lib.SlBytesRow
import Derived.Lib.IndexLaws
import Derived.Lib.Walk
import Derived.Lib.SlBytesConst
import Derived.Laws.IdiomStrings
namespace Go.Proofs.YtpakjdgddomdjaaDoor.Utf
open Go.RowKit
set_option linter.unusedVariables false

def nums (t : ByteArray) : List Int := t.data.toList.map fun x => (x.toNat : Int)
theorem nums_length (t : ByteArray) : (nums t).length = t.size := by simp [nums]
theorem nums_getD (t : ByteArray) (i : Nat) (h : i < t.size) : (nums t).getD i 0 = (t[i].toNat : Int) := by
  have h' : i < t.data.toList.length := by simpa using h
  unfold nums
  rw [List.getD_eq_getElem?_getD, List.getElem?_map, List.getElem?_eq_getElem h']
  rfl
theorem bytesOf_nums (t : ByteArray) : Lib.bytesOf (nums t) = t.data.toList := by
  unfold Lib.bytesOf nums
  rw [List.map_map]
  conv => rhs; rw [← List.map_id t.data.toList]
  apply List.map_congr_left
  intro x _
  simp
theorem index_yes (t : ByteArray) (h : zeroB t = true) : 0 ≤ Lib.indexByte t.data.toList 0 := by
  have h1 := Lib.indexByte_ge t.data.toList 0
  by_cases e : Lib.indexByte t.data.toList 0 = -1
  · have h2 : (0 : UInt8) ∈ t.data.toList := by simpa [zeroB] using h
    obtain ⟨i, hi, he⟩ := List.getElem_of_mem h2
    exact absurd (by rw [List.getElem?_eq_getElem hi, he]) (Lib.indexByte_none e i)
  · omega
theorem index_no (t : ByteArray) (h : zeroB t = false) : Lib.indexByte t.data.toList 0 = -1 := by
  have h1 := Lib.indexByte_ge t.data.toList 0
  by_cases e : Lib.indexByte t.data.toList 0 = -1
  · exact e
  · exfalso
    have h2 : ¬ (0 : UInt8) ∈ t.data.toList := by simpa [zeroB] using h
    have h3 := (Lib.indexByte_some (l := t.data.toList) (c := 0) (o := (Lib.indexByte t.data.toList 0).toNat) (by omega)).1
    exact h2 (List.mem_of_getElem? h3)

/-- What '[]byte(s)' has laid. -/
theorem bytes_row (w : World) (s : ByteArray) (cap : Nat) (e : TypeId) (fr : Nat × Nat) : Lib.Bytes (w.alloc (.cells (bytesRow s cap) e fr)) w.heap.size 0 s := by
  intro i hi
  rw [Nat.zero_add, World.cell?_alloc_mark, bytesRow_at s cap i hi]
  rfl
end Go.Proofs.YtpakjdgddomdjaaDoor.Utf
