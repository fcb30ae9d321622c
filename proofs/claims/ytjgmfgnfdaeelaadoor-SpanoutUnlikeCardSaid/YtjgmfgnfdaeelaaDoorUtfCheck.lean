/-
  CONTRACTS of bytes.IndexByte, utf.Check, utf.Class and of the statements' own 'awake'.
-/
import Derived.Test.YtjgmfgnfdaeelaaDoorUtfNext
import Derived.Lib.BytesEntry
import Derived.Lib.SlBytesRow
import Derived.Lib.IndexLaws
import Derived.Lib.Walk
import Derived.Lib.SlBytesConst
import Derived.Laws.IdiomStrings
namespace Go.Proofs.YtjgmfgnfdaeelaaDoor.Utf
open Go.RowKit
set_option linter.unusedVariables false

def nums (t : ByteArray) : List Int := t.data.toList.map fun x => (x.toNat : Int)
theorem nums_length (t : ByteArray) : (nums t).length = t.size := by simp [nums]
theorem nums_getD (t : ByteArray) (i : Nat) (h : i < t.size) : (nums t).getD i 0 = (t[i].toNat : Int) := by
  have h' : i < t.data.toList.length := by simpa using h
  unfold nums
  rw [List.getD_eq_getElem?_getD, List.getElem?_map, List.getElem?_eq_getElem h']
  rfl
theorem bytesOf_nums (t : ByteArray) : Lib.bytesOf (nums t) = t.data.toList := by
  unfold Lib.bytesOf nums
  rw [List.map_map]
  conv => rhs; rw [← List.map_id t.data.toList]
  apply List.map_congr_left
  intro x _
  simp
theorem index_yes (t : ByteArray) (h : zeroB t = true) : 0 ≤ Lib.indexByte t.data.toList 0 := by
  have h1 := Lib.indexByte_ge t.data.toList 0
  by_cases e : Lib.indexByte t.data.toList 0 = -1
  · have h2 : (0 : UInt8) ∈ t.data.toList := by simpa [zeroB] using h
    obtain ⟨i, hi, he⟩ := List.getElem_of_mem h2
    exact absurd (by rw [List.getElem?_eq_getElem hi, he]) (Lib.indexByte_none e i)
  · omega
theorem index_no (t : ByteArray) (h : zeroB t = false) : Lib.indexByte t.data.toList 0 = -1 := by
  have h1 := Lib.indexByte_ge t.data.toList 0
  by_cases e : Lib.indexByte t.data.toList 0 = -1
  · exact e
  · exfalso
    have h2 : ¬ (0 : UInt8) ∈ t.data.toList := by simpa [zeroB] using h
    have h3 := (Lib.indexByte_some (l := t.data.toList) (c := 0) (o := (Lib.indexByte t.data.toList 0).toNat) (by omega)).1
    exact h2 (List.mem_of_getElem? h3)

set_option maxHeartbeats 1000000 in
set_option maxRecDepth 100000 in
theorem ixb_any (t : ByteArray) (b cap : Nat) (cv : Int) (w : World) (hB : Lib.Bytes w b 0 t) :
    Calls Tryd.prog 86 #[.slice (some ⟨b, 0, none⟩) t.size cap, .int .u8 cv] w fun e w' => e = .returned (.int .i64 (Lib.indexByte t.data.toList cv.toNat.toUInt8)) ∧ w = w' := by
  have hc : ∀ i, i < t.size → w.cell? ⟨b, 0 + i, none⟩ = some (.int .u8 ((nums t).getD i 0)) := fun i hi => by rw [hB i hi, nums_getD t i hi]
  have h0 := Lib.run_indexByteSlice (P := Tryd.prog) w b 0 t.size cap (nums t) (nums_length t) hc cv
  rw [bytesOf_nums] at h0
  have H := Lib.hid h0
  clear h0
  clear hc hB
  go_enter Tryd.func86, Tryd.ntmps86
  go_wp2
  rw [run_callFunc_extern Tryd.func92 (by kernel_rfl) (by kernel_rfl) (by kernel_rfl) (e := Extern.BytealgIndexByte.indexByte) (by kernel_rfl), H.out]
  simp only [Result.andThen]
  rw [Oper.upon_value]
  go_wp2
  go_ret
  exact ⟨rfl, rfl⟩

/-- What '[]byte(s)' has laid. -/
theorem bytes_row (w : World) (s : ByteArray) (cap : Nat) (e : TypeId) (fr : Nat × Nat) : Lib.Bytes (w.alloc (.cells (bytesRow s cap) e fr)) w.heap.size 0 s := by
  intro i hi
  rw [Nat.zero_add, World.cell?_alloc_mark, bytesRow_at s cap i hi]
  rfl
set_option maxHeartbeats 400000 in
theorem class_a (w : World) : Calls Tryd.prog 45 #[.int .i64 97] w fun e w' => e = .returned (.int .i64 1) ∧ w = w' := by
  go_enter Tryd.func45, Tryd.ntmps45
  go_wp2
  go_ret
  exact ⟨rfl, rfl⟩

set_option maxHeartbeats 400000 in
theorem check_any (t : ByteArray) (b cap : Nat) (w : World) (hB : Lib.Bytes w b 0 t) (hs : t.size ≤ maxLen) :
    Calls Tryd.prog 78 #[.slice (some ⟨b, 0, none⟩) t.size cap] w fun e w' => e = .returned (.int .i64 (chk t)) ∧ w = w' := by
  have hs' := hs
  unfold maxLen at hs'
  have hconv := Lib.run_convert_whole (P := Tryd.prog) w 38 5 9 Tryd.underlying38 Tryd.underlying5 Tryd.underlying9 b 0 t hB cap
  by_cases h1 : 1048576 < (t.size : Int)
  · have Hfin := Lib.hid (show (4 : Int) = chk t by unfold chk; rw [if_pos h1])
    go_enter Tryd.func78, Tryd.ntmps78
    go_wp2_with fail
    go_ret
    exact ⟨ret_int Hfin.out, rfl⟩
  have e1 : decide (1048576 < (t.size : Int)) = false := by simpa using h1
  by_cases h2 : zeroB t = true
  · have Hfin := Lib.hid (show (3 : Int) = chk t by unfold chk; rw [if_neg h1, if_pos h2])
    have hx := index_yes t h2
    clear h2
    go_enter Tryd.func78, Tryd.ntmps78
    go_wp2_with (go_at_call 86; refine (ixb_any t b cap 0 _ hB).mono ?_; rintro e w' ⟨rfl, rfl⟩)
    go_ret
    exact ⟨ret_int Hfin.out, rfl⟩
  have h2' : zeroB t = false := by simpa using h2
  have hx := index_no t h2'
  have Hz : Hid (∀ g : Bool, goesAt t 0 = g → chk t = if g = true then 0 else 2) := Lib.hid (fun g hg => by unfold chk; rw [if_neg h1, if_neg h2, hg])
  clear h2 h2'
  go_enter Tryd.func78, Tryd.ntmps78
  go_wp2_with (go_at_call 86; refine (ixb_any t b cap 0 _ hB).mono ?_; rintro e w' ⟨rfl, rfl⟩)
  clear hx hconv
  go_loop [4] (fun i => ∃ k : Nat, k ≤ t.size ∧ i = .int .i64 k ∧ Hid (goesAt t k = goesAt t 0)) (fun i => t.size - (intOf i).toNat)
  case atStart => exact ⟨0, Nat.zero_le _, rfl, rfl⟩
  case round =>
    obtain ⟨k, hk, rfl, Hg⟩ := hrel
    by_cases hlt : k < t.size
    · have hn := nxt_le t k
      have hin := nxtI_in t k
      have hbad := fun h0 => goesAt_bad t k hlt h0
      have hstep := fun h0 => goesAt_step t k hlt h0
      generalize nxt t k = p at *
      obtain ⟨c, n⟩ := p
      have Hin := Lib.hid hin
      clear hin
      simp only at hn hbad hstep
      by_cases h0 : n = 0
      · have Hfin := Lib.hid (show (2 : Int) = chk t by rw [Hz.out false (by rw [← Hg.out]; exact hbad h0)]; rfl)
        clear hbad hstep
        subst h0
        go_wp2_with (go_at_call 87; refine (next_any t k hs _).mono ?_; rintro e w' ⟨rfl, rfl⟩; rw [Hin.out])
        go_ret
        exact ⟨ret_int Hfin.out, rfl⟩
      · have Hst := Lib.hid (hstep h0)
        clear hbad hstep
        have e0 : ((n : Int) == 0) = false := by simp [h0]
        go_wp2_with (go_at_call 87; refine (next_any t k hs _).mono ?_; rintro e w' ⟨rfl, rfl⟩; rw [Hin.out])
        go_round
        case rel => exact ⟨k + n, by omega, by go_num, Hst.out.trans Hg.out⟩
        case measure => simp [intOf]; omega
    · have Hfin := Lib.hid (show (0 : Int) = chk t by rw [Hz.out true (by rw [← Hg.out]; exact goesAt_end t k (by omega))]; rfl)
      go_wp2_with fail
      go_ret
      exact ⟨ret_int Hfin.out, rfl⟩

end Go.Proofs.YtjgmfgnfdaeelaaDoor.Utf
