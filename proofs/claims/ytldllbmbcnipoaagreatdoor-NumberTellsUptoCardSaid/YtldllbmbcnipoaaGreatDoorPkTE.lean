/-
  Several texts in one:
  CONTRACTS of utf.lead, utf.fits, utf.Next and of the document's Next: each answers the plain function.
  CONTRACTS of the document's Next (emendationref01): it answers the plain function.
  CONTRACTS of bytes.IndexByte, utf.Check, utf.Class and of the statements' own 'awake'.
  CONTRACT of the document's Check (emendationref01).
  CONTRACTS of the document's one, all (emendationref07): spans in normal form, but for the ends.
-/
import Derived.Test.YtldllbmbcnipoaaGreatDoorProg
import Derived.Test.YtldllbmbcnipoaaGreatDoorPkTD
import Derived.WalkKit
import Derived.WalkSpells
import Derived.WalkLawsBesides
import Derived.Lib.Hide
import Derived.Lib.BytesEntry
import Derived.Lib.SlBytesRow
import Derived.Lib.IndexLaws
import Derived.Lib.Walk
import Derived.Lib.SlBytesConst
import Derived.Laws.IdiomStrings
import Derived.Deep.RegionHeld3
namespace Go.Proofs.YtldllbmbcnipoaaGreatDoor.Utf
open Go.RowKit
set_option linter.unusedVariables false
theorem ret_int {k : IntKind} {a b : Int} (h : a = b) : Ending.returned (.int k a) = .returned (.int k b) := by rw [h]
theorem ret_bool {a b : Bool} (h : a = b) : Ending.returned (.bool a) = .returned (.bool b) := by rw [h]
theorem ret_two {j k : IntKind} {a b c d : Int} (h : a = b) (g : c = d) : Ending.returned (.tuple #[.int j a, .int k c]) = .returned (.tuple #[.int j b, .int k d]) := by rw [h, g]

theorem fits_a (c n : Int) (h : (n == 3) = true) (h1 : 2048 ≤ c) : (decide (c < 55296) || decide (57343 < c)) = fitsI c n := by
  obtain rfl : n = 3 := by simpa using h
  unfold fitsI
  rw [if_pos rfl, decide_eq_true h1, Bool.true_and]
theorem fits_b (c n : Int) (h : (n == 3) = true) (h1 : 2048 ≤ c) (h2 : c < 55296) : true = fitsI c n := by
  rw [← fits_a c n h h1, decide_eq_true h2, Bool.true_or]
theorem fits_c (c n : Int) (h : (n == 3) = true) (h1 : c < 2048) : false = fitsI c n := by
  obtain rfl : n = 3 := by simpa using h
  unfold fitsI
  rw [if_pos rfl, decide_eq_false (by omega), Bool.false_and]
theorem fits_d (c n : Int) (h : (n == 4) = true) (h1 : 65536 ≤ c) : decide (c ≤ 1114111) = fitsI c n := by
  obtain rfl : n = 4 := by simpa using h
  unfold fitsI
  rw [if_neg (by decide), if_pos rfl, decide_eq_true h1, Bool.true_and]
theorem fits_e (c n : Int) (h : (n == 4) = true) (h1 : c < 65536) : false = fitsI c n := by
  obtain rfl : n = 4 := by simpa using h
  unfold fitsI
  rw [if_neg (by decide), if_pos rfl, decide_eq_false (by omega), Bool.false_and]
theorem fits_f (c n : Int) (h : (n == 3) = false) (h1 : (n == 4) = false) : true = fitsI c n := by
  unfold fitsI
  rw [if_neg (by simpa using h), if_neg (by simpa using h1)]
theorem val_int {k : IntKind} {a b : Int} (h : a = b) : Value.int k a = .int k b := by rw [h]
theorem acc_num (a x y : Nat) (e : y = x) (h1 : 128 ≤ x) (h2 : x ≤ 191) : (a : Int) * 64 + (x : Int) % 64 = ((a * 64 + (y - 128) : Nat) : Int) := by omega
theorem pair_none {p : Nat × Nat} (h : p = (0, 0)) : (0 : Int) = ((p.1 : Nat) : Int) ∧ (0 : Int) = ((p.2 : Nat) : Int) := by rw [h]; exact ⟨rfl, rfl⟩
theorem pair_yes {p : Nat × Nat} {a b c d : Nat} (h : p = (a, b)) (h1 : c = a) (h2 : d = b) : (c : Int) = ((p.1 : Nat) : Int) ∧ (d : Int) = ((p.2 : Nat) : Int) := by rw [h, h1, h2]; exact ⟨rfl, rfl⟩
theorem ret_pair {p : Nat × Nat} {a b : Int} (h : a = p.1 ∧ b = p.2) : Ending.returned (.tuple #[.int .i64 a, .int .i64 b]) = .returned (.tuple #[.int .i64 p.1, .int .i64 p.2]) := by rw [h.1, h.2]
theorem nxtI_out (s : ByteArray) (a : Int) (h : a < 0 ∨ s.size ≤ a) : nxtI s a = (0, 0) := by
  unfold nxtI
  split
  · rfl
  · unfold nxt; exact nx_none _ _ (Or.inl (by omega))
theorem nxtI_in (s : ByteArray) (k : Nat) : nxtI s k = nxt s k := by
  unfold nxtI
  rw [if_neg (by omega), Int.toNat_natCast]
end Go.Proofs.YtldllbmbcnipoaaGreatDoor.Utf

namespace Go.Proofs.YtldllbmbcnipoaaGreatDoor.Utf
open Go.RowKit
set_option linter.unusedVariables false

theorem acc_num' (a x y : Nat) (e : y = x) (h1 : 128 ≤ x) (h2 : x ≤ 191) : (a : Int) * 64 + (x : Int) - 128 = ((a * 64 + (y - 128) : Nat) : Int) := by omega
theorem fit2 (a : Int) : fitsI a ((2 : Nat) : Int) = true := by
  unfold fitsI; rw [if_neg (by decide), if_neg (by decide)]
theorem fit3_iff (a : Int) : fitsI a ((3 : Nat) : Int) = (decide (2048 ≤ a) && (decide (a < 55296) || decide (57343 < a))) := by
  unfold fitsI; rw [if_pos (by decide)]
theorem fit4_iff (a : Int) : fitsI a ((4 : Nat) : Int) = (decide (65536 ≤ a) && decide (a ≤ 1114111)) := by
  unfold fitsI; rw [if_neg (by decide), if_pos (by decide)]
theorem fit3 (a : Int) (h : fitsI a ((3 : Nat) : Int) = true) : (2048 ≤ a ∧ a < 55296) ∨ 57343 < a := by
  rw [fit3_iff, Bool.and_eq_true, Bool.or_eq_true, decide_eq_true_eq, decide_eq_true_eq, decide_eq_true_eq] at h; omega
theorem unfit3 (a : Int) (h : fitsI a ((3 : Nat) : Int) = false) : a < 2048 ∨ (55296 ≤ a ∧ a ≤ 57343) := by
  rw [fit3_iff, Bool.and_eq_false_iff, Bool.or_eq_false_iff, decide_eq_false_iff_not, decide_eq_false_iff_not, decide_eq_false_iff_not] at h; omega
theorem fit4 (a : Int) (h : fitsI a ((4 : Nat) : Int) = true) : 65536 ≤ a ∧ a ≤ 1114111 := by
  rw [fit4_iff, Bool.and_eq_true, decide_eq_true_eq, decide_eq_true_eq] at h; omega
theorem unfit4 (a : Int) (h : fitsI a ((4 : Nat) : Int) = false) : a < 65536 ∨ 1114111 < a := by
  rw [fit4_iff, Bool.and_eq_false_iff, decide_eq_false_iff_not, decide_eq_false_iff_not] at h; omega
end Go.Proofs.YtldllbmbcnipoaaGreatDoor.Utf

namespace Go.Proofs.YtldllbmbcnipoaaGreatDoor.Utf
open Go.RowKit
set_option linter.unusedVariables false

def nums (t : ByteArray) : List Int := t.data.toList.map fun x => (x.toNat : Int)
theorem nums_length (t : ByteArray) : (nums t).length = t.size := by simp [nums]
theorem nums_getD (t : ByteArray) (i : Nat) (h : i < t.size) : (nums t).getD i 0 = (t[i].toNat : Int) := by
  have h' : i < t.data.toList.length := by simpa using h
  unfold nums
  rw [List.getD_eq_getElem?_getD, List.getElem?_map, List.getElem?_eq_getElem h']
  rfl
theorem bytesOf_nums (t : ByteArray) : Lib.bytesOf (nums t) = t.data.toList := by
  unfold Lib.bytesOf nums
  rw [List.map_map]
  conv => rhs; rw [← List.map_id t.data.toList]
  apply List.map_congr_left
  intro x _
  simp
theorem index_yes (t : ByteArray) (h : zeroB t = true) : 0 ≤ Lib.indexByte t.data.toList 0 := by
  have h1 := Lib.indexByte_ge t.data.toList 0
  by_cases e : Lib.indexByte t.data.toList 0 = -1
  · have h2 : (0 : UInt8) ∈ t.data.toList := by simpa [zeroB] using h
    obtain ⟨i, hi, he⟩ := List.getElem_of_mem h2
    exact absurd (by rw [List.getElem?_eq_getElem hi, he]) (Lib.indexByte_none e i)
  · omega
theorem index_no (t : ByteArray) (h : zeroB t = false) : Lib.indexByte t.data.toList 0 = -1 := by
  have h1 := Lib.indexByte_ge t.data.toList 0
  by_cases e : Lib.indexByte t.data.toList 0 = -1
  · exact e
  · exfalso
    have h2 : ¬ (0 : UInt8) ∈ t.data.toList := by simpa [zeroB] using h
    have h3 := (Lib.indexByte_some (l := t.data.toList) (c := 0) (o := (Lib.indexByte t.data.toList 0).toNat) (by omega)).1
    exact h2 (List.mem_of_getElem? h3)

/-- What '[]byte(s)' has laid. -/
theorem bytes_row (w : World) (s : ByteArray) (cap : Nat) (e : TypeId) (fr : Nat × Nat) : Lib.Bytes (w.alloc (.cells (bytesRow s cap) e fr)) w.heap.size 0 s := by
  intro i hi
  rw [Nat.zero_add, World.cell?_alloc_mark, bytesRow_at s cap i hi]
  rfl
set_option maxHeartbeats 400000 in
theorem class_a (w : World) : Calls Tryz.prog 81 #[.int .i64 97] w fun e w' => e = .returned (.int .i64 1) ∧ w = w' := by
  go_enter Tryz.func81, Tryz.ntmps81
  go_wp2
  go_ret
  exact ⟨rfl, rfl⟩

end Go.Proofs.YtldllbmbcnipoaaGreatDoor.Utf

namespace Go.Proofs.YtldllbmbcnipoaaGreatDoor.Utf
open Go.RowKit
set_option linter.unusedVariables false

theorem zero_at (t : ByteArray) (k : Nat) (h : k < t.size) (e : t[k].toNat = 0) : zeroB t = true := by
  unfold zeroB
  apply decide_eq_true
  have h' : k < t.data.toList.length := by simpa using h
  have e1 : t.data.toList[k] = t[k] := rfl
  have e2 : t.data.toList[k] = 0 := by rw [e1]; exact UInt8.toNat_inj.1 e
  exact e2 ▸ List.getElem_mem h'
theorem no_zero (t : ByteArray) (h : ∀ k (hk : k < t.size), t[k].toNat ≠ 0) : zeroB t = false := by
  unfold zeroB
  apply decide_eq_false
  intro hm
  obtain ⟨i, hi, he⟩ := List.getElem_of_mem hm
  have hi' : i < t.size := by simpa using hi
  refine h i hi' ?_
  have e1 : t.data.toList[i] = t[i] := rfl
  rw [← e1, he]; rfl
/-- None of the first k bytes is 0. -/
def Clean0 (t : ByteArray) (k : Nat) : Prop := ∀ j (hj : j < t.size), j < k → t[j].toNat ≠ 0

end Go.Proofs.YtldllbmbcnipoaaGreatDoor.Utf

namespace Go.Proofs.YtldllbmbcnipoaaGreatDoor.Sp
open Go.RowKit
open Go.Proofs.YtldllbmbcnipoaaGreatDoor.Tk (S S_of S_list S_size S_toList S_app ret_int eq8 ne8 at_data len_data)
open Go.Proofs.YtldllbmbcnipoaaGreatDoor.Cm (calls_at Keep alloc_new alloc_at cell_at lt_of_at)
open Go.Proofs.YtldllbmbcnipoaaGreatDoor.Utf (chk)
set_option linter.unusedVariables false

def ckB (s : List UInt8) : Bool := decide (chk (S s) = 0)
mutual
/-- Can a span be, in an Emph (e), in a Link (k)? -/
def okOne (e k : Bool) : Sp → Bool
  | .mk q s l => ckB s && (if q = 1 then (l.isEmpty && ttB s) else if q = 2 then (l.isEmpty && (!s.isEmpty && (!hsB 10 s && !hsB 13 s)))
      else if q = 3 then (s.isEmpty && (!l.isEmpty && (!e && okAll true k 0 l))) else if q = 4 then (dsB s && (!l.isEmpty && (!k && okAll e true 0 l))) else false)
/-- Can spans be, behind one of kind p? -/
def okAll (e k : Bool) (p : Int) : List Sp → Bool
  | [] => true
  | x :: r => okOne e k x && !(decide (x.kind = p) && decide (x.kind ≤ 2)) && okAll e k x.kind r
end
theorem okAll_cons (e k : Bool) (p : Int) (x : Sp) (r : List Sp) : okAll e k p (x :: r) = (okOne e k x && !(decide (x.kind = p) && decide (x.kind ≤ 2)) && okAll e k x.kind r) := by rw [okAll]
theorem okOne_eq (e k : Bool) (x : Sp) : okOne e k x = (ckB x.s && (if x.kind = 1 then (x.kids.isEmpty && ttB x.s) else if x.kind = 2 then (x.kids.isEmpty && (!x.s.isEmpty && (!hsB 10 x.s && !hsB 13 x.s)))
      else if x.kind = 3 then (x.s.isEmpty && (!x.kids.isEmpty && (!e && okAll true k 0 x.kids))) else if x.kind = 4 then (dsB x.s && (!x.kids.isEmpty && (!k && okAll e true 0 x.kids))) else false)) := by
  obtain ⟨q, s, l⟩ := x
  rw [okOne]
  rfl
theorem okOne_kind {e k : Bool} {x : Sp} (h : okOne e k x = true) : 1 ≤ x.kind ∧ x.kind ≤ 4 := by
  rw [okOne_eq, Bool.and_eq_true] at h
  have h2 := h.2
  split at h2
  · omega
  · split at h2
    · omega
    · split at h2
      · omega
      · split at h2
        · omega
        · simp at h2
theorem isEmpty_len {α : Type} (l : List α) : ((l.length : Int) == 0) = l.isEmpty := by
  cases l with
  | nil => rfl
  | cons a r =>
    rw [List.isEmpty_cons, beq_eq_false_iff_ne]
    simp
    omega
theorem gt_len {α : Type} (l : List α) : decide ((l.length : Int) > 0) = !l.isEmpty := by
  cases l with
  | nil => rfl
  | cons a r =>
    rw [List.isEmpty_cons]
    exact decide_eq_true (by simp)

def OkAns (w : World) (b : Bool) (e : Ending) (w' : World) : Prop := e = .returned (.bool b) ∧ Below w.heap.size w w'

end Go.Proofs.YtldllbmbcnipoaaGreatDoor.Sp
