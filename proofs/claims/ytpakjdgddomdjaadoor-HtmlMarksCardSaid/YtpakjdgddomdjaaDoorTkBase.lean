/-
  COMMON WORDS of the walks of layer 3: strings as lists of bytes, slices of strings that read as lists, rows of the call's own. And the document's Same (emendationref02).
-/
import Derived.Test.YtpakjdgddomdjaaDoorProg
import Derived.Test.YtpakjdgddomdjaaDoorTkPlain
import Derived.Lib.Strings
import Derived.Lib.Hide
import Derived.WalkKit
import Derived.Laws.IdiomStrings
import Derived.Deep.QuietTactic
import Derived.Lib.MinMax
import Derived.Sort.EncStr
import Derived.Sort.OwnSorted
import Derived.WalkMore
import Derived.BigQuiet
import Derived.WalkSmall
import Derived.Laws.AppendOwnNone
namespace Go.Proofs.YtpakjdgddomdjaaDoor.Tk
open Go.RowKit
set_option linter.unusedVariables false

/-- A list of bytes as a string. -/
def S (l : List UInt8) : ByteArray := ⟨l.toArray⟩
theorem S_size (l : List UInt8) : (S l).size = l.length := by simp [S, ByteArray.size]
theorem S_app (l m : List UInt8) : S l ++ S m = S (l ++ m) := by
  apply ByteArray.ext
  rw [ByteArray.data_append]
  simp [S]
theorem S_list (l : List UInt8) : (S l).data.toList = l := by simp [S]
theorem S_toList (l : List UInt8) : (S l).toList = l := by rw [Lib.toList_data, S_list]
theorem S_of (s : ByteArray) : S s.data.toList = s := by
  apply ByteArray.ext
  simp [S]
theorem drop_cons (l : List UInt8) (k : Nat) (h : k < l.length) : l.drop k = l[k] :: l.drop (k + 1) := List.drop_eq_getElem_cons h

theorem ret_int {x y : Int} (h : x = y) : Ending.returned (.int .i64 x) = Ending.returned (.int .i64 y) := by rw [h]
theorem eq8 {a b : UInt8} (h : a = b) : ((a.toNat : Int) == (b.toNat : Int)) = true := by simp [h]
theorem ne8 {a b : UInt8} (h : a ≠ b) : ((a.toNat : Int) == (b.toNat : Int)) = false := by
  rw [beq_eq_false_iff_ne]
  intro e
  exact h (UInt8.toNat_inj.1 (by omega))
theorem len_data (s : ByteArray) : s.data.toList.length = s.size := by simp
theorem at_data (s : ByteArray) (k : Nat) (h : k < s.size) : s.data.toList.drop k = s[k] :: s.data.toList.drop (k + 1) := by
  rw [drop_cons _ k (by simpa using h)]; rfl
theorem drop_all (s : ByteArray) (k : Nat) (h : ¬ k < s.size) : s.data.toList.drop k = [] := List.drop_eq_nil_of_le (by simp; omega)

theorem infoS : (Tryd.prog.info? 9).map (fun i => (i.zero, i.size, i.bytes)) = some (some (.string ⟨#[]⟩), 1, 16) := by kernel_rfl

theorem own_push {B : Nat} {w wr w1 : World} {v v' : Value} {o : List (List UInt8)} {y : ByteArray} {ob : Obj} (hown : wr.ownsRow B 9 1 v o.length (o.map encStr)) (hb : Below B w wr) (hB : B ≤ wr.heap.size)
    (hown' : w1.ownsRow B 9 1 v' (o.length + 1) (o.map encStr ++ [.string y])) (hgrow : (wr.alloc ob).grownBy w1 v.ownBlock) :
    w1.ownsRow B 9 1 v' (o ++ [y.data.toList]).length ((o ++ [y.data.toList]).map encStr) ∧ Below B w w1 := by
  refine ⟨?_, (hb.alloc hB ob).grown hgrow (by simp; omega) (fun j hj => (hown.lt j hj).1)⟩
  rw [List.length_append, List.map_append]
  have : List.map encStr [y.data.toList] = [.string y] := by
    show [Value.string (S y.data.toList)] = _
    rw [S_of]
  rw [this]
  exact hown'

/-- What stands between two places of a string. -/
def cur (s : ByteArray) (f k : Nat) : List UInt8 := (s.extract f k).data.toList
theorem cur_eq (s : ByteArray) (f k : Nat) : cur s f k = (s.data.toList.drop f).take (k - f) := by
  unfold cur
  rw [ByteArray.data_extract]
  simp only [Array.toList_extract, List.extract_eq_take_drop]
theorem cur_same (s : ByteArray) (k : Nat) : cur s k k = [] := by rw [cur_eq]; simp
theorem cur_len (s : ByteArray) (f k : Nat) (hk : k ≤ s.size) : (cur s f k).length = k - f := by
  rw [cur_eq, List.length_take, List.length_drop, len_data]; omega
theorem cur_snoc (s : ByteArray) (f k : Nat) (hf : f ≤ k) (hk : k < s.size) : cur s f (k + 1) = cur s f k ++ [s[k]] := by
  rw [cur_eq, cur_eq, show k + 1 - f = (k - f) + 1 by omega, List.take_add_one, List.getElem?_drop, show f + (k - f) = k by omega, List.getElem?_eq_getElem (by rw [len_data]; exact hk)]
  rfl
theorem cur_last (s : ByteArray) (f k : Nat) (hf : f ≤ k) (hk : k < s.size) : (cur s f (k + 1)).getLast? = some s[k] := by rw [cur_snoc s f k hf hk]; simp
theorem cur_front (s : ByteArray) (f k : Nat) (hf : f ≤ k) (hk : k < s.size) : (cur s f (k + 1)).dropLast = cur s f k := by rw [cur_snoc s f k hf hk]; simp

theorem news1 {wr : World} {x : ByteArray} {t : TypeId} : ∀ (j : Nat) (u : Value), [Value.string x][j]? = some u → (wr.alloc (.cells #[.string x] t)).cell? (Addr.add ⟨wr.heap.size, 0, none⟩ j) = some u := by
  intro j u hj
  match j, hj with
  | 0, hj => simp at hj; subst hj; simp [Addr.add]
theorem news2 {x : ByteArray} : ∀ u ∈ [Value.string x], u.oneCell' = true := by
  intro u hu; simp at hu; subst hu; rfl

/-- A slice that reads as these strings. -/
def Rd (w : World) (v : Value) (xs : List (List UInt8)) : Prop :=
  ∃ ao cap, v = .slice ao xs.length cap ∧ xs.length ≤ cap ∧ (xs = [] ∨ ∃ b o, ao = some ⟨b, o, none⟩ ∧ b < w.heap.size ∧ ∀ j x, xs[j]? = some x → w.cell? ⟨b, o + j, none⟩ = some (.string (S x)))
theorem Rd.below {w w' : World} {v : Value} {xs : List (List UInt8)} (h : Rd w v xs) (hb : Below w.heap.size w w') : Rd w' v xs := by
  obtain ⟨ao, cap, hv, hc, hx⟩ := h
  refine ⟨ao, cap, hv, hc, ?_⟩
  rcases hx with hx | ⟨b, o, hao, hlt, hcell⟩
  · exact Or.inl hx
  · exact Or.inr ⟨b, o, hao, Nat.lt_of_lt_of_le hlt hb.size, fun j x hj => (hb.cell (by exact hlt)).trans (hcell j x hj)⟩
theorem Rd.of_own {w : World} {B : Nat} {e : TypeId} {v : Value} {xs : List (List UInt8)} (h : w.ownsRow B e 1 v xs.length (xs.map encStr)) : Rd w v xs := by
  rcases h.2 with ⟨hv, hn⟩ | ⟨g, cap, cur, hv, hB, hg, hn, hm, hsz, ht⟩
  · exact ⟨none, 0, by rw [hv, hn], by omega, Or.inl (List.eq_nil_of_length_eq_zero hn)⟩
  · refine ⟨_, cap, hv, hn, Or.inr ⟨g, 0, rfl, (Array.getElem?_eq_some_iff.1 hg).1, fun j x hj => ?_⟩⟩
    have hjl := (List.getElem?_eq_some_iff.1 hj).1
    subst hv
    rw [Nat.zero_add, h.cellAt j (by omega), List.getElem?_map, hj]
    rfl
theorem Rd.len {w : World} {v : Value} {xs : List (List UInt8)} (h : Rd w v xs) : ∃ ao cap, v = .slice ao xs.length cap := by
  obtain ⟨ao, cap, hv, _⟩ := h; exact ⟨ao, cap, hv⟩

theorem get_lt {xs : List (List UInt8)} {k : Nat} (h : k < xs.length) : xs[k]? = some xs[k] := List.getElem?_eq_getElem h
theorem take_next {xs ys : List (List UInt8)} {k : Nat} (h1 : k < xs.length) (h2 : k < ys.length) (h : xs.take k = ys.take k) (e : xs[k] = ys[k]) : xs.take (k + 1) = ys.take (k + 1) := by
  rw [List.take_add_one, List.take_add_one, get_lt h1, get_lt h2, h, e]
theorem take_off {xs ys : List (List UInt8)} {k : Nat} (h1 : k < xs.length) (h2 : k < ys.length) (e : xs[k] ≠ ys[k]) : xs ≠ ys := by
  intro h; subst h; exact e rfl

end Go.Proofs.YtpakjdgddomdjaaDoor.Tk
