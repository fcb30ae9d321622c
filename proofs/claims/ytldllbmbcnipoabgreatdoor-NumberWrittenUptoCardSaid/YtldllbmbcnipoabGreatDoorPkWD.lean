/-
  Several texts in one:
  
  
  
  
  
  
  
-/
import Derived.Test.YtldllbmbcnipoabGreatDoorPkWC
import Derived.Lib.BytesEntry
import Derived.Lib.SlBytesRow
import Derived.Lib.IndexLaws
import Derived.Lib.Walk
import Derived.Lib.SlBytesConst
import Derived.Laws.IdiomStrings
import Derived.Deep.RegionHeld3
import Derived.Deep.Cut
import Derived.Deep.CutRange
import Derived.Deep.CutBlock
import Derived.Lib.Hide
import Derived.Test.YtldllbmbcnipoabGreatDoorPkWA
namespace Go.Proofs.YtldllbmbcnipoabGreatDoor.Utf
open Go.RowKit
set_option linter.unusedVariables false
end Go.Proofs.YtldllbmbcnipoabGreatDoor.Utf

namespace Go.Proofs.YtldllbmbcnipoabGreatDoor.Utf
open Go.RowKit
set_option linter.unusedVariables false
def nums (t : ByteArray) : List Int := t.data.toList.map fun x => (x.toNat : Int)
theorem nums_length (t : ByteArray) : (nums t).length = t.size := by simp [nums]
theorem nums_getD (t : ByteArray) (i : Nat) (h : i < t.size) : (nums t).getD i 0 = (t[i].toNat : Int) := by
  have h' : i < t.data.toList.length := by simpa using h
  unfold nums
  rw [List.getD_eq_getElem?_getD, List.getElem?_map, List.getElem?_eq_getElem h']
  rfl
theorem bytesOf_nums (t : ByteArray) : Lib.bytesOf (nums t) = t.data.toList := by
  unfold Lib.bytesOf nums
  rw [List.map_map]
  conv => rhs; rw [← List.map_id t.data.toList]
  apply List.map_congr_left
  intro x _
  simp
theorem index_yes (t : ByteArray) (h : zeroB t = true) : 0 ≤ Lib.indexByte t.data.toList 0 := by
  have h1 := Lib.indexByte_ge t.data.toList 0
  by_cases e : Lib.indexByte t.data.toList 0 = -1
  · have h2 : (0 : UInt8) ∈ t.data.toList := by simpa [zeroB] using h
    obtain ⟨i, hi, he⟩ := List.getElem_of_mem h2
    exact absurd (by rw [List.getElem?_eq_getElem hi, he]) (Lib.indexByte_none e i)
  · omega
theorem index_no (t : ByteArray) (h : zeroB t = false) : Lib.indexByte t.data.toList 0 = -1 := by
  have h1 := Lib.indexByte_ge t.data.toList 0
  by_cases e : Lib.indexByte t.data.toList 0 = -1
  · exact e
  · exfalso
    have h2 : ¬ (0 : UInt8) ∈ t.data.toList := by simpa [zeroB] using h
    have h3 := (Lib.indexByte_some (l := t.data.toList) (c := 0) (o := (Lib.indexByte t.data.toList 0).toNat) (by omega)).1
    exact h2 (List.mem_of_getElem? h3)
set_option maxHeartbeats 1000000 in
set_option maxRecDepth 100000 in
theorem ixb_any (t : ByteArray) (b cap : Nat) (cv : Int) (w : World) (hB : Lib.Bytes w b 0 t) :
    Calls Tryz.prog 152 #[.slice (some ⟨b, 0, none⟩) t.size cap, .int .u8 cv] w fun e w' => e = .returned (.int .i64 (Lib.indexByte t.data.toList cv.toNat.toUInt8)) ∧ w = w' := by
  have hc : ∀ i, i < t.size → w.cell? ⟨b, 0 + i, none⟩ = some (.int .u8 ((nums t).getD i 0)) := fun i hi => by rw [hB i hi, nums_getD t i hi]
  have h0 := Lib.run_indexByteSlice (P := Tryz.prog) w b 0 t.size cap (nums t) (nums_length t) hc cv
  rw [bytesOf_nums] at h0
  have H := Lib.hid h0
  clear h0
  clear hc hB
  go_enter Tryz.func152, Tryz.ntmps152
  go_wp2
  rw [run_callFunc_extern Tryz.func165 (by kernel_rfl) (by kernel_rfl) (by kernel_rfl) (e := Extern.BytealgIndexByte.indexByte) (by kernel_rfl), H.out]
  simp only [Result.andThen]
  rw [Oper.upon_value]
  go_wp2
  go_ret
  exact ⟨rfl, rfl⟩
theorem bytes_row (w : World) (s : ByteArray) (cap : Nat) (e : TypeId) (fr : Nat × Nat) : Lib.Bytes (w.alloc (.cells (bytesRow s cap) e fr)) w.heap.size 0 s := by
  intro i hi
  rw [Nat.zero_add, World.cell?_alloc_mark, bytesRow_at s cap i hi]
  rfl
set_option maxHeartbeats 400000 in
theorem check_any (t : ByteArray) (b cap : Nat) (w : World) (hB : Lib.Bytes w b 0 t) (hs : t.size ≤ maxLen) :
    Calls Tryz.prog 134 #[.slice (some ⟨b, 0, none⟩) t.size cap] w fun e w' => e = .returned (.int .i64 (chk t)) ∧ w = w' := by
  have hs' := hs
  unfold maxLen at hs'
  have hconv := Lib.run_convert_whole (P := Tryz.prog) w 40 5 9 Tryz.underlying40 Tryz.underlying5 Tryz.underlying9 b 0 t hB cap
  by_cases h1 : 1048576 < (t.size : Int)
  · have Hfin := Lib.hid (show (4 : Int) = chk t by unfold chk; rw [if_pos h1])
    go_enter Tryz.func134, Tryz.ntmps134
    go_wp2_with fail
    go_ret
    exact ⟨ret_int Hfin.out, rfl⟩
  have e1 : decide (1048576 < (t.size : Int)) = false := by simpa using h1
  by_cases h2 : zeroB t = true
  · have Hfin := Lib.hid (show (3 : Int) = chk t by unfold chk; rw [if_neg h1, if_pos h2])
    have hx := index_yes t h2
    clear h2
    go_enter Tryz.func134, Tryz.ntmps134
    go_wp2_with (go_at_call 152; refine (ixb_any t b cap 0 _ hB).mono ?_; rintro e w' ⟨rfl, rfl⟩)
    go_ret
    exact ⟨ret_int Hfin.out, rfl⟩
  have h2' : zeroB t = false := by simpa using h2
  have hx := index_no t h2'
  have Hz : Hid (∀ g : Bool, goesAt t 0 = g → chk t = if g = true then 0 else 2) := Lib.hid (fun g hg => by unfold chk; rw [if_neg h1, if_neg h2, hg])
  clear h2 h2'
  go_enter Tryz.func134, Tryz.ntmps134
  go_wp2_with (go_at_call 152; refine (ixb_any t b cap 0 _ hB).mono ?_; rintro e w' ⟨rfl, rfl⟩)
  clear hx hconv
  go_loop [4] (fun i => ∃ k : Nat, k ≤ t.size ∧ i = .int .i64 k ∧ Hid (goesAt t k = goesAt t 0)) (fun i => t.size - (intOf i).toNat)
  case atStart => exact ⟨0, Nat.zero_le _, rfl, rfl⟩
  case round =>
    obtain ⟨k, hk, rfl, Hg⟩ := hrel
    by_cases hlt : k < t.size
    · have hn := nxt_le t k
      have hin := nxtI_in t k
      have hbad := fun h0 => goesAt_bad t k hlt h0
      have hstep := fun h0 => goesAt_step t k hlt h0
      generalize nxt t k = p at *
      obtain ⟨c, n⟩ := p
      have Hin := Lib.hid hin
      clear hin
      simp only at hn hbad hstep
      by_cases h0 : n = 0
      · have Hfin := Lib.hid (show (2 : Int) = chk t by rw [Hz.out false (by rw [← Hg.out]; exact hbad h0)]; rfl)
        clear hbad hstep
        subst h0
        go_wp2_with (go_at_call 153; refine (next_any t k hs _).mono ?_; rintro e w' ⟨rfl, rfl⟩; rw [Hin.out])
        go_ret
        exact ⟨ret_int Hfin.out, rfl⟩
      · have Hst := Lib.hid (hstep h0)
        clear hbad hstep
        have e0 : ((n : Int) == 0) = false := by simp [h0]
        go_wp2_with (go_at_call 153; refine (next_any t k hs _).mono ?_; rintro e w' ⟨rfl, rfl⟩; rw [Hin.out])
        go_round
        case rel => exact ⟨k + n, by omega, by go_num, Hst.out.trans Hg.out⟩
        case measure => simp [intOf]; omega
    · have Hfin := Lib.hid (show (0 : Int) = chk t by rw [Hz.out true (by rw [← Hg.out]; exact goesAt_end t k (by omega))]; rfl)
      go_wp2_with fail
      go_ret
      exact ⟨ret_int Hfin.out, rfl⟩
end Go.Proofs.YtldllbmbcnipoabGreatDoor.Utf

namespace Go.Proofs.YtldllbmbcnipoabGreatDoor.Utf
open Go.RowKit
set_option linter.unusedVariables false
end Go.Proofs.YtldllbmbcnipoabGreatDoor.Utf

namespace Go.Proofs.YtldllbmbcnipoabGreatDoor.Sp
open Go.RowKit
open Go.Proofs.YtldllbmbcnipoabGreatDoor.Tk (S S_of S_list S_size S_toList S_app ret_int eq8 ne8 at_data len_data)
open Go.Proofs.YtldllbmbcnipoabGreatDoor.Cm (calls_at Keep alloc_new alloc_at cell_at lt_of_at)
open Go.Proofs.YtldllbmbcnipoabGreatDoor.Utf (chk)
set_option linter.unusedVariables false
def ckB (s : List UInt8) : Bool := decide (chk (S s) = 0)
mutual
def okOne (e k : Bool) : Sp → Bool
  | .mk q s l => ckB s && (if q = 1 then (l.isEmpty && ttB s) else if q = 2 then (l.isEmpty && (!s.isEmpty && (!hsB 10 s && !hsB 13 s)))
      else if q = 3 then (s.isEmpty && (!l.isEmpty && (!e && okAll true k 0 l))) else if q = 4 then (dsB s && (!l.isEmpty && (!k && okAll e true 0 l))) else false)
def okAll (e k : Bool) (p : Int) : List Sp → Bool
  | [] => true
  | x :: r => okOne e k x && !(decide (x.kind = p) && decide (x.kind ≤ 2)) && okAll e k x.kind r
end
theorem okAll_cons (e k : Bool) (p : Int) (x : Sp) (r : List Sp) : okAll e k p (x :: r) = (okOne e k x && !(decide (x.kind = p) && decide (x.kind ≤ 2)) && okAll e k x.kind r) := by rw [okAll]
theorem okOne_eq (e k : Bool) (x : Sp) : okOne e k x = (ckB x.s && (if x.kind = 1 then (x.kids.isEmpty && ttB x.s) else if x.kind = 2 then (x.kids.isEmpty && (!x.s.isEmpty && (!hsB 10 x.s && !hsB 13 x.s)))
      else if x.kind = 3 then (x.s.isEmpty && (!x.kids.isEmpty && (!e && okAll true k 0 x.kids))) else if x.kind = 4 then (dsB x.s && (!x.kids.isEmpty && (!k && okAll e true 0 x.kids))) else false)) := by
  obtain ⟨q, s, l⟩ := x
  rw [okOne]
  rfl
theorem okOne_kind {e k : Bool} {x : Sp} (h : okOne e k x = true) : 1 ≤ x.kind ∧ x.kind ≤ 4 := by
  rw [okOne_eq, Bool.and_eq_true] at h
  have h2 := h.2
  split at h2
  · omega
  · split at h2
    · omega
    · split at h2
      · omega
      · split at h2
        · omega
        · simp at h2
theorem isEmpty_len {α : Type} (l : List α) : ((l.length : Int) == 0) = l.isEmpty := by
  cases l with
  | nil => rfl
  | cons a r =>
    rw [List.isEmpty_cons, beq_eq_false_iff_ne]
    simp
    omega
theorem gt_len {α : Type} (l : List α) : decide ((l.length : Int) > 0) = !l.isEmpty := by
  cases l with
  | nil => rfl
  | cons a r =>
    rw [List.isEmpty_cons]
    exact decide_eq_true (by simp)
def OkAns (w : World) (b : Bool) (e : Ending) (w' : World) : Prop := e = .returned (.bool b) ∧ Below w.heap.size w w'
end Go.Proofs.YtldllbmbcnipoabGreatDoor.Sp

namespace Go.Proofs.YtldllbmbcnipoabGreatDoor.Bt
open Go.RowKit
open Go.Proofs.YtldllbmbcnipoabGreatDoor.Tk (S S_of S_list S_size S_toList ret_int Rd get_lt take_next take_off)
open Go.Proofs.YtldllbmbcnipoabGreatDoor.Cm (calls_at alloc_new alloc_at cell_at)
open Go.Proofs.YtldllbmbcnipoabGreatDoor.Sp (Sp Tr ret_bool OkAns smAll totAll)
open Go.Proofs.YtldllbmbcnipoabGreatDoor.Bk (Bk)
set_option linter.unusedVariables false
mutual
def smOne : Bk → Bk → Bool
  | .mk k lv i ls ss l, .mk q lw j ms tt m => decide (k = q) && decide (lv = lw) && decide (i = j) && decide (ls = ms) && smAll ss tt && smB l m
def smB : List Bk → List Bk → Bool
  | [], [] => true
  | x :: r, y :: t => smOne x y && smB r t
  | _, _ => false
end
theorem smOne_eq (x y : Bk) : smOne x y = (decide (x.kind = y.kind) && decide (x.level = y.level) && decide (x.info = y.info) && decide (x.lines = y.lines) && smAll x.spans y.spans && smB x.kids y.kids) := by
  obtain ⟨k, lv, i, ls, ss, l⟩ := x
  obtain ⟨q, lw, j, ms, tt, m⟩ := y
  rw [smOne]
  rfl
theorem smB_cons (x y : Bk) (r t : List Bk) : smB (x :: r) (y :: t) = (smOne x y && smB r t) := by rw [smB]
mutual
theorem smOne_iff : ∀ x y : Bk, smOne x y = true ↔ x = y
  | .mk k lv i ls ss l, .mk q lw j ms tt m => by
    rw [smOne, Bool.and_eq_true, Bool.and_eq_true, Bool.and_eq_true, Bool.and_eq_true, Bool.and_eq_true, decide_eq_true_iff, decide_eq_true_iff, decide_eq_true_iff, decide_eq_true_iff, Sp.smAll_iff ss tt, smB_iff l m]
    simp [and_assoc]
theorem smB_iff : ∀ a b : List Bk, smB a b = true ↔ a = b
  | [], [] => by simp [smB]
  | [], _ :: _ => by simp [smB]
  | _ :: _, [] => by simp [smB]
  | x :: r, y :: t => by
    rw [smB_cons, Bool.and_eq_true, smOne_iff x y, smB_iff r t]
    simp
end
theorem smB_len : ∀ a b : List Bk, a.length ≠ b.length → smB a b = false
  | [], [], h => absurd rfl h
  | [], _ :: _, _ => by simp [smB]
  | _ :: _, [], _ => by simp [smB]
  | x :: r, y :: t, h => by
    rw [smB_cons, smB_len r t (by simpa using h), Bool.and_false]
end Go.Proofs.YtldllbmbcnipoabGreatDoor.Bt

namespace Go.Proofs.YtldllbmbcnipoabGreatDoor.Lc
set_option linter.unusedVariables false
def lcs : List Int → List Int → Nat
  | [], _ => 0
  | _ :: _, [] => 0
  | x :: a, y :: b => if x = y then lcs a b + 1 else max (lcs a (y :: b)) (lcs (x :: a) b)
termination_by a b => a.length + b.length
theorem lcs_nil (b : List Int) : lcs [] b = 0 := by unfold lcs; rfl
theorem lcs_nil2 (a : List Int) : lcs a [] = 0 := by cases a <;> (unfold lcs; rfl)
theorem lcs_yes {x y : Int} (h : x = y) (a b : List Int) : lcs (x :: a) (y :: b) = lcs a b + 1 := by rw [lcs, if_pos h]
theorem lcs_no {x y : Int} (h : x ≠ y) (a b : List Int) : lcs (x :: a) (y :: b) = max (lcs a (y :: b)) (lcs (x :: a) b) := by rw [lcs, if_neg h]
theorem lcs_has : ∀ (n : Nat) (a b : List Int), a.length + b.length ≤ n → ∃ s, List.Sublist s a ∧ List.Sublist s b ∧ s.length = lcs a b
  | _, [], b, _ => ⟨[], List.Sublist.refl _, List.nil_sublist _, (lcs_nil b).symm⟩
  | _, x :: a, [], _ => ⟨[], List.nil_sublist _, List.Sublist.refl _, (lcs_nil2 _).symm⟩
  | 0, x :: a, y :: b, h => by simp at h
  | n + 1, x :: a, y :: b, h => by
    simp only [List.length_cons] at h
    by_cases e : x = y
    · subst e
      obtain ⟨s, h1, h2, h3⟩ := lcs_has n a b (by omega)
      exact ⟨x :: s, h1.cons_cons x, h2.cons_cons x, by rw [lcs_yes rfl, List.length_cons, h3]⟩
    · rw [lcs_no e]
      by_cases hm : lcs (x :: a) b ≤ lcs a (y :: b)
      · obtain ⟨s, h1, h2, h3⟩ := lcs_has n a (y :: b) (by simp; omega)
        exact ⟨s, h1.cons x, h2, by omega⟩
      · obtain ⟨s, h1, h2, h3⟩ := lcs_has n (x :: a) b (by simp; omega)
        exact ⟨s, h1, h2.cons y, by omega⟩
theorem lcs_most : ∀ (n : Nat) (a b s : List Int), a.length + b.length ≤ n → List.Sublist s a → List.Sublist s b → s.length ≤ lcs a b
  | _, [], b, s, _, h1, _ => by rw [List.sublist_nil.1 h1]; exact Nat.zero_le _
  | _, x :: a, [], s, _, _, h2 => by rw [List.sublist_nil.1 h2]; exact Nat.zero_le _
  | 0, x :: a, y :: b, s, h, _, _ => by simp at h
  | n + 1, x :: a, y :: b, s, h, h1, h2 => by
    simp only [List.length_cons] at h
    cases s with
    | nil => exact Nat.zero_le _
    | cons z s =>
      by_cases e : x = y
      · subst e
        rw [lcs_yes rfl, List.length_cons]
        have k1 : List.Sublist s a := by
          cases h1 with
          | cons _ h => exact (List.sublist_cons_self z s).trans h
          | cons_cons _ h => exact h
        have k2 : List.Sublist s b := by
          cases h2 with
          | cons _ h => exact (List.sublist_cons_self z s).trans h
          | cons_cons _ h => exact h
        have := lcs_most n a b s (by omega) k1 k2
        omega
      · rw [lcs_no e]
        cases h1 with
        | cons _ k1 =>
          have := lcs_most n a (y :: b) (z :: s) (by simp; omega) k1 h2
          omega
        | cons_cons _ k1 =>
          cases h2 with
          | cons _ k2 =>
            have := lcs_most n (x :: a) b (x :: s) (by simp; omega) (k1.cons_cons x) k2
            omega
          | cons_cons _ k2 => exact absurd rfl e
theorem has (a b : List Int) : ∃ s, List.Sublist s a ∧ List.Sublist s b ∧ s.length = lcs a b := lcs_has _ a b (Nat.le_refl _)
theorem most {a b s : List Int} (h1 : List.Sublist s a) (h2 : List.Sublist s b) : s.length ≤ lcs a b := lcs_most _ a b s (Nat.le_refl _) h1 h2
theorem lcs_comm (a b : List Int) : lcs a b = lcs b a := by
  obtain ⟨s, h1, h2, h3⟩ := has a b
  obtain ⟨t, k1, k2, k3⟩ := has b a
  have := most h2 h1
  have := most k2 k1
  omega
theorem lcs_rev (a b : List Int) : lcs a.reverse b.reverse = lcs a b := by
  obtain ⟨s, h1, h2, h3⟩ := has a b
  obtain ⟨t, k1, k2, k3⟩ := has a.reverse b.reverse
  have l1 := most h1.reverse h2.reverse
  have l2 := most (a := a) (b := b) (by simpa using k1.reverse) (by simpa using k2.reverse)
  rw [List.length_reverse] at l1 l2
  omega
theorem lcs_mono {a a' b b' : List Int} (h : List.Sublist a a') (k : List.Sublist b b') : lcs a b ≤ lcs a' b' := by
  obtain ⟨s, h1, h2, h3⟩ := has a b
  have := most (h1.trans h) (h2.trans k)
  omega
theorem lcs_le_left (a b : List Int) : lcs a b ≤ a.length := by
  obtain ⟨s, h1, h2, h3⟩ := has a b
  have := h1.length_le
  omega
theorem lcs_more (a b : List Int) (x : Int) : lcs (a ++ [x]) b ≤ lcs a b + 1 := by
  obtain ⟨s, h1, h2, h3⟩ := has (a ++ [x]) b
  obtain ⟨s1, s2, rfl, k1, k2⟩ := List.sublist_append_iff.1 h1
  have l1 := most k1 ((List.sublist_append_left s1 s2).trans h2)
  have l2 := k2.length_le
  rw [List.length_append] at h3
  simp at l2
  omega
def tb (a b : List Int) (i k : Nat) : Nat := lcs (a.drop i) (b.drop k)
theorem tb_end (a b : List Int) (i k : Nat) (h : a.length ≤ i) : tb a b i k = 0 := by unfold tb; rw [List.drop_eq_nil_of_le h, lcs_nil]
theorem tb_end2 (a b : List Int) (i k : Nat) (h : b.length ≤ k) : tb a b i k = 0 := by unfold tb; rw [List.drop_eq_nil_of_le h, lcs_nil2]
theorem tb_yes {a b : List Int} {i k : Nat} (hi : i < a.length) (hk : k < b.length) (h : a[i] = b[k]) : tb a b i k = tb a b (i + 1) (k + 1) + 1 := by
  unfold tb; rw [List.drop_eq_getElem_cons hi, List.drop_eq_getElem_cons hk, lcs_yes h]
theorem tb_no {a b : List Int} {i k : Nat} (hi : i < a.length) (hk : k < b.length) (h : a[i] ≠ b[k]) : tb a b i k = max (tb a b (i + 1) k) (tb a b i (k + 1)) := by
  unfold tb; rw [List.drop_eq_getElem_cons hi, List.drop_eq_getElem_cons hk, lcs_no h]
theorem tb_zero (a b : List Int) : tb a b 0 0 = lcs a b := by unfold tb; rw [List.drop_zero, List.drop_zero]
def dice (a b : List Int) : Nat := if a.length + b.length = 0 then 1000 else 2000 * lcs a b / (a.length + b.length)
end Go.Proofs.YtldllbmbcnipoabGreatDoor.Lc

namespace Go.Proofs.YtldllbmbcnipoabGreatDoor.Nm
open Go.Proofs.YtldllbmbcnipoabGreatDoor.Sp (Sp plAll)
open Go.Proofs.YtldllbmbcnipoabGreatDoor.Bk (Bk Tx)
open Go.Proofs.YtldllbmbcnipoabGreatDoor.Bt (smB smB_iff)
set_option linter.unusedVariables false
def dgB (n : Nat) : UInt8 := (48 + n).toUInt8
def dgN (n : Nat) : Tx := if h : n < 10 then [dgB n] else dgN (n / 10) ++ [dgB (n % 10)]
termination_by n
decreasing_by omega
def dgI (n : Int) : Tx := if n < 0 then 45 :: dgN n.natAbs else dgN n.natAbs
theorem dgN_small {n : Nat} (h : n < 10) : dgN n = [dgB n] := by rw [dgN, dif_pos h]
theorem dgN_big {n : Nat} (h : ¬ n < 10) : dgN n = dgN (n / 10) ++ [dgB (n % 10)] := by rw [dgN, dif_neg h]
def val (l : Tx) : Nat := l.foldl (fun a c => 10 * a + (c.toNat - 48)) 0
theorem dgB_val {n : Nat} (h : n < 10) : (dgB n).toNat = 48 + n := by
  unfold dgB
  rw [Nat.toUInt8, UInt8.toNat_ofNat']
  omega
theorem val_dgN (n : Nat) : val (dgN n) = n := by
  induction n using Nat.strongRecOn with
  | ind n ih =>
    by_cases h : n < 10
    · rw [dgN_small h]
      show 10 * 0 + ((dgB n).toNat - 48) = n
      rw [dgB_val h]
      omega
    · rw [dgN_big h]
      unfold val
      rw [List.foldl_append]
      show 10 * val (dgN (n / 10)) + ((dgB (n % 10)).toNat - 48) = n
      rw [ih (n / 10) (by omega), dgB_val (by omega)]
      omega
theorem dgN_inj {m n : Nat} (h : dgN m = dgN n) : m = n := by rw [← val_dgN m, ← val_dgN n, h]
theorem dgN_digit (n : Nat) : ∀ c ∈ dgN n, 48 ≤ c.toNat ∧ c.toNat ≤ 57 := by
  induction n using Nat.strongRecOn with
  | ind n ih =>
    intro c hc
    by_cases h : n < 10
    · rw [dgN_small h, List.mem_singleton] at hc
      rw [hc, dgB_val h]
      omega
    · rw [dgN_big h] at hc
      rcases List.mem_append.1 hc with hc | hc
      · exact ih (n / 10) (by omega) c hc
      · rw [List.mem_singleton] at hc
        rw [hc, dgB_val (by omega)]
        omega
theorem dgN_no (n : Nat) (c : UInt8) (h : c = 58 ∨ c = 59 ∨ c = 45) : c ∉ dgN n := fun hc => by
  have := dgN_digit n c hc
  rcases h with rfl | rfl | rfl
  · have e : (58 : UInt8).toNat = 58 := rfl
    omega
  · have e : (59 : UInt8).toNat = 59 := rfl
    omega
  · have e : (45 : UInt8).toNat = 45 := rfl
    omega
theorem dgI_inj {m n : Int} (h : dgI m = dgI n) : m = n := by
  unfold dgI at h
  by_cases hm : m < 0
  · rw [if_pos hm] at h
    by_cases hn : n < 0
    · rw [if_pos hn] at h
      have := dgN_inj (List.cons.inj h).2
      omega
    · rw [if_neg hn] at h
      exact absurd (by rw [← h]; exact List.mem_cons_self ..) (dgN_no n.natAbs 45 (Or.inr (Or.inr rfl)))
  · rw [if_neg hm] at h
    by_cases hn : n < 0
    · rw [if_pos hn] at h
      exact absurd (by rw [h]; exact List.mem_cons_self ..) (dgN_no m.natAbs 45 (Or.inr (Or.inr rfl)))
    · rw [if_neg hn] at h
      have := dgN_inj h
      omega
theorem dgI_no (n : Int) : (59 : UInt8) ∉ dgI n := by
  unfold dgI
  split
  · intro h
    rcases List.mem_cons.1 h with h | h
    · exact absurd h (by decide)
    · exact dgN_no _ _ (Or.inr (Or.inl rfl)) h
  · exact dgN_no _ _ (Or.inr (Or.inl rfl))
theorem dgN_len (n : Nat) : ∀ d, n < 10 ^ (d + 1) → (dgN n).length ≤ d + 1 := by
  induction n using Nat.strongRecOn with
  | ind n ih =>
    intro d hd
    by_cases h : n < 10
    · rw [dgN_small h]; simp
    · rw [dgN_big h, List.length_append]
      cases d with
      | zero => omega
      | succ d =>
        have := ih (n / 10) (by omega) d (by rw [Nat.pow_succ] at hd; omega)
        simp only [List.length_cons, List.length_nil]
        omega
theorem dgN_20 {n : Nat} (h : n ≤ 9223372036854775808) : (dgN n).length ≤ 19 := dgN_len n 18 (by omega)
theorem dgI_21 {n : Int} (h : -9223372036854775808 ≤ n ∧ n ≤ 9223372036854775807) : (dgI n).length ≤ 20 := by
  have := dgN_20 (n := n.natAbs) (by omega)
  unfold dgI
  split
  · rw [List.length_cons]; omega
  · omega
theorem cut_eq {c : UInt8} : ∀ {p q r s : Tx}, c ∉ p → c ∉ q → p ++ c :: r = q ++ c :: s → p = q ∧ r = s
  | [], [], r, s, _, _, h => ⟨rfl, (List.cons.inj h).2⟩
  | [], b :: q, r, s, _, hq, h => absurd (by rw [(List.cons.inj h).1]; exact List.mem_cons_self ..) hq
  | a :: p, [], r, s, hp, _, h => absurd (by rw [← (List.cons.inj h).1]; exact List.mem_cons_self ..) hp
  | a :: p, b :: q, r, s, hp, hq, h => by
    obtain ⟨h1, h2⟩ := List.cons.inj h
    obtain ⟨h3, h4⟩ := cut_eq (fun hm => hp (List.mem_cons_of_mem _ hm)) (fun hm => hq (List.mem_cons_of_mem _ hm)) h2
    exact ⟨by rw [h1, h3], h4⟩
def tx (s : Tx) : Tx := dgN s.length ++ 58 :: s
theorem app_eq {p q r s : Tx} (hl : p.length = q.length) (h : p ++ r = q ++ s) : p = q ∧ r = s := List.append_inj h hl
theorem tx_inj {s t r u : Tx} (h : tx s ++ r = tx t ++ u) : s = t ∧ r = u := by
  unfold tx at h
  rw [List.append_assoc, List.append_assoc, List.cons_append, List.cons_append] at h
  obtain ⟨h1, h2⟩ := cut_eq (dgN_no _ _ (Or.inl rfl)) (dgN_no _ _ (Or.inl rfl)) h
  exact app_eq (dgN_inj h1) h2
theorem num_inj {m n : Nat} {r s : Tx} (h : dgN m ++ 59 :: r = dgN n ++ 59 :: s) : m = n ∧ r = s := by
  obtain ⟨h1, h2⟩ := cut_eq (dgN_no _ _ (Or.inr (Or.inl rfl))) (dgN_no _ _ (Or.inr (Or.inl rfl))) h
  exact ⟨dgN_inj h1, h2⟩
theorem int_inj {m n : Int} {r s : Tx} (h : dgI m ++ 59 :: r = dgI n ++ 59 :: s) : m = n ∧ r = s := by
  obtain ⟨h1, h2⟩ := cut_eq (dgI_no _) (dgI_no _) h
  exact ⟨dgI_inj h1, h2⟩
def txs : List Tx → Tx
  | [] => []
  | s :: r => tx s ++ txs r
theorem txs_inj : ∀ {a b : List Tx} {r s : Tx}, a.length = b.length → txs a ++ r = txs b ++ s → a = b ∧ r = s
  | [], [], r, s, _, h => ⟨rfl, h⟩
  | [], _ :: _, _, _, hl, _ => by simp at hl
  | _ :: _, [], _, _, hl, _ => by simp at hl
  | x :: a, y :: b, r, s, hl, h => by
    rw [txs, txs, List.append_assoc, List.append_assoc] at h
    obtain ⟨h1, h2⟩ := tx_inj h
    obtain ⟨h3, h4⟩ := txs_inj (by simpa using hl) h2
    exact ⟨by rw [h1, h3], h4⟩
mutual
def sp1 : Sp → Tx
  | .mk k s l => dgI k ++ 59 :: (tx s ++ (dgN l.length ++ 59 :: spR l))
def spR : List Sp → Tx
  | [] => []
  | x :: r => sp1 x ++ spR r
end
def spK (l : List Sp) : Tx := dgN l.length ++ 59 :: spR l
mutual
theorem sp1_inj : ∀ (x y : Sp) (r s : Tx), sp1 x ++ r = sp1 y ++ s → x = y ∧ r = s
  | .mk k s l, .mk k' s' l', r, u, h => by
    rw [sp1, sp1] at h
    simp only [List.append_assoc, List.cons_append] at h
    obtain ⟨h1, h2⟩ := int_inj h
    obtain ⟨h3, h4⟩ := tx_inj h2
    obtain ⟨h5, h6⟩ := num_inj h4
    obtain ⟨h7, h8⟩ := spR_inj l l' r u h5 h6
    exact ⟨by rw [h1, h3, h7], h8⟩
theorem spR_inj : ∀ (a b : List Sp) (r s : Tx), a.length = b.length → spR a ++ r = spR b ++ s → a = b ∧ r = s
  | [], [], r, s, _, h => ⟨rfl, by simpa [spR] using h⟩
  | [], _ :: _, _, _, hl, _ => by simp at hl
  | _ :: _, [], _, _, hl, _ => by simp at hl
  | x :: a, y :: b, r, s, hl, h => by
    rw [spR, spR, List.append_assoc, List.append_assoc] at h
    obtain ⟨h1, h2⟩ := sp1_inj x y _ _ h
    obtain ⟨h3, h4⟩ := spR_inj a b r s (by simpa using hl) h2
    exact ⟨by rw [h1, h3], h4⟩
end
mutual
def bk1 : Bk → Tx
  | .mk k lv i ls ss l => dgI k ++ 59 :: (dgI lv ++ 59 :: (tx i ++ (dgN ls.length ++ 59 :: (txs ls ++ (spK ss ++ (dgN l.length ++ 59 :: bkR l))))))
def bkR : List Bk → Tx
  | [] => []
  | x :: r => bk1 x ++ bkR r
end
mutual
theorem bk1_inj : ∀ (x y : Bk) (r s : Tx), bk1 x ++ r = bk1 y ++ s → x = y ∧ r = s
  | .mk k lv i ls ss l, .mk k' lv' i' ls' ss' l', r, u, h => by
    rw [bk1, bk1] at h
    simp only [List.append_assoc, List.cons_append, spK] at h
    obtain ⟨h1, h2⟩ := int_inj h
    obtain ⟨h3, h4⟩ := int_inj h2
    obtain ⟨h5, h6⟩ := tx_inj h4
    obtain ⟨h7, h8⟩ := num_inj h6
    obtain ⟨h9, h10⟩ := txs_inj h7 h8
    obtain ⟨h11, h12⟩ := num_inj h10
    obtain ⟨h13, h14⟩ := spR_inj ss ss' _ _ h11 h12
    obtain ⟨h15, h16⟩ := num_inj h14
    obtain ⟨h17, h18⟩ := bkR_inj l l' r u h15 h16
    exact ⟨by rw [h1, h3, h5, h9, h13, h17], h18⟩
theorem bkR_inj : ∀ (a b : List Bk) (r s : Tx), a.length = b.length → bkR a ++ r = bkR b ++ s → a = b ∧ r = s
  | [], [], r, s, _, h => ⟨rfl, by simpa [bkR] using h⟩
  | [], _ :: _, _, _, hl, _ => by simp at hl
  | _ :: _, [], _, _, hl, _ => by simp at hl
  | x :: a, y :: b, r, s, hl, h => by
    rw [bkR, bkR, List.append_assoc, List.append_assoc] at h
    obtain ⟨h1, h2⟩ := bk1_inj x y _ _ h
    obtain ⟨h3, h4⟩ := bkR_inj a b r s (by simpa using hl) h2
    exact ⟨by rw [h1, h3], h4⟩
end
theorem key_inj {x y : Bk} (h : bk1 x = bk1 y) : x = y := (bk1_inj x y [] [] (by rw [h])).1
def keys (l : List Bk) : List Tx := l.map bk1
def pt (b : Bk) : List Tx :=
  if b.kind = 1 ∨ b.kind = 2 then Tk.toks (plAll b.spans) else if b.kind = 4 then b.lines else if b.kind = 5 ∨ b.kind = 6 ∨ b.kind = 7 then keys b.kids else if b.kind = 8 then b.info :: b.lines else []
def rkI (all l : List Tx) : List Int := l.map (fun x => (Tk.rank all x : Int))
def al (a b : Bk) : Nat :=
  if smB [a] [b] = true then 1000 else if a.kind ≠ b.kind then 0 else min 999 (Lc.dice (rkI (pt a ++ pt b) (pt a)) (rkI (pt b ++ pt a) (pt b)))
end Go.Proofs.YtldllbmbcnipoabGreatDoor.Nm
