/-
  Several texts in one:
  
  
  
  
  
  
  
  
  
  
  
-/
import Derived.Test.YtldllbmbcnipoabGreatDoorBtTree
import Derived.ProofKit
import Derived.OpenShut
import Derived.Carry
import Derived.SizedLaws
import Derived.Test.YtldllbmbcnipoabGreatDoorRows
import Derived.Lib.AppendIntMem
import Derived.Test.YtldllbmbcnipoabGreatDoorProg
import Derived.Lib.LaidTab
import Derived.LaidSub
import Derived.Test.YtldllbmbcnipoabGreatDoorPkWB
import Derived.Deep.Cut
import Derived.Deep.CutRange
import Derived.Deep.CutBlock
import Derived.WalkKit
import Derived.WalkSpells
import Derived.WalkLawsBesides
import Derived.Lib.Hide
namespace Go.Proofs.YtldllbmbcnipoabGreatDoor.Bt
open Go.ChangeShapes Go.WideShapes Go.ChangeAt Go.RowKit
open Go.Proofs.YtldllbmbcnipoabGreatDoor.Bk (Bk)
set_option linter.unusedVariables false
theorem laidOut : laidOutB Tryz.prog = true := by kernel_rfl
theorem blocks_of {H : Type} {enc : TypeId × Value → H} {W : World} {a : Option Addr} {len cap : Nat} {d : DataW H} {ps : List MemPlace} {ts : List TypeId} {ds : List (DataW H)} {j : Nat}
    (h : DataW.Trod enc Tryz.prog W 0 (fun _ => true) true 22 (.slice a len cap) d ps) (hsz : (DataW.weightsEach Tryz.prog ts ds).all (· ≤ reachBytes) = true) (ht : ts[j]? = some 22) (hd : ds[j]? = some d) :
    ∃ l : List Bk, TrB W (.slice a len cap) l ∧ fitAll reachBytes l ∧ ∀ (f : DataW H → Nat) (fa : List (DataW H) → Nat), Bulk f fa → ttAll l ≤ f d := by
  obtain ⟨fuel, hf⟩ := h
  obtain ⟨l, h1, h2, h3⟩ := open_fuel fuel (.slice a len cap) (d, ps) (by simpa [Value.cells] using hf)
  refine ⟨l, h1, h2 (fun n hn => ?_), h3⟩
  have hm := DataW.weights_mem_each (P := Tryz.prog) ht hd n hn
  simpa using List.all_eq_true.1 hsz _ hm
end Go.Proofs.YtldllbmbcnipoabGreatDoor.Bt

namespace Go.Proofs.YtldllbmbcnipoabGreatDoor.Bt
open Go.RowKit
set_option linter.unusedVariables false
theorem rowsBulk (H : Type) : Bulk (Rows.uptoBulk (H := H)) Rows.uptoBulkAll where
  str := fun b => by rw [Rows.uptoBulk]; omega
  strp := fun b => by rw [Rows.uptoBulk]; omega
  slice := fun e s => by rw [Rows.uptoBulk]; omega
  agg := fun p => by rw [Rows.uptoBulk]; omega
  cons := fun d r => by rw [Rows.uptoBulkAll]
  nil := by rw [Rows.uptoBulkAll]
theorem small_two {H : Type} {d e : DataW H} {r : List (DataW H)} (hk : Rows.uptoSmall H (d :: e :: r) = true) : Rows.uptoBulk d + Rows.uptoBulk e ≤ 1048576 := by
  have h : Rows.uptoBulkAll (d :: e :: r) ≤ 1048576 := of_decide_eq_true hk
  rw [Rows.uptoBulkAll, Rows.uptoBulkAll] at h
  omega
end Go.Proofs.YtldllbmbcnipoabGreatDoor.Bt

namespace Go.Proofs.YtldllbmbcnipoabGreatDoor.Nm
open Go.RowKit
def Tab (w : World) : Prop := Lib.TabIs Tryz.prog w "internal/strconv.uint64pow10" .u64 Lib.pow10Tab
theorem Tab.below {w w' : World} (h : Tab w) (hb : Below w.heap.size w w') : Tab w' := Lib.tabBelow_of_tabIs h w' hb
end Go.Proofs.YtldllbmbcnipoabGreatDoor.Nm

namespace Go.Proofs.YtldllbmbcnipoabGreatDoor.Nm
open Go.RowKit
theorem pow_g : Tryz.prog.globalNamed "internal/strconv.uint64pow10" = some 1 := by kernel_rfl
theorem pow_t : (Tryz.prog.globals[1]?).map (·.type) = some 178 := by kernel_rfl
theorem tab_of {W : World} {l : List (String × DataW Unit)} (h : laidMet Tryz.prog l W) (h1 : (l.filter fun x => x.1 == "internal/strconv.uint64pow10") = [("internal/strconv.uint64pow10", Lib.tabData .u64 Lib.pow10Tab)]) : Tab W := by
  have h2 := laidMet.filter (fun x => x.1 == "internal/strconv.uint64pow10") h
  rw [h1] at h2
  exact Lib.tabIs_of_head pow_g pow_t Tryz.underlying178 Tryz.underlying115 (by kernel_rfl) (by kernel_rfl) h2
end Go.Proofs.YtldllbmbcnipoabGreatDoor.Nm

namespace Go.Proofs.YtldllbmbcnipoabGreatDoor.Bt
open Go.RowKit
open Go.Proofs.YtldllbmbcnipoabGreatDoor.Tk (S S_of S_list S_size ret_int)
open Go.Proofs.YtldllbmbcnipoabGreatDoor.Cm (calls_at)
open Go.Proofs.YtldllbmbcnipoabGreatDoor.Bk (Bk)
set_option linter.unusedVariables false
mutual
def szOne : Bk → Nat
  | .mk _ _ _ _ _ l => 1 + szAll l
def szAll : List Bk → Nat
  | [] => 0
  | x :: r => szOne x + szAll r
end
theorem szOne_eq (x : Bk) : szOne x = 1 + szAll x.kids := by obtain ⟨k, lv, i, ls, ss, l⟩ := x; rw [szOne]; rfl
theorem szAll_cons (x : Bk) (r : List Bk) : szAll (x :: r) = szOne x + szAll r := by rw [szAll]
theorem szAll_mem : ∀ {l : List Bk} {x : Bk}, x ∈ l → szOne x ≤ szAll l
  | [], x, h => by cases h
  | y :: r, x, h => by
    rw [szAll_cons]
    rcases List.mem_cons.1 h with rfl | h
    · omega
    · have := szAll_mem h; omega
theorem szAll_kids {l : List Bk} {x : Bk} (h : x ∈ l) : szAll x.kids < szAll l := by
  have h1 := szAll_mem h
  rw [szOne_eq] at h1
  omega
theorem szAll_len : ∀ l : List Bk, l.length ≤ szAll l
  | [] => Nat.zero_le _
  | x :: r => by
    have := szAll_len r
    rw [szAll_cons, szOne_eq, List.length_cons]
    omega
theorem drop_cons (l : List Bk) (k : Nat) (h : k < l.length) : l.drop k = l[k] :: l.drop (k + 1) := List.drop_eq_getElem_cons h
end Go.Proofs.YtldllbmbcnipoabGreatDoor.Bt

namespace Go.Proofs.YtldllbmbcnipoabGreatDoor.Sp
open Go.RowKit
open Go.Proofs.YtldllbmbcnipoabGreatDoor.Tk (S S_of S_list S_size S_toList S_app ret_int)
open Go.Proofs.YtldllbmbcnipoabGreatDoor.Cm (calls_at)
set_option linter.unusedVariables false
theorem ret_bool {x y : Bool} (h : x = y) : Ending.returned (.bool x) = Ending.returned (.bool y) := by rw [h]
mutual
def plOne : Sp → List UInt8
  | .mk q s l => (if q = 1 ∨ q = 2 then s else []) ++ plAll l
def plAll : List Sp → List UInt8
  | [] => []
  | x :: r => plOne x ++ plAll r
end
theorem plOne_eq (x : Sp) : plOne x = (if x.kind = 1 ∨ x.kind = 2 then x.s else []) ++ plAll x.kids := by obtain ⟨q, s, l⟩ := x; unfold plOne; rfl
theorem plAll_cons (x : Sp) (r : List Sp) : plAll (x :: r) = plOne x ++ plAll r := by rw [plAll]
mutual
theorem plOne_len : ∀ x : Sp, (plOne x).length ≤ totOne x
  | .mk q s l => by
    have := plAll_len l
    unfold plOne totOne
    rw [List.length_append]
    split <;> simp <;> omega
theorem plAll_len : ∀ l : List Sp, (plAll l).length ≤ totAll l
  | [] => by unfold plAll totAll; simp
  | x :: r => by
    have h1 := plOne_len x
    have h2 := plAll_len r
    rw [plAll_cons, totAll_cons, List.length_append]
    omega
end
theorem ret_str {x y : ByteArray} (h : x = y) : Ending.returned (.string x) = Ending.returned (.string y) := by rw [h]
end Go.Proofs.YtldllbmbcnipoabGreatDoor.Sp

namespace Go.Proofs.YtldllbmbcnipoabGreatDoor.Sp
open Go.RowKit
open Go.Proofs.YtldllbmbcnipoabGreatDoor.Tk (S S_of S_list S_size S_toList S_app ret_int)
open Go.Proofs.YtldllbmbcnipoabGreatDoor.Cm (calls_at)
set_option linter.unusedVariables false
mutual
def smOne : Sp → Sp → Bool
  | .mk k s l, .mk q t m => decide (k = q) && decide (s = t) && smAll l m
def smAll : List Sp → List Sp → Bool
  | [], [] => true
  | x :: r, y :: t => smOne x y && smAll r t
  | _, _ => false
end
theorem smOne_eq (x y : Sp) : smOne x y = (decide (x.kind = y.kind) && decide (x.s = y.s) && smAll x.kids y.kids) := by
  obtain ⟨k, s, l⟩ := x
  obtain ⟨q, t, m⟩ := y
  unfold smOne
  rfl
theorem smAll_cons (x y : Sp) (r t : List Sp) : smAll (x :: r) (y :: t) = (smOne x y && smAll r t) := by rw [smAll]
mutual
theorem smOne_iff : ∀ x y : Sp, smOne x y = true ↔ x = y
  | .mk k s l, .mk q t m => by
    unfold smOne
    rw [Bool.and_eq_true, Bool.and_eq_true, decide_eq_true_iff, decide_eq_true_iff, smAll_iff l m]
    simp [and_assoc]
theorem smAll_iff : ∀ a b : List Sp, smAll a b = true ↔ a = b
  | [], [] => by simp [smAll]
  | [], _ :: _ => by simp [smAll]
  | _ :: _, [] => by simp [smAll]
  | x :: r, y :: t => by
    rw [smAll_cons, Bool.and_eq_true, smOne_iff x y, smAll_iff r t]
    simp
end
theorem smAll_len : ∀ a b : List Sp, a.length ≠ b.length → smAll a b = false
  | [], [], h => absurd rfl h
  | [], _ :: _, _ => by simp [smAll]
  | _ :: _, [], _ => by simp [smAll]
  | x :: r, y :: t, h => by
    rw [smAll_cons, smAll_len r t (by simpa using h), Bool.and_false]
theorem Tr.drewN {w : World} {v : Value} {l : List Sp} (h : Tr w v l) (n : Nat) : Tr (w.drewN n) v l := h.below (below_drewN (Below.refl _ _) n)
end Go.Proofs.YtldllbmbcnipoabGreatDoor.Sp

namespace Go.Proofs.YtldllbmbcnipoabGreatDoor.Sp
open Go.RowKit
open Go.Proofs.YtldllbmbcnipoabGreatDoor.Tk (S S_of S_list S_size S_toList S_app ret_int eq8 ne8 at_data len_data)
open Go.Proofs.YtldllbmbcnipoabGreatDoor.Cm (calls_at)
set_option linter.unusedVariables false
def spB (c : UInt8) : Bool := decide (c = 32) || decide (c = 9)
def edB (c : UInt8) : Bool := spB c || decide (c = 10)
theorem drop_all (s : ByteArray) (k : Nat) (h : ¬ k < s.size) : s.data.toList.drop k = [] := List.drop_eq_nil_of_le (by simp; omega)
def hsB (c : UInt8) (s : List UInt8) : Bool := s.any (fun b => decide (b = c))
def marksL : List UInt8 := [46, 47, 95, 45, 35, 63, 38, 58, 37]
def alB (c : UInt8) : Bool := (decide (97 ≤ (c.toNat : Int)) && decide ((c.toNat : Int) ≤ 122)) || (decide (65 ≤ (c.toNat : Int)) && decide ((c.toNat : Int) ≤ 90)) || (decide (48 ≤ (c.toNat : Int)) && decide ((c.toNat : Int) ≤ 57))
def dcB (c : UInt8) : Bool := alB c || marksL.any (fun b => decide (c = b))
def dsB (s : List UInt8) : Bool := s.all dcB && !s.isEmpty
end Go.Proofs.YtldllbmbcnipoabGreatDoor.Sp

namespace Go.Proofs.YtldllbmbcnipoabGreatDoor.Sp
open Go.RowKit
open Go.Proofs.YtldllbmbcnipoabGreatDoor.Tk (S S_of S_list S_size S_toList S_app ret_int eq8 ne8 at_data len_data)
open Go.Proofs.YtldllbmbcnipoabGreatDoor.Cm (calls_at)
set_option linter.unusedVariables false
def txB : List UInt8 → Bool
  | [] => true
  | [_] => true
  | a :: b :: r => !((decide (a = 10) && (spB b || decide (b = 10))) || (decide (b = 10) && spB a)) && txB (b :: r)
def ttB (s : List UInt8) : Bool := txB s && (!s.isEmpty && !hsB 13 s)
theorem txB_two (a b : UInt8) (r : List UInt8) : txB (a :: b :: r) = (!((decide (a = 10) && (spB b || decide (b = 10))) || (decide (b = 10) && spB a)) && txB (b :: r)) := by rw [txB]
end Go.Proofs.YtldllbmbcnipoabGreatDoor.Sp

namespace Go.Proofs.YtldllbmbcnipoabGreatDoor.Utf
open Go.RowKit
def bt (s : ByteArray) (k : Nat) : Nat := (s.data.toList.getD k 0).toNat
theorem bt_lt (s : ByteArray) (k : Nat) : bt s k < 256 := (s.data.toList.getD k 0).toNat_lt
theorem bt_eq (s : ByteArray) (k : Nat) (h : k < s.size) : bt s k = s[k].toNat := by
  have h' : k < s.data.toList.length := by simpa using h
  unfold bt
  rw [List.getD_eq_getElem?_getD, List.getElem?_eq_getElem h']
  rfl
def ln (b : Nat) : Nat :=
  if b ≤ 127 then 1 else if 194 ≤ b ∧ b ≤ 223 then 2 else if 224 ≤ b ∧ b ≤ 239 then 3 else if 240 ≤ b ∧ b ≤ 244 then 4 else 0
def lc (b : Nat) : Nat :=
  if b ≤ 127 then b else if 194 ≤ b ∧ b ≤ 223 then b - 192 else if 224 ≤ b ∧ b ≤ 239 then b - 224 else if 240 ≤ b ∧ b ≤ 244 then b - 240 else 0
def moreB (b : Nat) : Bool := decide (128 ≤ b) && decide (b ≤ 191)
def acc (f : Nat → Nat) : Nat → Nat
  | 0 => lc (f 0)
  | j + 1 => acc f j * 64 + (f (j + 1) - 128)
def conts (f : Nat → Nat) : Nat → Bool
  | 0 => true
  | j + 1 => conts f j && moreB (f (j + 1))
def fitsI (c n : Int) : Bool :=
  if n = 3 then decide (2048 ≤ c) && (decide (c < 55296) || decide (57343 < c)) else if n = 4 then decide (65536 ≤ c) && decide (c ≤ 1114111) else true
def fitsB (c n : Nat) : Bool := fitsI c n
def nx (f : Nat → Nat) (m : Nat) : Nat × Nat :=
  if m = 0 ∨ ln (f 0) = 0 ∨ m < ln (f 0) then (0, 0)
  else if conts f (ln (f 0) - 1) = true ∧ fitsB (acc f (ln (f 0) - 1)) (ln (f 0)) = true then (acc f (ln (f 0) - 1), ln (f 0)) else (0, 0)
def nxt (s : ByteArray) (k : Nat) : Nat × Nat := nx (fun i => bt s (k + i)) (s.size - k)
def nxtI (s : ByteArray) (k : Int) : Nat × Nat := if k < 0 then (0, 0) else nxt s k.toNat
theorem ln_le (b : Nat) : ln b ≤ 4 := by
  unfold ln; (repeat' split) <;> omega
theorem lc_ln (b : Nat) (hb : b < 256) : lc b * 1 < 128 ∧ (ln b = 2 → lc b < 32) ∧ (ln b = 3 → lc b < 16) ∧ (ln b = 4 → lc b < 8) := by
  unfold ln lc
  refine ⟨?_, ?_, ?_, ?_⟩
  all_goals (split <;> try omega)
  all_goals (split <;> try omega)
  all_goals (split <;> try omega)
  all_goals (split <;> try omega)
theorem conts_more (f : Nat → Nat) (j : Nat) (h : conts f (j + 1) = true) : conts f j = true ∧ 128 ≤ f (j + 1) ∧ f (j + 1) ≤ 191 := by
  rw [conts, moreB, Bool.and_eq_true, Bool.and_eq_true, decide_eq_true_eq, decide_eq_true_eq] at h
  exact h
theorem acc_zero (f : Nat → Nat) : acc f 0 = lc (f 0) := rfl
theorem acc_succ (f : Nat → Nat) (j : Nat) : acc f (j + 1) = acc f j * 64 + (f (j + 1) - 128) := rfl
theorem conts_succ (f : Nat → Nat) (j : Nat) : conts f (j + 1) = (conts f j && moreB (f (j + 1))) := rfl
theorem acc_step (a c p q x : Nat) (h : a < c * p) (hx : x ≤ 191) (e : q = p * 64) : a * 64 + (x - 128) < c * q := by
  subst e
  rw [← Nat.mul_assoc]
  generalize c * p = m at *
  omega
theorem acc_le (f : Nat → Nat) (j : Nat) (h : conts f j = true) : acc f j < (lc (f 0) + 1) * 64 ^ j := by
  induction j with
  | zero =>
    rw [acc_zero]
    omega
  | succ j ih =>
    obtain ⟨h1, h2, h3⟩ := conts_more f j h
    rw [acc_succ]
    exact acc_step _ _ _ _ _ (ih h1) h3 (Nat.pow_succ 64 j)
theorem acc_small (f : Nat → Nat) (j : Nat) (hb : f 0 < 256) (hj : j < ln (f 0)) (h : conts f j = true) : acc f j < 2097152 := by
  have h1 := acc_le f j h
  obtain ⟨a1, a2, a3, a4⟩ := lc_ln (f 0) hb
  have h4 := ln_le (f 0)
  generalize lc (f 0) = c at *
  generalize ln (f 0) = n at *
  generalize acc f j = a at *
  have e1 : (64 : Nat) ^ 1 = 64 := by decide
  have e2 : (64 : Nat) ^ 2 = 4096 := by decide
  have e3 : (64 : Nat) ^ 3 = 262144 := by decide
  have : j = 0 ∨ j = 1 ∨ j = 2 ∨ j = 3 := by omega
  rcases this with rfl | rfl | rfl | rfl
  · rw [Nat.pow_zero, Nat.mul_one] at h1; omega
  · rw [e1] at h1
    have : n = 2 ∨ n = 3 ∨ n = 4 := by omega
    rcases this with rfl | rfl | rfl
    · have := a2 rfl; omega
    · have := a3 rfl; omega
    · have := a4 rfl; omega
  · rw [e2] at h1
    have : n = 3 ∨ n = 4 := by omega
    rcases this with rfl | rfl
    · have := a3 rfl; omega
    · have := a4 rfl; omega
  · rw [e3] at h1
    have := a4 (by omega); omega
theorem conts_le (f : Nat → Nat) (i j : Nat) (h : conts f j = true) (hi : i ≤ j) : conts f i = true := by
  induction j with
  | zero => obtain rfl : i = 0 := by omega
            exact h
  | succ j ih =>
    by_cases e : i = j + 1
    · subst e; exact h
    · exact ih (conts_more f j h).1 (by omega)
theorem nx_none (f : Nat → Nat) (m : Nat) (h : m = 0 ∨ ln (f 0) = 0 ∨ m < ln (f 0)) : nx f m = (0, 0) := by
  unfold nx; rw [if_pos h]
theorem nx_bad (f : Nat → Nat) (m j : Nat) (hj : j + 1 < ln (f 0)) (h : f (j + 1) < 128 ∨ 191 < f (j + 1)) : nx f m = (0, 0) := by
  unfold nx
  split
  · rfl
  rw [if_neg]
  intro ⟨h1, _⟩
  have h2 := conts_more f j (conts_le f (j + 1) _ h1 (by omega))
  omega
theorem nx_unfit (f : Nat → Nat) (m : Nat) (h : fitsB (acc f (ln (f 0) - 1)) (ln (f 0)) = false) : nx f m = (0, 0) := by
  unfold nx
  split
  · rfl
  rw [if_neg]
  intro ⟨_, h1⟩
  rw [h] at h1; cases h1
theorem nx_yes (f : Nat → Nat) (m : Nat) (h0 : 0 < ln (f 0)) (hm : ln (f 0) ≤ m) (h1 : conts f (ln (f 0) - 1) = true) (h : fitsB (acc f (ln (f 0) - 1)) (ln (f 0)) = true) :
    nx f m = (acc f (ln (f 0) - 1), ln (f 0)) := by
  unfold nx
  rw [if_neg (by omega), if_pos ⟨h1, h⟩]
theorem nx_le (f : Nat → Nat) (m : Nat) : (nx f m).2 ≤ m ∧ (nx f m).2 ≤ 4 := by
  unfold nx
  have h4 := ln_le (f 0)
  split
  · exact ⟨Nat.zero_le _, Nat.zero_le _⟩
  · split
    · show ln _ ≤ _ ∧ ln _ ≤ _; omega
    · exact ⟨Nat.zero_le _, Nat.zero_le _⟩
theorem nxt_le (t : ByteArray) (k : Nat) : (nxt t k).2 ≤ t.size - k := (nx_le _ _).1
def goes (t : ByteArray) : Nat → Nat → Bool
  | 0, k => decide (t.size ≤ k)
  | f + 1, k => if t.size ≤ k then true else if (nxt t k).2 = 0 then false else goes t f (k + (nxt t k).2)
theorem goes_fuel (t : ByteArray) (f g k : Nat) (hf : t.size - k ≤ f) (hg : t.size - k ≤ g) : goes t f k = goes t g k := by
  induction f generalizing g k with
  | zero =>
    have h : t.size ≤ k := by omega
    cases g with
    | zero => rfl
    | succ g => simp [goes, h]
  | succ f ih =>
    cases g with
    | zero =>
      have h : t.size ≤ k := by omega
      simp [goes, h]
    | succ g =>
      rw [goes, goes]
      split
      · rfl
      · split
        · rfl
        · exact ih g _ (by omega) (by omega)
def goesAt (t : ByteArray) (k : Nat) : Bool := goes t (t.size - k) k
theorem goesAt_end (t : ByteArray) (k : Nat) (h : t.size ≤ k) : goesAt t k = true := by
  unfold goesAt
  rw [show t.size - k = 0 by omega, goes]; exact decide_eq_true h
theorem goesAt_bad (t : ByteArray) (k : Nat) (h : k < t.size) (h0 : (nxt t k).2 = 0) : goesAt t k = false := by
  unfold goesAt
  obtain ⟨m, hm⟩ : ∃ m, t.size - k = m + 1 := ⟨t.size - k - 1, by omega⟩
  rw [hm, goes, if_neg (by omega), if_pos h0]
theorem goesAt_step (t : ByteArray) (k : Nat) (h : k < t.size) (h0 : (nxt t k).2 ≠ 0) : goesAt t (k + (nxt t k).2) = goesAt t k := by
  unfold goesAt
  obtain ⟨m, hm⟩ : ∃ m, t.size - k = m + 1 := ⟨t.size - k - 1, by omega⟩
  rw [hm, goes, if_neg (by omega), if_neg h0]
  exact goes_fuel t _ _ _ (by omega) (by omega)
def zeroB (t : ByteArray) : Bool := decide ((0 : UInt8) ∈ t.data.toList)
def chk (t : ByteArray) : Int := if 1048576 < (t.size : Int) then 4 else if zeroB t = true then 3 else if goesAt t 0 = true then 0 else 2
end Go.Proofs.YtldllbmbcnipoabGreatDoor.Utf

namespace Go.Proofs.YtldllbmbcnipoabGreatDoor.Utf
open Go.RowKit
set_option linter.unusedVariables false
theorem ret_int {k : IntKind} {a b : Int} (h : a = b) : Ending.returned (.int k a) = .returned (.int k b) := by rw [h]
theorem ret_bool {a b : Bool} (h : a = b) : Ending.returned (.bool a) = .returned (.bool b) := by rw [h]
theorem ret_two {j k : IntKind} {a b c d : Int} (h : a = b) (g : c = d) : Ending.returned (.tuple #[.int j a, .int k c]) = .returned (.tuple #[.int j b, .int k d]) := by rw [h, g]
set_option maxHeartbeats 400000 in
theorem lead_any (b : Nat) (hb : b < 256) (w : World) :
    Calls Tryz.prog 166 #[.int .u8 b] w fun e w' => e = .returned (.tuple #[.int .i64 (ln b), .int .i32 (lc b)]) ∧ w = w' := by
  go_enter Tryz.func166, Tryz.ntmps166
  go_wp2
  all_goals go_ret2
  all_goals refine ⟨ret_two ?_ ?_, rfl⟩
  all_goals (first | unfold ln | unfold lc)
  all_goals (split <;> try omega)
  all_goals (split <;> try omega)
  all_goals (split <;> try omega)
  all_goals (split <;> try omega)
theorem fits_a (c n : Int) (h : (n == 3) = true) (h1 : 2048 ≤ c) : (decide (c < 55296) || decide (57343 < c)) = fitsI c n := by
  obtain rfl : n = 3 := by simpa using h
  unfold fitsI
  rw [if_pos rfl, decide_eq_true h1, Bool.true_and]
theorem fits_b (c n : Int) (h : (n == 3) = true) (h1 : 2048 ≤ c) (h2 : c < 55296) : true = fitsI c n := by
  rw [← fits_a c n h h1, decide_eq_true h2, Bool.true_or]
theorem fits_c (c n : Int) (h : (n == 3) = true) (h1 : c < 2048) : false = fitsI c n := by
  obtain rfl : n = 3 := by simpa using h
  unfold fitsI
  rw [if_pos rfl, decide_eq_false (by omega), Bool.false_and]
theorem fits_d (c n : Int) (h : (n == 4) = true) (h1 : 65536 ≤ c) : decide (c ≤ 1114111) = fitsI c n := by
  obtain rfl : n = 4 := by simpa using h
  unfold fitsI
  rw [if_neg (by decide), if_pos rfl, decide_eq_true h1, Bool.true_and]
theorem fits_e (c n : Int) (h : (n == 4) = true) (h1 : c < 65536) : false = fitsI c n := by
  obtain rfl : n = 4 := by simpa using h
  unfold fitsI
  rw [if_neg (by decide), if_pos rfl, decide_eq_false (by omega), Bool.false_and]
theorem fits_f (c n : Int) (h : (n == 3) = false) (h1 : (n == 4) = false) : true = fitsI c n := by
  unfold fitsI
  rw [if_neg (by simpa using h), if_neg (by simpa using h1)]
set_option maxHeartbeats 400000 in
theorem fits_any (c n : Int) (w : World) :
    Calls Tryz.prog 167 #[.int .i32 c, .int .i64 n] w fun e w' => e = .returned (.bool (fitsI c n)) ∧ w = w' := by
  go_enter Tryz.func167, Tryz.ntmps167
  go_wp2
  all_goals go_ret
  all_goals refine ⟨ret_bool ?_, rfl⟩
  all_goals first | exact fits_a _ _ ‹_› ‹_› | exact fits_b _ _ ‹_› ‹_› ‹_› | exact fits_c _ _ ‹_› ‹_› | exact fits_d _ _ ‹_› ‹_› | exact fits_e _ _ ‹_› ‹_› | exact fits_f _ _ ‹_› ‹_›
set_option maxHeartbeats 400000 in
theorem next_out (s : ByteArray) (a : Int) (hs : s.size ≤ maxLen) (h : a < 0 ∨ s.size ≤ a) (w : World) :
    Calls Tryz.prog 153 #[.string s, .int .i64 a] w fun e w' => e = .returned (.tuple #[.int .i64 0, .int .i64 0]) ∧ w = w' := by
  unfold maxLen at hs
  go_enter Tryz.func153, Tryz.ntmps153
  rcases h with h | h
  · go_wp2_with fail
    go_ret2
    exact ⟨rfl, rfl⟩
  · by_cases h1 : a < 0
    · go_wp2_with fail
      go_ret2
      exact ⟨rfl, rfl⟩
    · go_wp2_with fail
      go_ret2
      exact ⟨rfl, rfl⟩
theorem val_int {k : IntKind} {a b : Int} (h : a = b) : Value.int k a = .int k b := by rw [h]
theorem acc_num (a x y : Nat) (e : y = x) (h1 : 128 ≤ x) (h2 : x ≤ 191) : (a : Int) * 64 + (x : Int) % 64 = ((a * 64 + (y - 128) : Nat) : Int) := by omega
theorem pair_none {p : Nat × Nat} (h : p = (0, 0)) : (0 : Int) = ((p.1 : Nat) : Int) ∧ (0 : Int) = ((p.2 : Nat) : Int) := by rw [h]; exact ⟨rfl, rfl⟩
theorem pair_yes {p : Nat × Nat} {a b c d : Nat} (h : p = (a, b)) (h1 : c = a) (h2 : d = b) : (c : Int) = ((p.1 : Nat) : Int) ∧ (d : Int) = ((p.2 : Nat) : Int) := by rw [h, h1, h2]; exact ⟨rfl, rfl⟩
theorem ret_pair {p : Nat × Nat} {a b : Int} (h : a = p.1 ∧ b = p.2) : Ending.returned (.tuple #[.int .i64 a, .int .i64 b]) = .returned (.tuple #[.int .i64 p.1, .int .i64 p.2]) := by rw [h.1, h.2]
set_option maxHeartbeats 400000 in
theorem next_in (s : ByteArray) (k : Nat) (hs : s.size ≤ maxLen) (hk : k < s.size) (w : World) :
    Calls Tryz.prog 153 #[.string s, .int .i64 k] w fun e w' => e = .returned (.tuple #[.int .i64 (nxt s k).1, .int .i64 (nxt s k).2]) ∧ w = w' := by
  unfold maxLen at hs
  have ek : decide ((k : Int) < 0) = false := by simp
  go_enter Tryz.func153, Tryz.ntmps153
  go_wp2_with fail
  refine (lead_any _ s[k].toNat_lt _).mono ?_
  rintro e w' ⟨rfl, rfl⟩
  rw [← bt_eq s k hk]
  have hn4 := ln_le (bt s k)
  generalize hn : ln (bt s k) = n at *
  generalize hc : lc (bt s k) = c at *
  have Hn := Lib.hid hn; have Hc := Lib.hid hc
  clear hn hc
  by_cases h0 : n = 0
  · subst h0
    go_wp2_with fail
    go_ret2
    exact ⟨ret_pair (pair_none (nx_none _ _ (Or.inr (Or.inl Hn.out)))), rfl⟩
  have e0 : ((n : Int) == 0) = false := by simp [h0]
  by_cases h1 : s.size < k + n
  · go_wp2_with fail
    go_ret2
    exact ⟨ret_pair (pair_none (nx_none _ _ (Or.inr (Or.inr (by show _ < ln (bt s k); rw [Hn.out]; omega))))), rfl⟩
  have e1 : decide ((s.size : Int) - (k : Int) < (n : Int)) = false := by simp; omega
  go_wp2_with fail
  go_loop [7, 8] (fun c' i => ∃ j : Nat, j < n ∧ conts (fun i => bt s (k + i)) j = true ∧ i = .int .i64 ((j : Int) + 1) ∧ c' = .int .i32 (acc (fun i => bt s (k + i)) j)) (fun _ i => n - (intOf i).toNat)
  case atStart => exact ⟨0, by omega, rfl, rfl, by rw [acc_zero]; exact congrArg (fun x : Nat => Value.int .i32 (x : Int)) Hc.out.symm⟩
  case round =>
    obtain ⟨j, hj, hcon, rfl, rfl⟩ := hrel
    have hsm := acc_small (fun i => bt s (k + i)) j (bt_lt s k) (by show j < ln (bt s k); rw [Hn.out]; exact hj) hcon
    have Hcon := Lib.hid hcon
    clear hcon
    by_cases hlt : j + 1 < n
    · have Hb := Lib.hid (bt_eq s (k + (j + 1)) (by omega))
      by_cases hm : bt s (k + (j + 1)) < 128 ∨ 191 < bt s (k + (j + 1))
      · have Hbad := Lib.hid (nx_bad (fun i => bt s (k + i)) (s.size - k) j (by show j + 1 < ln (bt s k); rw [Hn.out]; exact hlt) hm)
        have hm' : s[k + (j + 1)].toNat < 128 ∨ 191 < s[k + (j + 1)].toNat := by rw [← Hb.out]; exact hm
        clear hm
        rcases hm' with hm' | hm'
        · go_wp2_with fail
          go_ret2
          exact ⟨ret_pair (pair_none Hbad.out), rfl⟩
        · go_wp2_with fail
          go_ret2
          exact ⟨ret_pair (pair_none Hbad.out), rfl⟩
      · have hm' : 128 ≤ s[k + (j + 1)].toNat ∧ s[k + (j + 1)].toNat ≤ 191 := by rw [← Hb.out]; omega
        clear hm
        obtain ⟨hm1, hm2⟩ := hm'
        go_wp2_with fail
        go_round
        case rel => exact ⟨j + 1, hlt, by rw [conts_succ, Hcon.out]; simp [moreB, Hb.out, hm1, hm2], by go_num, val_int (acc_num _ _ _ Hb.out hm1 hm2)⟩
        case measure => simp [intOf]; omega
    · have Ej := Lib.hid (show j = n - 1 by omega)
      by_cases hf : fitsI (acc (fun i => bt s (k + i)) j) n = true
      · go_wp2_with (go_at_call 167; refine (fits_any _ _ _).mono ?_; rintro e w' ⟨rfl, rfl⟩)
        go_ret2
        have ej : j = ln (bt s (k + 0)) - 1 := by rw [Ej.out, ← Hn.out, Nat.add_zero]
        have en : n = ln (bt s (k + 0)) := Hn.out.symm
        exact ⟨ret_pair (pair_yes (nx_yes (fun i => bt s (k + i)) (s.size - k) (by show 0 < ln (bt s (k + 0)); omega) (by show ln (bt s (k + 0)) ≤ _; omega) (by show conts _ (ln (bt s (k + 0)) - 1) = true; rw [← ej]; exact Hcon.out) (by show fitsI (acc _ (ln (bt s (k + 0)) - 1) : Nat) (ln (bt s (k + 0)) : Nat) = true; rw [← ej, ← en]; exact hf)) (by show _ = acc _ (ln (bt s (k + 0)) - 1); rw [← ej]) en), rfl⟩
      · have hf' : fitsI (acc (fun i => bt s (k + i)) j) n = false := by simpa using hf
        clear hf
        go_wp2_with (go_at_call 167; refine (fits_any _ _ _).mono ?_; rintro e w' ⟨rfl, rfl⟩)
        go_ret2
        have ej : j = ln (bt s (k + 0)) - 1 := by rw [Ej.out, ← Hn.out, Nat.add_zero]
        have en : n = ln (bt s (k + 0)) := Hn.out.symm
        exact ⟨ret_pair (pair_none (nx_unfit (fun i => bt s (k + i)) (s.size - k) (by show fitsI (acc _ (ln (bt s (k + 0)) - 1) : Nat) (ln (bt s (k + 0)) : Nat) = false; rw [← ej, ← en]; exact hf'))), rfl⟩
theorem nxtI_out (s : ByteArray) (a : Int) (h : a < 0 ∨ s.size ≤ a) : nxtI s a = (0, 0) := by
  unfold nxtI
  split
  · rfl
  · unfold nxt; exact nx_none _ _ (Or.inl (by omega))
theorem nxtI_in (s : ByteArray) (k : Nat) : nxtI s k = nxt s k := by
  unfold nxtI
  rw [if_neg (by omega), Int.toNat_natCast]
theorem next_any (s : ByteArray) (a : Int) (hs : s.size ≤ maxLen) (w : World) :
    Calls Tryz.prog 153 #[.string s, .int .i64 a] w fun e w' => e = .returned (.tuple #[.int .i64 (nxtI s a).1, .int .i64 (nxtI s a).2]) ∧ w = w' := by
  by_cases h : a < 0 ∨ s.size ≤ a
  · refine (next_out s a hs h w).mono ?_
    rintro e w' ⟨rfl, rfl⟩
    rw [nxtI_out s a h]
    exact ⟨rfl, rfl⟩
  · obtain ⟨k, rfl⟩ : ∃ k : Nat, a = (k : Int) := ⟨a.toNat, by omega⟩
    rw [nxtI_in]
    exact next_in s k hs (by omega) w
end Go.Proofs.YtldllbmbcnipoabGreatDoor.Utf
