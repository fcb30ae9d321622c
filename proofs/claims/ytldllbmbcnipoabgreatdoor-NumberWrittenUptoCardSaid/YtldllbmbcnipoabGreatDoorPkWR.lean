/-
  Several texts in one:
  
  
  
  
  
-/
import Derived.Test.YtldllbmbcnipoabGreatDoorPkWG
import Derived.Test.YtldllbmbcnipoabGreatDoorPkWQ
import Derived.Lib.QuietBelow
import Derived.BigQuiet
import Derived.Test.YtldllbmbcnipoabGreatDoorShelf
import Derived.Test.YtldllbmbcnipoabGreatDoorPkWH
import Derived.Lib.IndexAny
namespace Go.Proofs.YtldllbmbcnipoabGreatDoor.Sp
open Go.RowKit
open Go.Proofs.YtldllbmbcnipoabGreatDoor.Tk (S S_of S_list S_size S_toList S_app ret_int eq8 ne8 at_data len_data)
open Go.Proofs.YtldllbmbcnipoabGreatDoor.Cm (calls_at Keep alloc_new alloc_at cell_at lt_of_at)
set_option linter.unusedVariables false
theorem fence_le (s : List UInt8) : ∀ f n, fence s f n ≤ n + f
  | 0, n => Nat.le_refl _
  | f + 1, n => by
    have := fence_le s f (n + 1)
    show (if hasRun n s.length s = true then fence s f (n + 1) else n) ≤ _
    split <;> omega
theorem ticksOf_le (s : List UInt8) : ticksOf s ≤ s.length + 2 := by
  have := fence_le s (s.length + 1) 1
  unfold ticksOf
  omega
theorem padded_le (s : List UInt8) : (padded s).length ≤ s.length + 2 := by
  unfold padded
  split <;> simp
theorem wr1_eq (x : Sp) : wr1 x = if x.kind = 1 then esc x.s else if x.kind = 2 then List.replicate (ticksOf x.s) 96 ++ (padded x.s ++ List.replicate (ticksOf x.s) 96)
    else if x.kind = 3 then 42 :: (wrs x.kids ++ [42]) else if x.kind = 4 then 91 :: (wrs x.kids ++ (93 :: 40 :: (x.s ++ [41]))) else [] := by
  obtain ⟨k, s, kids⟩ := x
  rw [wr1]
  rfl
theorem wrs_cons (x : Sp) (r : List Sp) : wrs (x :: r) = wr1 x ++ wrs r := by rw [wrs]
mutual
theorem wr1_le : ∀ x : Sp, (wr1 x).length ≤ 6 * totOne x
  | .mk q s l => by
    have h := wrs_le l
    have h1 := esc_le s
    have h2 := ticksOf_le s
    have h3 := padded_le s
    rw [totOne_eq, wr1_eq]
    show (if q = 1 then esc s else if q = 2 then List.replicate (ticksOf s) 96 ++ (padded s ++ List.replicate (ticksOf s) 96)
      else if q = 3 then 42 :: (wrs l ++ [42]) else if q = 4 then 91 :: (wrs l ++ (93 :: 40 :: (s ++ [41]))) else []).length ≤ 6 * (1 + s.length + totAll l)
    split
    · omega
    · split
      · simp only [List.length_append, List.length_replicate]; omega
      · split
        · simp only [List.length_append, List.length_cons, List.length_nil]; omega
        · split
          · simp only [List.length_append, List.length_cons, List.length_nil]; omega
          · simp
theorem wrs_le : ∀ l : List Sp, (wrs l).length ≤ 6 * totAll l
  | [] => by simp [wrs]
  | x :: r => by
    have h1 := wr1_le x
    have h2 := wrs_le r
    rw [wrs_cons, totAll_cons, List.length_append]
    omega
end
end Go.Proofs.YtldllbmbcnipoabGreatDoor.Sp

namespace Go.Proofs.YtldllbmbcnipoabGreatDoor.Sp
open Go.RowKit
open Go.Proofs.YtldllbmbcnipoabGreatDoor.Tk (S S_of S_list S_size S_toList S_app ret_int eq8 ne8 at_data len_data drop_all)
set_option linter.unusedVariables false
theorem slice_fromS (x : ByteArray) (m : Nat) (h1 : m ≤ x.size) (hx : x.size ≤ 140737488355328) (w : World) :
    (Instr.slice 9 (.string x) (some (.int .i64 (m : Int))) none none).run Tryz.prog w = .ok (.string (x.extract m x.size)) w := by
  have h4 : (m : Int) ≤ (x.size : Int) := by omega
  have h5 : 0 ≤ (m : Int) := by omega
  go_simp
theorem ext_from (s : ByteArray) (k : Nat) : (s.extract k s.size).data.toList = s.data.toList.drop k := by
  rw [ext_list]
  exact List.take_of_length_le (by rw [List.length_drop, len_data]; exact Nat.le_refl _)
def oneS (c : UInt8) : ByteArray := ⟨#[c]⟩
theorem one_list (c : UInt8) : (oneS c).toList = [c] := by rw [Lib.toList_data]; rfl
theorem beq_one (s : ByteArray) (c : UInt8) : (s.toList == (oneS c).toList) = decide (s.data.toList = [c]) := by
  rw [one_list, Lib.toList_data, Bool.eq_iff_iff, beq_iff_eq, decide_eq_true_iff]
theorem prefix0_any (s : ByteArray) (c : UInt8) (hs : s.size ≤ 140737488355328) (w : World) :
    Calls Tryz.prog 141 #[.string s, .string (oneS c)] w fun e w' => e = .returned (.bool (decide (s.data.toList.head? = some c))) ∧ w = w' := by
  have hz : (oneS c).size = 1 := rfl
  by_cases h1 : 1 ≤ s.size
  · have e1 := beq_one (s.extract 0 1) c
    have e2 : decide ((s.extract 0 1).data.toList = [c]) = decide (s.data.toList.head? = some c) := by
      have := at_data s 0 h1
      rw [List.drop_zero] at this
      rw [ext_list, List.drop_zero, this]
      simp
    rw [e2] at e1
    generalize decide (s.data.toList.head? = some c) = B at *
    have g1 : (1 : Int) ≤ (s.size : Int) := by omega
    generalize oneS c = p at *
    go_enter Tryz.func141, Tryz.ntmps141
    go_wp2_with fail
    go_ret
    exact ⟨by first | rfl | rw [e1], rfl⟩
  · have HR : Hid (decide (s.data.toList.head? = some c) = false) := Lib.hid (by
      have := drop_all s 0 (by omega)
      rw [List.drop_zero] at this
      rw [this]; rfl)
    rw [HR.out]
    have g1 : ¬ (1 : Int) ≤ (s.size : Int) := by omega
    generalize oneS c = p at *
    go_enter Tryz.func141, Tryz.ntmps141
    go_wp2_with fail
    go_ret
    exact ⟨rfl, rfl⟩
theorem prefix_any (s : ByteArray) (c : UInt8) (hs : s.size ≤ 140737488355328) (w : World) :
    Calls Tryz.prog 121 #[.string s, .string (oneS c)] w fun e w' => e = .returned (.bool (decide (s.data.toList.head? = some c))) ∧ w = w' := by
  have H := Lib.hid (prefix0_any s c hs w)
  generalize decide (s.data.toList.head? = some c) = B at *
  generalize oneS c = p at *
  go_enter Tryz.func121, Tryz.ntmps121
  go_wp2_with fail
  refine H.out.mono ?_
  rintro e w' ⟨rfl, rfl⟩
  go_wp2_with fail
  go_ret
  exact ⟨rfl, rfl⟩
theorem suffix0_any (s : ByteArray) (c : UInt8) (hs : s.size ≤ 140737488355328) (w : World) :
    Calls Tryz.prog 188 #[.string s, .string (oneS c)] w fun e w' => e = .returned (.bool (decide (s.data.toList.getLast? = some c))) ∧ w = w' := by
  have hz : (oneS c).size = 1 := rfl
  by_cases h1 : 1 ≤ s.size
  · have e1 := beq_one (s.extract (s.size - 1) s.size) c
    have e2 : decide ((s.extract (s.size - 1) s.size).data.toList = [c]) = decide (s.data.toList.getLast? = some c) := by
      rw [last_data s (by omega), ext_from, at_data s (s.size - 1) (by omega), drop_all s (s.size - 1 + 1) (by omega)]
      simp
    rw [e2] at e1
    generalize decide (s.data.toList.getLast? = some c) = B at *
    have g1 : (1 : Int) ≤ (s.size : Int) := by omega
    have g2 : (s.size : Int) - 1 = ((s.size - 1 : Nat) : Int) := by omega
    have hsl := fun w => slice_fromS s (s.size - 1) (by omega) hs w
    rw [← g2] at hsl
    generalize oneS c = p at *
    go_enter Tryz.func188, Tryz.ntmps188
    go_wp2_with fail
    go_ret
    exact ⟨by first | rfl | rw [e1], rfl⟩
  · have HR : Hid (decide (s.data.toList.getLast? = some c) = false) := Lib.hid (by
      have := drop_all s 0 (by omega)
      rw [List.drop_zero] at this
      rw [this]; rfl)
    rw [HR.out]
    have g1 : ¬ (1 : Int) ≤ (s.size : Int) := by omega
    generalize oneS c = p at *
    go_enter Tryz.func188, Tryz.ntmps188
    go_wp2_with fail
    go_ret
    exact ⟨rfl, rfl⟩
theorem suffix_any (s : ByteArray) (c : UInt8) (hs : s.size ≤ 140737488355328) (w : World) :
    Calls Tryz.prog 184 #[.string s, .string (oneS c)] w fun e w' => e = .returned (.bool (decide (s.data.toList.getLast? = some c))) ∧ w = w' := by
  have H := Lib.hid (suffix0_any s c hs w)
  generalize decide (s.data.toList.getLast? = some c) = B at *
  generalize oneS c = p at *
  go_enter Tryz.func184, Tryz.ntmps184
  go_wp2_with fail
  refine H.out.mono ?_
  rintro e w' ⟨rfl, rfl⟩
  go_wp2_with fail
  go_ret
  exact ⟨rfl, rfl⟩
end Go.Proofs.YtldllbmbcnipoabGreatDoor.Sp

namespace Go.Proofs.YtldllbmbcnipoabGreatDoor.Sp
open Go.RowKit
open Go.Proofs.YtldllbmbcnipoabGreatDoor.Tk (S S_of S_list S_size S_toList S_app ret_int eq8 ne8 at_data len_data)
open Go.Proofs.YtldllbmbcnipoabGreatDoor.Cm (calls_at)
open Go.Proofs.YtldllbmbcnipoabGreatDoor.Utf (chk goesAt goesAt_end goesAt_step nxt nx bt bt_eq ln zeroB)
set_option linter.unusedVariables false
theorem nxt_ascii (t : ByteArray) (k : Nat) (h : k < t.size) (hb : t[k].toNat ≤ 127) : (nxt t k).2 = 1 := by
  have h0 : bt t (k + 0) ≤ 127 := by rw [Nat.add_zero, bt_eq t k h]; exact hb
  have hl : ln (bt t (k + 0)) = 1 := by unfold ln; rw [if_pos h0]
  unfold nxt nx
  simp only []
  rw [hl]
  rw [if_neg (by omega), if_pos ⟨rfl, rfl⟩]
theorem goes_ascii (t : ByteArray) (h : ∀ k (hk : k < t.size), t[k].toNat ≤ 127) : ∀ n k, t.size - k ≤ n → goesAt t k = true
  | 0, k, hn => goesAt_end t k (by omega)
  | n + 1, k, hn => by
    by_cases hk : k < t.size
    · have h1 := nxt_ascii t k hk (h k hk)
      have h2 := goesAt_step t k hk (by omega)
      rw [h1] at h2
      rw [← h2]
      exact goes_ascii t h n (k + 1) (by omega)
    · exact goesAt_end t k (by omega)
theorem chk_ascii (t : ByteArray) (hs : t.size ≤ 1048576) (h : ∀ k (hk : k < t.size), 1 ≤ t[k].toNat ∧ t[k].toNat ≤ 127) : chk t = 0 := by
  have hz : zeroB t = false := by
    unfold zeroB
    apply decide_eq_false
    intro hm
    obtain ⟨i, hi, he⟩ := List.getElem_of_mem hm
    have hi' : i < t.size := by simpa using hi
    have e1 : t.data.toList[i] = t[i] := rfl
    have := (h i hi').1
    rw [← e1, he] at this
    simp at this
  unfold chk
  rw [if_neg (by omega), hz, goes_ascii t (fun k hk => (h k hk).2) t.size 0 (by omega)]
  rfl
theorem dc_range {c : UInt8} (h : dcB c = true) : 1 ≤ c.toNat ∧ c.toNat ≤ 127 := by
  unfold dcB at h
  rw [Bool.or_eq_true] at h
  rcases h with h | h
  · unfold alB at h
    simp only [Bool.or_eq_true, Bool.and_eq_true, decide_eq_true_eq] at h
    omega
  · simp only [marksL, List.any_cons, List.any_nil, Bool.or_eq_true, decide_eq_true_eq, Bool.or_false] at h
    rcases h with rfl | rfl | rfl | rfl | rfl | rfl | rfl | rfl | rfl <;> decide
theorem ck_nil : ckB [] = true := by decide +kernel
end Go.Proofs.YtldllbmbcnipoabGreatDoor.Sp

namespace Go.Proofs.YtldllbmbcnipoabGreatDoor.Sp
open Go.RowKit
open Go.Proofs.YtldllbmbcnipoabGreatDoor.Tk (S S_of S_list S_size S_toList S_app ret_int eq8 ne8 at_data len_data)
open Go.Proofs.YtldllbmbcnipoabGreatDoor.Cm (calls_at)
open Go.Proofs.YtldllbmbcnipoabGreatDoor.Utf (chk)
set_option linter.unusedVariables false
theorem beq_dec (x y : Int) : (x == y) = decide (x = y) := by rw [Bool.eq_iff_iff, beq_iff_eq, decide_eq_true_iff]
theorem check_row (t : ByteArray) (w : World) (hs : t.size ≤ 140737488355328) :
    Calls Tryz.prog 134 #[.slice (some ⟨w.heap.size, 0, none⟩) t.size (grownCap w t.size 0 5)] (w.alloc (Obj.cells (bytesRow t (grownCap w t.size 0 5)) 5 ((bytesRow t (grownCap w t.size 0 5)).size, (bytesRow t (grownCap w t.size 0 5)).size + 1))).drew
      fun e w' => e = .returned (.int .i64 (chk t)) ∧ Below w.heap.size w w' := by
  have hB : Lib.Bytes (w.alloc (Obj.cells (bytesRow t (grownCap w t.size 0 5)) 5 ((bytesRow t (grownCap w t.size 0 5)).size, (bytesRow t (grownCap w t.size 0 5)).size + 1))).drew w.heap.size 0 t := Go.Proofs.YtldllbmbcnipoabGreatDoor.Utf.bytes_row w t _ _ _
  refine (Go.Proofs.YtldllbmbcnipoabGreatDoor.Utf.check_any t _ _ _ hB (by unfold maxLen; omega)).mono ?_
  rintro e w3 ⟨rfl, rfl⟩
  exact ⟨rfl, ((Below.refl _ _).alloc (Nat.le_refl _) _).drew⟩
def ctB (s : ByteArray) : Bool := decide (chk s = 0)
theorem ckB_S (s : List UInt8) : ckB s = ctB (S s) := rfl
theorem isText_any (s : ByteArray) (hs : s.size ≤ 140737488355328) (w : World) :
    Calls Tryz.prog 116 #[.string s] w (OkAns w (ctB s)) := by
  have hca := fun (w : World) (t : ByteArray) => run_bytes_of_string (P := Tryz.prog) w 9 40 5 t Tryz.underlying9 Tryz.underlying40 Tryz.underlying5
  have HC := Lib.hid (check_row s w hs)
  have HR : Hid ((chk s == 0) = ctB s) := Lib.hid (beq_dec _ _)
  generalize chk s = c at *
  go_enter Tryz.func116, Tryz.ntmps116
  go_wp2_with fail
  refine HC.out.mono ?_
  rintro e w2 ⟨rfl, hb⟩
  have HB := Lib.hid hb
  clear hb HC hca
  go_wp2_with fail
  go_ret
  exact ⟨ret_bool HR.out, HB.out⟩
theorem cls_two (b : UInt8) (h : b ≠ 10) : (Tk.clsI (b.toNat : Int) == 2) = edB b := by
  rw [beq_dec, Bool.eq_iff_iff, decide_eq_true_iff]
  unfold edB spB Tk.clsI
  have h10 : (b.toNat : Int) ≠ 10 := fun e => h (UInt8.toNat_inj.1 (by simpa using (by omega : b.toNat = 10)))
  by_cases h32 : b = 32
  · subst h32; decide
  · by_cases h9 : b = 9
    · subst h9; decide
    · have e32 : (b.toNat : Int) ≠ 32 := fun e => h32 (UInt8.toNat_inj.1 (by simpa using (by omega : b.toNat = 32)))
      have e9 : (b.toNat : Int) ≠ 9 := fun e => h9 (UInt8.toNat_inj.1 (by simpa using (by omega : b.toNat = 9)))
      rw [decide_eq_false h32, decide_eq_false h9, decide_eq_false h]
      constructor
      · intro hx
        split at hx
        · omega
        · split at hx
          · omega
          · split at hx <;> omega
      · intro hx; simp at hx
theorem gap_any (b : UInt8) (w : World) :
    Calls Tryz.prog 129 #[.int .u8 b.toNat] w fun e w' => e = .returned (.bool (edB b)) ∧ w = w' := by
  by_cases h : b = 10
  · subst h
    go_enter Tryz.func129, Tryz.ntmps129
    go_wp2_with fail
    go_ret
    exact ⟨rfl, rfl⟩
  · have e1 : ((b.toNat : Int) == 10) = false := ne8 (b := 10) h
    have HC := Lib.hid (Tk.class_any b.toNat w)
    have HR := Lib.hid (cls_two b h)
    have h256 : b.toNat < 256 := b.toNat_lt
    clear h
    generalize Tk.clsI (b.toNat : Int) = c at *
    go_enter Tryz.func129, Tryz.ntmps129
    go_wp2_with fail
    refine HC.out.mono ?_
    rintro e w2 ⟨rfl, rfl⟩
    clear HC
    go_wp2_with fail
    go_ret
    exact ⟨ret_bool HR.out, rfl⟩
theorem marks_find (c : UInt8) : decide (0 ≤ Lib.indexByte marksL c) = marksL.any (fun b => decide (c = b)) := by
  rw [← Lib.contains_iff_indexByte, Bool.eq_iff_iff, List.contains_iff_mem, List.any_eq_true]
  constructor
  · intro h; exact ⟨c, h, by simp⟩
  · rintro ⟨x, hx, he⟩
    have e : c = x := by simpa using he
    rw [e]; exact hx
set_option maxHeartbeats 1600000 in
theorem inDest_any (c : UInt8) (w : World) :
    Calls Tryz.prog 117 #[.int .u8 c.toNat] w fun e w' => e = .returned (.bool (dcB c)) ∧ w = w' := by
  have HI := Lib.hid (Tryz.strings_IndexByte ⟨#[46, 47, 95, 45, 35, 63, 38, 58, 37]⟩ (c.toNat : Int) w)
  have hback : ((c.toNat : Int)).toNat.toUInt8 = c := by simp
  have hm : (⟨#[46, 47, 95, 45, 35, 63, 38, 58, 37]⟩ : ByteArray).data.toList = marksL := rfl
  rw [hback, hm] at HI
  have HX : Hid (dcB c = (alB c || decide (0 ≤ Lib.indexByte marksL c))) := Lib.hid (by rw [marks_find]; rfl)
  have HA : Hid (alB c = ((decide (97 ≤ (c.toNat : Int)) && decide ((c.toNat : Int) ≤ 122)) || (decide (65 ≤ (c.toNat : Int)) && decide ((c.toNat : Int) ≤ 90)) || (decide (48 ≤ (c.toNat : Int)) && decide ((c.toNat : Int) ≤ 57)))) := Lib.hid rfl
  obtain ⟨X, hX⟩ : ∃ X, dcB c = X := ⟨_, rfl⟩
  rw [hX] at HX
  rw [hX]
  clear hX hback hm
  generalize alB c = al at *
  generalize Lib.indexByte marksL c = ix at *
  generalize (c.toNat : Int) = n at *
  rcases (show n < 48 ∨ (48 ≤ n ∧ n ≤ 57) ∨ (57 < n ∧ n < 65) ∨ (65 ≤ n ∧ n ≤ 90) ∨ (90 < n ∧ n < 97) ∨ (97 ≤ n ∧ n ≤ 122) ∨ 122 < n by omega) with h | h | h | h | h | h | h
  · have HR : Hid (X = decide (0 ≤ ix)) := Lib.hid (by rw [HX.out, HA.out, decide_eq_false (show ¬ 97 ≤ n by omega), decide_eq_false (show ¬ 65 ≤ n by omega), decide_eq_false (show ¬ 48 ≤ n by omega)]; simp)
    clear HX HA
    go_enter Tryz.func117, Tryz.ntmps117
    go_wp2_with fail
    refine HI.out.mono ?_
    rintro e w2 ⟨rfl, rfl⟩
    clear HI
    go_wp2_with fail
    go_ret
    exact ⟨ret_bool HR.out.symm, rfl⟩
  · have HR : Hid (X = true) := Lib.hid (by rw [HX.out, HA.out, decide_eq_true h.1, decide_eq_true h.2]; simp)
    clear HX HA
    go_enter Tryz.func117, Tryz.ntmps117
    go_wp2_with fail
    go_ret
    exact ⟨ret_bool HR.out.symm, rfl⟩
  · have HR : Hid (X = decide (0 ≤ ix)) := Lib.hid (by rw [HX.out, HA.out, decide_eq_false (show ¬ 97 ≤ n by omega), decide_eq_false (show ¬ 65 ≤ n by omega), decide_eq_false (show ¬ n ≤ 57 by omega)]; simp)
    clear HX HA
    go_enter Tryz.func117, Tryz.ntmps117
    go_wp2_with fail
    refine HI.out.mono ?_
    rintro e w2 ⟨rfl, rfl⟩
    clear HI
    go_wp2_with fail
    go_ret
    exact ⟨ret_bool HR.out.symm, rfl⟩
  · have HR : Hid (X = true) := Lib.hid (by rw [HX.out, HA.out, decide_eq_true h.1, decide_eq_true h.2]; simp)
    clear HX HA
    go_enter Tryz.func117, Tryz.ntmps117
    go_wp2_with fail
    go_ret
    exact ⟨ret_bool HR.out.symm, rfl⟩
  · have HR : Hid (X = decide (0 ≤ ix)) := Lib.hid (by rw [HX.out, HA.out, decide_eq_false (show ¬ 97 ≤ n by omega), decide_eq_false (show ¬ n ≤ 90 by omega), decide_eq_false (show ¬ n ≤ 57 by omega)]; simp)
    clear HX HA
    go_enter Tryz.func117, Tryz.ntmps117
    go_wp2_with fail
    refine HI.out.mono ?_
    rintro e w2 ⟨rfl, rfl⟩
    clear HI
    go_wp2_with fail
    go_ret
    exact ⟨ret_bool HR.out.symm, rfl⟩
  · have HR : Hid (X = true) := Lib.hid (by rw [HX.out, HA.out, decide_eq_true h.1, decide_eq_true h.2]; simp)
    clear HX HA
    go_enter Tryz.func117, Tryz.ntmps117
    go_wp2_with fail
    go_ret
    exact ⟨ret_bool HR.out.symm, rfl⟩
  · have HR : Hid (X = decide (0 ≤ ix)) := Lib.hid (by rw [HX.out, HA.out, decide_eq_false (show ¬ n ≤ 122 by omega), decide_eq_false (show ¬ n ≤ 90 by omega), decide_eq_false (show ¬ n ≤ 57 by omega)]; simp)
    clear HX HA
    go_enter Tryz.func117, Tryz.ntmps117
    go_wp2_with fail
    refine HI.out.mono ?_
    rintro e w2 ⟨rfl, rfl⟩
    clear HI
    go_wp2_with fail
    go_ret
    exact ⟨ret_bool HR.out.symm, rfl⟩
theorem destP_any (s : ByteArray) (hs : s.size ≤ 140737488355328) (w : World) :
    Calls Tryz.prog 89 #[.string s] w (OkAns w (ctB s && dsB s.data.toList)) := by
  have HT := Lib.hid (isText_any s hs w)
  have HI := Lib.hid (fun c w => inDest_any c w)
  have HEm : Hid ((s.toList == ([] : List UInt8)) = s.data.toList.isEmpty) := Lib.hid (by rw [Lib.toList_data]; cases s.data.toList <;> rfl)
  have HX : Hid ((ctB s && dsB s.data.toList) = (ctB s && ((s.data.toList.drop 0).all dcB && !s.data.toList.isEmpty))) := Lib.hid (by rw [List.drop_zero]; rfl)
  obtain ⟨X, hX⟩ : ∃ X, (ctB s && dsB s.data.toList) = X := ⟨_, rfl⟩
  obtain ⟨ne, hne⟩ : ∃ ne, s.data.toList.isEmpty = ne := ⟨_, rfl⟩
  rw [hX, hne] at HX
  rw [hne] at HEm
  rw [hX]
  clear hX hne
  cases ne with
  | true =>
    have em := HEm.out
    have HR : Hid (X = false) := Lib.hid (by rw [HX.out]; simp)
    clear HX HEm HT HI
    go_enter Tryz.func89, Tryz.ntmps89
    go_wp2_with fail
    go_ret
    exact ⟨ret_bool HR.out.symm, Below.refl _ _⟩
  | false =>
    have em := HEm.out
    clear HEm
    cases hct : ctB s with
    | false =>
      rw [hct] at HT HX
      have HR : Hid (X = false) := Lib.hid (by rw [HX.out]; simp)
      clear HX HI hct
      go_enter Tryz.func89, Tryz.ntmps89
      go_wp2_with fail
      refine HT.out.mono ?_
      rintro e w2 ⟨rfl, hb⟩
      have HB := Lib.hid hb
      clear hb HT
      go_wp2_with fail
      go_ret
      exact ⟨ret_bool HR.out.symm, HB.out⟩
    | true =>
      rw [hct] at HT HX
      have H0 : Hid (X = (s.data.toList.drop 0).all dcB) := Lib.hid (by rw [HX.out]; simp)
      clear HX hct
      go_enter Tryz.func89, Tryz.ntmps89
      go_wp2_with fail
      refine HT.out.mono ?_
      rintro e w2 ⟨rfl, hb⟩
      have HB := Lib.hid hb
      clear hb HT
      go_wp2_with fail
      go_loop [13] (fun i => ∃ k : Nat, k ≤ s.size ∧ i = .int .i64 k ∧ Hid (X = (s.data.toList.drop k).all dcB)) (fun i => s.size - (intOf i).toNat)
      case atStart => exact ⟨0, Nat.zero_le _, rfl, H0⟩
      case round =>
        clear H0
        obtain ⟨k, hk, rfl, HN⟩ := hrel
        by_cases hlt : k < s.size
        · have hnx := HN.out
          rw [at_data s k hlt, List.all_cons] at hnx
          have hi1 : (k : Int) < (s.size : Int) := by omega
          have HD := Lib.hid (HI.out s[k] w2)
          cases hd : dcB s[k] with
          | true =>
            rw [hd] at HD hnx
            have HR : Hid (X = (s.data.toList.drop (k + 1)).all dcB) := Lib.hid (by rw [hnx]; rfl)
            clear hnx HN hd
            go_wp2_with fail
            refine HD.out.mono ?_
            rintro e w3 ⟨rfl, rfl⟩
            clear HD
            go_wp2_with fail
            go_round
            case rel => exact ⟨k + 1, by omega, by go_num, HR⟩
            case measure => simp [intOf]; omega
          | false =>
            rw [hd] at HD hnx
            have HR : Hid (X = false) := Lib.hid (by rw [hnx]; rfl)
            clear hnx HN hd
            go_wp2_with fail
            refine HD.out.mono ?_
            rintro e w3 ⟨rfl, rfl⟩
            clear HD
            go_wp2_with fail
            go_ret
            exact ⟨ret_bool HR.out.symm, HB.out⟩
        · obtain rfl : k = s.size := by omega
          have hnx := HN.out
          rw [drop_all s _ hlt] at hnx
          have HR : Hid (X = true) := Lib.hid (by rw [hnx]; rfl)
          clear hnx HN hlt
          go_wp2_with fail
          go_ret
          exact ⟨ret_bool HR.out.symm, HB.out⟩
end Go.Proofs.YtldllbmbcnipoabGreatDoor.Sp

namespace Go.Proofs.YtldllbmbcnipoabGreatDoor.Sp
open Go.RowKit
open Go.Proofs.YtldllbmbcnipoabGreatDoor.Tk (S S_of S_list S_size S_toList S_app ret_int eq8 ne8 at_data len_data drop_all)
set_option linter.unusedVariables false
theorem dw_nil_iff {α : Type} (p : α → Bool) : ∀ l : List α, l.dropWhile p = [] ↔ ∀ x ∈ l, p x = true
  | [] => by simp
  | x :: r => by
    rw [List.dropWhile_cons]
    by_cases h : p x = true
    · rw [if_pos h, dw_nil_iff p r]
      simp [h]
    · rw [if_neg h]
      simp [h]
theorem trimB_nil (l : List UInt8) : (Lib.trimB l 32 = []) ↔ onlySp l = true := by
  unfold Lib.trimB Lib.trimLeftB Lib.trimRightB onlySp
  rw [dw_nil_iff, List.all_eq_true]
  constructor
  · intro h
    by_cases hn : l.reverse.dropWhile (· == 32) = []
    · rw [dw_nil_iff] at hn
      intro x hx
      exact hn x (List.mem_reverse.2 hx)
    · exfalso
      have := List.head_dropWhile_not (p := (· == (32 : UInt8))) (l := l.reverse) hn
      have hm := h _ (List.mem_reverse.2 (List.head_mem hn))
      rw [hm] at this
      cases this
  · intro h x hx
    have hx := List.mem_reverse.1 hx
    exact h x (List.mem_reverse.1 ((List.dropWhile_sublist _).subset hx))
theorem trim_bne (s : ByteArray) : ((⟨(Lib.trimB s.data.toList 32).toArray⟩ : ByteArray).toList != ([] : List UInt8)) = !onlySp s.data.toList := by
  rw [Lib.toList_data]
  have e : (⟨(Lib.trimB s.data.toList 32).toArray⟩ : ByteArray).data.toList = Lib.trimB s.data.toList 32 := rfl
  rw [e, Bool.eq_iff_iff, bne_iff_ne, ne_eq, trimB_nil]
  simp
end Go.Proofs.YtldllbmbcnipoabGreatDoor.Sp
