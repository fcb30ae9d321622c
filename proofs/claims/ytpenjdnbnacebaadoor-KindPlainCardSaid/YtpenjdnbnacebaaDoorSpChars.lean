/-
  CONTRACTS of the program's isText, gap, inDest and Dest (span).
-/
import Derived.Test.YtpenjdnbnacebaaDoorSpWrapsWalk
import Derived.Test.YtpenjdnbnacebaaDoorTkClass
import Derived.Test.YtpenjdnbnacebaaDoorShelf
import Derived.Lib.IndexAny
namespace Go.Proofs.YtpenjdnbnacebaaDoor.Sp
open Go.RowKit
open Go.Proofs.YtpenjdnbnacebaaDoor.Tk (S S_of S_list S_size S_toList S_app ret_int eq8 ne8 at_data len_data)
open Go.Proofs.YtpenjdnbnacebaaDoor.Cm (calls_at)
open Go.Proofs.YtpenjdnbnacebaaDoor.Utf (chk)
set_option linter.unusedVariables false

theorem beq_dec (x y : Int) : (x == y) = decide (x = y) := by rw [Bool.eq_iff_iff, beq_iff_eq, decide_eq_true_iff]

theorem check_row (t : ByteArray) (w : World) (hs : t.size ≤ 140737488355328) :
    Calls Tryd.prog 84 #[.slice (some ⟨w.heap.size, 0, none⟩) t.size (grownCap w t.size 0 5)] (w.alloc (Obj.cells (bytesRow t (grownCap w t.size 0 5)) 5 ((bytesRow t (grownCap w t.size 0 5)).size, (bytesRow t (grownCap w t.size 0 5)).size + 1))).drew
      fun e w' => e = .returned (.int .i64 (chk t)) ∧ Below w.heap.size w w' := by
  have hB : Lib.Bytes (w.alloc (Obj.cells (bytesRow t (grownCap w t.size 0 5)) 5 ((bytesRow t (grownCap w t.size 0 5)).size, (bytesRow t (grownCap w t.size 0 5)).size + 1))).drew w.heap.size 0 t := Go.Proofs.YtpenjdnbnacebaaDoor.Utf.bytes_row w t _ _ _
  refine (Go.Proofs.YtpenjdnbnacebaaDoor.Utf.check_any t _ _ _ hB (by unfold maxLen; omega)).mono ?_
  rintro e w3 ⟨rfl, rfl⟩
  exact ⟨rfl, ((Below.refl _ _).alloc (Nat.le_refl _) _).drew⟩

/-- Is a string a text? -/
def ctB (s : ByteArray) : Bool := decide (chk s = 0)
theorem ckB_S (s : List UInt8) : ckB s = ctB (S s) := rfl
theorem isText_any (s : ByteArray) (hs : s.size ≤ 140737488355328) (w : World) :
    Calls Tryd.prog 66 #[.string s] w (OkAns w (ctB s)) := by
  have hca := fun (w : World) (t : ByteArray) => run_bytes_of_string (P := Tryd.prog) w 9 41 5 t Tryd.underlying9 Tryd.underlying41 Tryd.underlying5
  have HC := Lib.hid (check_row s w hs)
  have HR : Hid ((chk s == 0) = ctB s) := Lib.hid (beq_dec _ _)
  generalize chk s = c at *
  go_enter Tryd.func66, Tryd.ntmps66
  go_wp2_with fail
  refine HC.out.mono ?_
  rintro e w2 ⟨rfl, hb⟩
  have HB := Lib.hid hb
  clear hb HC hca
  go_wp2_with fail
  go_ret
  exact ⟨ret_bool HR.out, HB.out⟩

theorem cls_two (b : UInt8) (h : b ≠ 10) : (Tk.clsI (b.toNat : Int) == 2) = edB b := by
  rw [beq_dec, Bool.eq_iff_iff, decide_eq_true_iff]
  unfold edB spB Tk.clsI
  have h10 : (b.toNat : Int) ≠ 10 := fun e => h (UInt8.toNat_inj.1 (by simpa using (by omega : b.toNat = 10)))
  by_cases h32 : b = 32
  · subst h32; decide
  · by_cases h9 : b = 9
    · subst h9; decide
    · have e32 : (b.toNat : Int) ≠ 32 := fun e => h32 (UInt8.toNat_inj.1 (by simpa using (by omega : b.toNat = 32)))
      have e9 : (b.toNat : Int) ≠ 9 := fun e => h9 (UInt8.toNat_inj.1 (by simpa using (by omega : b.toNat = 9)))
      rw [decide_eq_false h32, decide_eq_false h9, decide_eq_false h]
      constructor
      · intro hx
        split at hx
        · omega
        · split at hx
          · omega
          · split at hx <;> omega
      · intro hx; simp at hx
theorem marks_find (c : UInt8) : decide (0 ≤ Lib.indexByte marksL c) = marksL.any (fun b => decide (c = b)) := by
  rw [← Lib.contains_iff_indexByte, Bool.eq_iff_iff, List.contains_iff_mem, List.any_eq_true]
  constructor
  · intro h; exact ⟨c, h, by simp⟩
  · rintro ⟨x, hx, he⟩
    have e : c = x := by simpa using he
    rw [e]; exact hx
set_option maxHeartbeats 1600000 in
theorem inDest_any (c : UInt8) (w : World) :
    Calls Tryd.prog 67 #[.int .u8 c.toNat] w fun e w' => e = .returned (.bool (dcB c)) ∧ w = w' := by
  have HI := Lib.hid (Tryd.strings_IndexByte ⟨#[46, 47, 95, 45, 35, 63, 38, 58, 37]⟩ (c.toNat : Int) w)
  have hback : ((c.toNat : Int)).toNat.toUInt8 = c := by simp
  have hm : (⟨#[46, 47, 95, 45, 35, 63, 38, 58, 37]⟩ : ByteArray).data.toList = marksL := rfl
  rw [hback, hm] at HI
  have HX : Hid (dcB c = (alB c || decide (0 ≤ Lib.indexByte marksL c))) := Lib.hid (by rw [marks_find]; rfl)
  have HA : Hid (alB c = ((decide (97 ≤ (c.toNat : Int)) && decide ((c.toNat : Int) ≤ 122)) || (decide (65 ≤ (c.toNat : Int)) && decide ((c.toNat : Int) ≤ 90)) || (decide (48 ≤ (c.toNat : Int)) && decide ((c.toNat : Int) ≤ 57)))) := Lib.hid rfl
  obtain ⟨X, hX⟩ : ∃ X, dcB c = X := ⟨_, rfl⟩
  rw [hX] at HX
  rw [hX]
  clear hX hback hm
  generalize alB c = al at *
  generalize Lib.indexByte marksL c = ix at *
  generalize (c.toNat : Int) = n at *
  rcases (show n < 48 ∨ (48 ≤ n ∧ n ≤ 57) ∨ (57 < n ∧ n < 65) ∨ (65 ≤ n ∧ n ≤ 90) ∨ (90 < n ∧ n < 97) ∨ (97 ≤ n ∧ n ≤ 122) ∨ 122 < n by omega) with h | h | h | h | h | h | h
  · have HR : Hid (X = decide (0 ≤ ix)) := Lib.hid (by rw [HX.out, HA.out, decide_eq_false (show ¬ 97 ≤ n by omega), decide_eq_false (show ¬ 65 ≤ n by omega), decide_eq_false (show ¬ 48 ≤ n by omega)]; simp)
    clear HX HA
    go_enter Tryd.func67, Tryd.ntmps67
    go_wp2_with fail
    refine HI.out.mono ?_
    rintro e w2 ⟨rfl, rfl⟩
    clear HI
    go_wp2_with fail
    go_ret
    exact ⟨ret_bool HR.out.symm, rfl⟩
  · have HR : Hid (X = true) := Lib.hid (by rw [HX.out, HA.out, decide_eq_true h.1, decide_eq_true h.2]; simp)
    clear HX HA
    go_enter Tryd.func67, Tryd.ntmps67
    go_wp2_with fail
    go_ret
    exact ⟨ret_bool HR.out.symm, rfl⟩
  · have HR : Hid (X = decide (0 ≤ ix)) := Lib.hid (by rw [HX.out, HA.out, decide_eq_false (show ¬ 97 ≤ n by omega), decide_eq_false (show ¬ 65 ≤ n by omega), decide_eq_false (show ¬ n ≤ 57 by omega)]; simp)
    clear HX HA
    go_enter Tryd.func67, Tryd.ntmps67
    go_wp2_with fail
    refine HI.out.mono ?_
    rintro e w2 ⟨rfl, rfl⟩
    clear HI
    go_wp2_with fail
    go_ret
    exact ⟨ret_bool HR.out.symm, rfl⟩
  · have HR : Hid (X = true) := Lib.hid (by rw [HX.out, HA.out, decide_eq_true h.1, decide_eq_true h.2]; simp)
    clear HX HA
    go_enter Tryd.func67, Tryd.ntmps67
    go_wp2_with fail
    go_ret
    exact ⟨ret_bool HR.out.symm, rfl⟩
  · have HR : Hid (X = decide (0 ≤ ix)) := Lib.hid (by rw [HX.out, HA.out, decide_eq_false (show ¬ 97 ≤ n by omega), decide_eq_false (show ¬ n ≤ 90 by omega), decide_eq_false (show ¬ n ≤ 57 by omega)]; simp)
    clear HX HA
    go_enter Tryd.func67, Tryd.ntmps67
    go_wp2_with fail
    refine HI.out.mono ?_
    rintro e w2 ⟨rfl, rfl⟩
    clear HI
    go_wp2_with fail
    go_ret
    exact ⟨ret_bool HR.out.symm, rfl⟩
  · have HR : Hid (X = true) := Lib.hid (by rw [HX.out, HA.out, decide_eq_true h.1, decide_eq_true h.2]; simp)
    clear HX HA
    go_enter Tryd.func67, Tryd.ntmps67
    go_wp2_with fail
    go_ret
    exact ⟨ret_bool HR.out.symm, rfl⟩
  · have HR : Hid (X = decide (0 ≤ ix)) := Lib.hid (by rw [HX.out, HA.out, decide_eq_false (show ¬ n ≤ 122 by omega), decide_eq_false (show ¬ n ≤ 90 by omega), decide_eq_false (show ¬ n ≤ 57 by omega)]; simp)
    clear HX HA
    go_enter Tryd.func67, Tryd.ntmps67
    go_wp2_with fail
    refine HI.out.mono ?_
    rintro e w2 ⟨rfl, rfl⟩
    clear HI
    go_wp2_with fail
    go_ret
    exact ⟨ret_bool HR.out.symm, rfl⟩

/-- Where a link can go, at any length. -/
theorem destP_any (s : ByteArray) (hs : s.size ≤ 140737488355328) (w : World) :
    Calls Tryd.prog 54 #[.string s] w (OkAns w (ctB s && dsB s.data.toList)) := by
  have HT := Lib.hid (isText_any s hs w)
  have HI := Lib.hid (fun c w => inDest_any c w)
  have HEm : Hid ((s.toList == ([] : List UInt8)) = s.data.toList.isEmpty) := Lib.hid (by rw [Lib.toList_data]; cases s.data.toList <;> rfl)
  have HX : Hid ((ctB s && dsB s.data.toList) = (ctB s && ((s.data.toList.drop 0).all dcB && !s.data.toList.isEmpty))) := Lib.hid (by rw [List.drop_zero]; rfl)
  obtain ⟨X, hX⟩ : ∃ X, (ctB s && dsB s.data.toList) = X := ⟨_, rfl⟩
  obtain ⟨ne, hne⟩ : ∃ ne, s.data.toList.isEmpty = ne := ⟨_, rfl⟩
  rw [hX, hne] at HX
  rw [hne] at HEm
  rw [hX]
  clear hX hne
  cases ne with
  | true =>
    have em := HEm.out
    have HR : Hid (X = false) := Lib.hid (by rw [HX.out]; simp)
    clear HX HEm HT HI
    go_enter Tryd.func54, Tryd.ntmps54
    go_wp2_with fail
    go_ret
    exact ⟨ret_bool HR.out.symm, Below.refl _ _⟩
  | false =>
    have em := HEm.out
    clear HEm
    cases hct : ctB s with
    | false =>
      rw [hct] at HT HX
      have HR : Hid (X = false) := Lib.hid (by rw [HX.out]; simp)
      clear HX HI hct
      go_enter Tryd.func54, Tryd.ntmps54
      go_wp2_with fail
      refine HT.out.mono ?_
      rintro e w2 ⟨rfl, hb⟩
      have HB := Lib.hid hb
      clear hb HT
      go_wp2_with fail
      go_ret
      exact ⟨ret_bool HR.out.symm, HB.out⟩
    | true =>
      rw [hct] at HT HX
      have H0 : Hid (X = (s.data.toList.drop 0).all dcB) := Lib.hid (by rw [HX.out]; simp)
      clear HX hct
      go_enter Tryd.func54, Tryd.ntmps54
      go_wp2_with fail
      refine HT.out.mono ?_
      rintro e w2 ⟨rfl, hb⟩
      have HB := Lib.hid hb
      clear hb HT
      go_wp2_with fail
      go_loop [13] (fun i => ∃ k : Nat, k ≤ s.size ∧ i = .int .i64 k ∧ Hid (X = (s.data.toList.drop k).all dcB)) (fun i => s.size - (intOf i).toNat)
      case atStart => exact ⟨0, Nat.zero_le _, rfl, H0⟩
      case round =>
        clear H0
        obtain ⟨k, hk, rfl, HN⟩ := hrel
        by_cases hlt : k < s.size
        · have hnx := HN.out
          rw [at_data s k hlt, List.all_cons] at hnx
          have hi1 : (k : Int) < (s.size : Int) := by omega
          have HD := Lib.hid (HI.out s[k] w2)
          cases hd : dcB s[k] with
          | true =>
            rw [hd] at HD hnx
            have HR : Hid (X = (s.data.toList.drop (k + 1)).all dcB) := Lib.hid (by rw [hnx]; rfl)
            clear hnx HN hd
            go_wp2_with fail
            refine HD.out.mono ?_
            rintro e w3 ⟨rfl, rfl⟩
            clear HD
            go_wp2_with fail
            go_round
            case rel => exact ⟨k + 1, by omega, by go_num, HR⟩
            case measure => simp [intOf]; omega
          | false =>
            rw [hd] at HD hnx
            have HR : Hid (X = false) := Lib.hid (by rw [hnx]; rfl)
            clear hnx HN hd
            go_wp2_with fail
            refine HD.out.mono ?_
            rintro e w3 ⟨rfl, rfl⟩
            clear HD
            go_wp2_with fail
            go_ret
            exact ⟨ret_bool HR.out.symm, HB.out⟩
        · obtain rfl : k = s.size := by omega
          have hnx := HN.out
          rw [drop_all s _ hlt] at hnx
          have HR : Hid (X = true) := Lib.hid (by rw [hnx]; rfl)
          clear hnx HN hlt
          go_wp2_with fail
          go_ret
          exact ⟨ret_bool HR.out.symm, HB.out⟩

theorem dest_text {s : List UInt8} (h : dsB s = true) (hs : s.length ≤ 1000000) : ckB s = true := by
  unfold ckB
  refine decide_eq_true (chk_ascii (S s) (by rw [S_size]; omega) (fun k hk => ?_))
  unfold dsB at h
  rw [Bool.and_eq_true, List.all_eq_true] at h
  apply dc_range
  apply h.1
  have := at_data (S s) k hk
  rw [S_list] at this
  have hm : (S s)[k] ∈ s.drop k := by rw [this]; exact List.mem_cons_self ..
  exact List.mem_of_mem_drop hm
theorem destP_short (s : ByteArray) (hs : s.size ≤ 1000000) (w : World) :
    Calls Tryd.prog 54 #[.string s] w (OkAns w (dsB s.data.toList)) := by
  have h := destP_any s (by omega) w
  have e : (ctB s && dsB s.data.toList) = dsB s.data.toList := by
    cases hd : dsB s.data.toList with
    | false => rw [Bool.and_false]
    | true =>
      have := dest_text hd (by rw [len_data]; exact hs)
      rw [ckB_S, S_of] at this
      rw [this]; rfl
  rwa [e] at h

end Go.Proofs.YtpenjdnbnacebaaDoor.Sp
