import Derived.Test.YtldllbmbcnipoabGreatDoorPkWG
import Derived.Test.YtldllbmbcnipoabGreatDoorSpAnyOf
import Derived.Test.YtldllbmbcnipoabGreatDoorPkWV
namespace Go.Proofs.YtldllbmbcnipoabGreatDoor.Bt
open Go.RowKit
open Go.Proofs.YtldllbmbcnipoabGreatDoor.Tk (S S_of S_list S_size S_toList S_app ret_int eq8 ne8 at_data len_data Rd get_lt)
open Go.Proofs.YtldllbmbcnipoabGreatDoor.Sp (hsB spB ret_bool OkAns Chs containsO_any any_mem has_mem check_row beq_dec dsB ctB ckB_S destP_any)
open Go.Proofs.YtldllbmbcnipoabGreatDoor.Utf (chk)
set_option linter.unusedVariables false
def lfcr : ByteArray := ⟨#[10, 13]⟩
theorem lfcr_chs : Chs lfcr := ⟨by decide, by decide, by decide⟩
theorem lfcr_has (s : List UInt8) : Lib.containsAny s lfcr.data.toList = (hsB 10 s || hsB 13 s) := by
  rw [Bool.eq_iff_iff, any_mem, Bool.or_eq_true, has_mem, has_mem]
  constructor
  · rintro ⟨b, hb, hc⟩
    have : b = 10 ∨ b = 13 := by simpa [lfcr] using hc
    rcases this with rfl | rfl
    · exact Or.inl hb
    · exact Or.inr hb
  · rintro (h | h)
    · exact ⟨10, h, by decide⟩
    · exact ⟨13, h, by decide⟩
def brk : ByteArray := ⟨#[91, 93, 92]⟩
theorem brk_chs : Chs brk := ⟨by decide, by decide, by decide⟩
theorem brk_has (s : List UInt8) : Lib.containsAny s brk.data.toList = (hsB 91 s || hsB 93 s || hsB 92 s) := by
  rw [Bool.eq_iff_iff, any_mem, Bool.or_eq_true, Bool.or_eq_true, has_mem, has_mem, has_mem]
  constructor
  · rintro ⟨b, hb, hc⟩
    have : b = 91 ∨ b = 93 ∨ b = 92 := by simpa [brk] using hc
    rcases this with rfl | rfl | rfl
    · exact Or.inl (Or.inl hb)
    · exact Or.inl (Or.inr hb)
    · exact Or.inr hb
  · rintro ((h | h) | h)
    · exact ⟨91, h, by decide⟩
    · exact ⟨93, h, by decide⟩
    · exact ⟨92, h, by decide⟩
theorem isLineP_any (s : ByteArray) (hs : s.size ≤ 140737488355328) (w : World) :
    Calls Tryz.prog 112 #[.string s] w (OkAns w (lineB s.data.toList)) := by
  have hca := fun (w : World) (t : ByteArray) => run_bytes_of_string (P := Tryz.prog) w 9 40 5 t Tryz.underlying9 Tryz.underlying40 Tryz.underlying5
  have HA := Lib.hid (containsO_any lfcr lfcr_chs s hs w)
  rw [lfcr_has] at HA
  have hE : (⟨#[10, 13]⟩ : ByteArray) = lfcr := rfl
  have HC := Lib.hid (fun w' => check_row s w' hs)
  have HX : Hid (lineB s.data.toList = ((chk s == 0) && !(hsB 10 s.data.toList || hsB 13 s.data.toList))) := Lib.hid (by unfold lineB ckB; rw [S_of, beq_dec, Bool.not_or, Bool.and_assoc])
  rw [← hE] at HA
  generalize chk s = c at *
  obtain ⟨X, hX⟩ : ∃ X, lineB s.data.toList = X := ⟨_, rfl⟩
  rw [hX] at HX ⊢
  clear hX hE
  generalize (hsB 10 s.data.toList || hsB 13 s.data.toList) = y at *
  go_enter Tryz.func112, Tryz.ntmps112
  go_wp2_with fail
  refine HA.out.mono ?_
  rintro e w2 ⟨rfl, b2⟩
  have HB2 := Lib.hid b2
  have HC2 := Lib.hid (HC.out w2)
  clear HA HC b2
  cases y with
  | true =>
    have HR : Hid (X = false) := Lib.hid (by rw [HX.out]; simp)
    go_wp2_with fail
    go_ret
    exact ⟨ret_bool HR.out.symm, HB2.out⟩
  | false =>
    have HR : Hid (X = (c == 0)) := Lib.hid (by rw [HX.out]; simp)
    go_wp2_with fail
    refine HC2.out.mono ?_
    rintro e w3 ⟨rfl, b3⟩
    have HB3 := Lib.hid (HB2.out.trans (b3.mono HB2.out.size))
    clear HC2 b3 hca
    go_wp2_with fail
    go_ret
    exact ⟨ret_bool HR.out.symm, HB3.out⟩
theorem gap_sp (b : UInt8) : Ln.gapB b = spB b := by
  unfold Ln.gapB spB
  rw [Bool.eq_iff_iff]
  simp
theorem trim_tight (l : List UInt8) : (Ln.trim l == l) = tgB l := by
  cases l with
  | nil => rfl
  | cons b r =>
    unfold tgB
    rw [List.isEmpty_cons, Bool.false_or, List.headD_cons, List.getLastD_eq_getLast?, ← gap_sp, ← gap_sp]
    cases hc : (b :: r).getLast? with
    | none => simp at hc
    | some c =>
      rw [Option.getD_some, Bool.eq_iff_iff, beq_iff_eq, Bool.and_eq_true, Bool.not_eq_true', Bool.not_eq_true']
      constructor
      · intro h
        have h1 := Ln.trim_head (b :: r) b (by rw [h]; rfl)
        have h2 := Ln.trim_last (b :: r) c (by rw [h]; exact hc)
        exact ⟨h1, h2⟩
      · rintro ⟨h1, h2⟩
        unfold Ln.trim
        rw [Ln.dr_fix _ (fun x hx => by rw [hc] at hx; cases hx; exact h2), Ln.dl_fix _ (fun x hx => by
          rw [List.head?_cons] at hx; cases hx; exact h1)]
theorem tightP_any (s : ByteArray) (hs : s.size ≤ 140737488355328) (w : World) :
    Calls Tryz.prog 113 #[.string s] w (OkAns w (tgB s.data.toList)) := by
  have HT := Lib.hid (Ln.trim_any s (by omega) w)
  have HR : Hid (((Ln.S (Ln.trim s.data.toList)).toList == s.toList) = tgB s.data.toList) := Lib.hid (by rw [Ln.S_toList, Lib.toList_data, trim_tight])
  generalize Ln.S (Ln.trim s.data.toList) = t at *
  generalize tgB s.data.toList = y at *
  go_enter Tryz.func113, Tryz.ntmps113
  go_wp2_with fail
  refine HT.out.mono ?_
  rintro e w2 ⟨rfl, b2⟩
  have HB2 := Lib.hid b2
  clear HT b2
  go_wp2_with fail
  go_ret
  exact ⟨ret_bool HR.out, HB2.out⟩
theorem idx_has (c : UInt8) (s : List UInt8) : decide (Lib.indexByte s c < 0) = !hsB c s := by
  have h := Lib.contains_iff_indexByte s c
  have h2 : s.contains c = hsB c s := by rw [Bool.eq_iff_iff, has_mem]; simp
  rw [h2] at h
  rw [h]
  by_cases hx : Lib.indexByte s c < 0
  · rw [decide_eq_true hx, decide_eq_false (by omega)]; rfl
  · rw [decide_eq_false hx, decide_eq_true (by omega)]; rfl
theorem isInfoP_any (s : ByteArray) (hs : s.size ≤ 140737488355328) (w : World) :
    Calls Tryz.prog 85 #[.string s] w (OkAns w (infB s.data.toList)) := by
  have HL := Lib.hid (isLineP_any s hs w)
  have HT := Lib.hid (fun w' => tightP_any s hs w')
  have HI := Lib.hid (fun w' => Tryz.strings_IndexByte s 96 w')
  have HX : Hid (infB s.data.toList = (lineB s.data.toList && tgB s.data.toList && decide (Lib.indexByte s.data.toList 96 < 0))) := Lib.hid (by rw [idx_has]; rfl)
  have h96 : (96 : Int).toNat.toUInt8 = 96 := rfl
  rw [h96] at HI
  obtain ⟨X, hX⟩ : ∃ X, infB s.data.toList = X := ⟨_, rfl⟩
  rw [hX] at HX ⊢
  clear hX h96
  generalize lineB s.data.toList = y1 at *
  generalize tgB s.data.toList = y2 at *
  generalize Lib.indexByte s.data.toList 96 = ix at *
  go_enter Tryz.func85, Tryz.ntmps85
  go_wp2_with fail
  refine HL.out.mono ?_
  rintro e w2 ⟨rfl, b2⟩
  have HB2 := Lib.hid b2
  have HT2 := Lib.hid (HT.out w2)
  clear HL HT b2
  cases y1 with
  | false =>
    have HR : Hid (X = false) := Lib.hid (by rw [HX.out]; simp)
    go_wp2_with fail
    go_ret
    exact ⟨ret_bool HR.out.symm, HB2.out⟩
  | true =>
    go_wp2_with fail
    refine HT2.out.mono ?_
    rintro e w3 ⟨rfl, b3⟩
    have HB3 := Lib.hid (HB2.out.trans (b3.mono HB2.out.size))
    have HI3 := Lib.hid (HI.out w3)
    clear HT2 HI b3
    cases y2 with
    | false =>
      have HR : Hid (X = false) := Lib.hid (by rw [HX.out]; simp)
      go_wp2_with fail
      go_ret
      exact ⟨ret_bool HR.out.symm, HB3.out⟩
    | true =>
      have HR : Hid (X = decide (ix < 0)) := Lib.hid (by rw [HX.out]; simp)
      go_wp2_with fail
      refine HI3.out.mono ?_
      rintro e w4 ⟨rfl, rfl⟩
      go_wp2_with fail
      go_ret
      exact ⟨ret_bool HR.out.symm, HB3.out⟩
theorem labelP_any (s : ByteArray) (hs : s.size ≤ 140737488355328) (w : World) :
    Calls Tryz.prog 88 #[.string s] w (OkAns w (labB s.data.toList)) := by
  have HL := Lib.hid (isLineP_any s hs w)
  have HT := Lib.hid (fun w' => tightP_any s hs w')
  have HA := Lib.hid (fun w' => containsO_any brk brk_chs s hs w')
  simp only [brk_has] at HA
  have hE : (⟨#[91, 93, 92]⟩ : ByteArray) = brk := rfl
  rw [← hE] at HA
  have HX : Hid (labB s.data.toList = (!s.data.toList.isEmpty && lineB s.data.toList && tgB s.data.toList && !(hsB 91 s.data.toList || hsB 93 s.data.toList || hsB 92 s.data.toList))) := Lib.hid (by unfold labB; rw [Bool.not_or, Bool.not_or]; simp only [Bool.and_assoc])
  have HEm : Hid ((s.toList == ([] : List UInt8)) = s.data.toList.isEmpty) := Lib.hid (by rw [Lib.toList_data]; cases s.data.toList <;> rfl)
  have HEn : Hid ((s.toList != ([] : List UInt8)) = !s.data.toList.isEmpty) := Lib.hid (by rw [Lib.toList_data]; cases s.data.toList <;> rfl)
  obtain ⟨X, hX⟩ : ∃ X, labB s.data.toList = X := ⟨_, rfl⟩
  rw [hX] at HX ⊢
  clear hX hE
  generalize lineB s.data.toList = y1 at *
  generalize tgB s.data.toList = y2 at *
  generalize (hsB 91 s.data.toList || hsB 93 s.data.toList || hsB 92 s.data.toList) = y3 at *
  generalize s.data.toList.isEmpty = ne at *
  cases ne with
  | true =>
    have em := HEm.out
    have en := HEn.out
    have HR : Hid (X = false) := Lib.hid (by rw [HX.out]; simp)
    clear HX HEm HT HL HA HEn
    go_enter Tryz.func88, Tryz.ntmps88
    go_wp2_with fail
    go_ret
    exact ⟨ret_bool HR.out.symm, Below.refl _ _⟩
  | false =>
    have em := HEm.out
    have en := HEn.out
    clear HEm HEn
    go_enter Tryz.func88, Tryz.ntmps88
    go_wp2_with fail
    refine HL.out.mono ?_
    rintro e w2 ⟨rfl, b2⟩
    have HB2 := Lib.hid b2
    have HT2 := Lib.hid (HT.out w2)
    clear HL HT b2
    cases y1 with
    | false =>
      have HR : Hid (X = false) := Lib.hid (by rw [HX.out]; simp)
      go_wp2_with fail
      go_ret
      exact ⟨ret_bool HR.out.symm, HB2.out⟩
    | true =>
      go_wp2_with fail
      refine HT2.out.mono ?_
      rintro e w3 ⟨rfl, b3⟩
      have HB3 := Lib.hid (HB2.out.trans (b3.mono HB2.out.size))
      have HA3 := Lib.hid (HA.out w3)
      clear HT2 HA b3
      cases y2 with
      | false =>
        have HR : Hid (X = false) := Lib.hid (by rw [HX.out]; simp)
        go_wp2_with fail
        go_ret
        exact ⟨ret_bool HR.out.symm, HB3.out⟩
      | true =>
        have HR : Hid (X = !y3) := Lib.hid (by rw [HX.out]; simp)
        go_wp2_with fail
        refine HA3.out.mono ?_
        rintro e w4 ⟨rfl, b4⟩
        have HB4 := Lib.hid (HB3.out.trans (b4.mono HB3.out.size))
        clear b4
        go_wp2_with fail
        go_ret
        exact ⟨ret_bool HR.out.symm, HB4.out⟩
set_option maxHeartbeats 800000 in
theorem codeRightP_any (v : Value) (xs : List (List UInt8)) (w : World) (hr : Rd w v xs) (hn : xs.length ≤ 9223372036854775807) (hl : ∀ s ∈ xs, s.length ≤ 140737488355328) :
    Calls Tryz.prog 86 #[v] w (OkAns w (xs.all lineB)) := by
  obtain ⟨ao, ca, rfl⟩ := hr.len
  have HRd := Lib.hid (fun w' (h : Below w.heap.size w w') => Rd.at (hr.below h))
  have HL := Lib.hid (fun k (hk : k < xs.length) w' => isLineP_any (S xs[k]) (by rw [S_size]; exact hl _ (List.getElem_mem hk)) w')
  simp only [S_list] at HL
  have H0 : Hid (xs.all lineB = (xs.drop 0).all lineB) := Lib.hid (by rw [List.drop_zero])
  obtain ⟨X, hX⟩ : ∃ X, xs.all lineB = X := ⟨_, rfl⟩
  rw [hX] at H0 ⊢
  clear hX hr hl
  go_enter Tryz.func86, Tryz.ntmps86
  go_wp2_with fail
  go_loopw [7] (fun i wr => ∃ k : Nat, k ≤ xs.length ∧ i = .int .i64 k ∧ Hid (Below w.heap.size w wr) ∧ Hid (X = (xs.drop k).all lineB)) (fun i _ => xs.length - (intOf i).toNat)
  case atStart => exact ⟨0, Nat.zero_le _, rfl, Lib.hid (Below.refl _ _), H0⟩
  case round =>
    clear H0
    obtain ⟨k, hk, rfl, HB, HN⟩ := hrel
    by_cases hlt : k < xs.length
    · have hnx := HN.out
      rw [List.drop_eq_getElem_cons hlt, List.all_cons] at hnx
      have hi1 : (k : Int) < (xs.length : Int) := by omega
      obtain ⟨b, o, rfl, c0⟩ := HRd.out wr HB.out k hlt
      have HLk := Lib.hid (HL.out k hlt wr)
      have HQ := Lib.hid hnx
      clear hnx HN
      generalize lineB xs[k] = y at *
      generalize S xs[k] = sx at *
      go_wp2_with fail
      refine HLk.out.mono ?_
      rintro e w2 ⟨rfl, b2⟩
      have HB2 := Lib.hid (HB.out.trans (b2.mono HB.out.size))
      clear b2 HLk
      cases y with
      | false =>
        have HR : Hid (X = false) := Lib.hid (by rw [HQ.out]; simp)
        go_wp2_with fail
        go_ret
        exact ⟨ret_bool HR.out.symm, HB2.out⟩
      | true =>
        have HR : Hid (X = (xs.drop (k + 1)).all lineB) := Lib.hid (by rw [HQ.out]; simp)
        go_wp2_with fail
        go_roundw
        case rel => exact ⟨k + 1, by omega, by go_num, HB2, HR⟩
        case measure => simp [intOf] <;> omega
    · obtain rfl : k = xs.length := by omega
      have hnx := HN.out
      rw [List.drop_length] at hnx
      have HR : Hid (X = true) := Lib.hid (by rw [hnx]; rfl)
      clear hnx HN hlt
      go_wp2_with fail
      go_ret
      exact ⟨ret_bool HR.out.symm, HB.out⟩
end Go.Proofs.YtldllbmbcnipoabGreatDoor.Bt
