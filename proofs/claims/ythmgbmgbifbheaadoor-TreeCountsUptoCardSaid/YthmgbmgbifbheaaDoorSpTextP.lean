/-
  CONTRACT of the program's textRight (span).
-/
import Derived.Test.YthmgbmgbifbheaaDoorSpChars
import Derived.Test.YthmgbmgbifbheaaDoorSpCrPlain
namespace Go.Proofs.YthmgbmgbifbheaaDoor.Sp
open Go.RowKit
open Go.Proofs.YthmgbmgbifbheaaDoor.Tk (S S_of S_list S_size S_toList S_app ret_int eq8 ne8 at_data len_data)
open Go.Proofs.YthmgbmgbifbheaaDoor.Cm (calls_at)
set_option linter.unusedVariables false

theorem ed_ten {b : UInt8} (h : edB b = false) : b ≠ 10 := by
  intro e; rw [e] at h; revert h; decide
theorem ed_two (a b : UInt8) : (!((decide (a = 10) && (spB b || decide (b = 10))) || (decide (b = 10) && spB a))) = (!((decide (a = 10) && edB b) || (decide (b = 10) && edB a))) := by
  unfold edB
  cases spB a <;> cases spB b <;> cases decide (a = 10) <;> cases decide (b = 10) <;> rfl
theorem txB_ed (a b : UInt8) (r : List UInt8) : txB (a :: b :: r) = (!((decide (a = 10) && edB b) || (decide (b = 10) && edB a)) && txB (b :: r)) := by rw [txB_two, ed_two]
theorem cr_find (s : List UInt8) : decide (0 ≤ Lib.indexByte s 13) = hsB 13 s := by
  rw [← Lib.contains_iff_indexByte, Bool.eq_iff_iff, List.contains_iff_mem, has_mem]

set_option maxHeartbeats 3200000 in
theorem textP_any (s : ByteArray) (hs : s.size ≤ 140737488355328) (w : World) :
    Calls Tryd.prog 100 #[.string s] w (OkAns w (ctB s && ttB s.data.toList)) := by
  have HT := Lib.hid (isText_any s hs w)
  have HG := Lib.hid (fun c w => gap_any c w)
  have HF := Lib.hid (fun w => Tryd.strings_IndexByte s 13 w)
  have h13 : ((13 : Int)).toNat.toUInt8 = 13 := rfl
  rw [h13] at HF
  have HD := Lib.hid (cr_find s.data.toList)
  have HEm : Hid ((s.toList == ([] : List UInt8)) = s.data.toList.isEmpty) := Lib.hid (by rw [Lib.toList_data]; cases s.data.toList <;> rfl)
  have HE2 : Hid (s.data.toList.isEmpty = false → 1 ≤ s.size) := Lib.hid (fun h => by
    rw [← len_data]
    cases hl : s.data.toList with
    | nil => rw [hl] at h; cases h
    | cons x r => simp)
  have HX : Hid ((ctB s && ttB s.data.toList) = (ctB s && (txB (s.data.toList.drop 0) && (!s.data.toList.isEmpty && !hsB 13 s.data.toList)))) := Lib.hid (by rw [List.drop_zero]; rfl)
  obtain ⟨X, hX⟩ : ∃ X, (ctB s && ttB s.data.toList) = X := ⟨_, rfl⟩
  obtain ⟨ne, hne⟩ : ∃ ne, s.data.toList.isEmpty = ne := ⟨_, rfl⟩
  rw [hX, hne] at HX
  rw [hne] at HEm HE2
  rw [hX]
  clear hX hne h13
  generalize Lib.indexByte s.data.toList 13 = ix at *
  cases ne with
  | true =>
    have em := HEm.out
    have HR : Hid (X = false) := Lib.hid (by rw [HX.out]; simp)
    clear HX HEm HT HG HF HD HE2
    go_enter Tryd.func100, Tryd.ntmps100
    go_wp2_with fail
    go_ret
    exact ⟨ret_bool HR.out.symm, Below.refl _ _⟩
  | false =>
    have em := HEm.out
    have h1s := HE2.out rfl
    clear HEm HE2
    cases hct : ctB s with
    | false =>
      rw [hct] at HT HX
      have HR : Hid (X = false) := Lib.hid (by rw [HX.out]; simp)
      clear HX HG HF HD hct
      go_enter Tryd.func100, Tryd.ntmps100
      go_wp2_with fail
      refine HT.out.mono ?_
      rintro e w2 ⟨rfl, hb⟩
      have HB := Lib.hid hb
      clear hb HT
      go_wp2_with fail
      go_ret
      exact ⟨ret_bool HR.out.symm, HB.out⟩
    | true =>
      rw [hct] at HT HX
      cases hcr : hsB 13 s.data.toList with
      | true =>
        rw [hcr] at HD HX
        have hd := HD.out
        have hge : 0 ≤ ix := of_decide_eq_true hd
        have HR : Hid (X = false) := Lib.hid (by rw [HX.out]; simp)
        clear HX HG HD hct hcr hd
        go_enter Tryd.func100, Tryd.ntmps100
        go_wp2_with fail
        refine HT.out.mono ?_
        rintro e w2 ⟨rfl, hb⟩
        have HB := Lib.hid hb
        clear hb HT
        go_wp2_with fail
        refine (HF.out _).mono ?_
        rintro e w3 ⟨rfl, rfl⟩
        clear HF
        go_wp2_with fail
        go_ret
        exact ⟨ret_bool HR.out.symm, HB.out⟩
      | false =>
        rw [hcr] at HD HX
        have hd := HD.out
        have hge : ¬ 0 ≤ ix := of_decide_eq_false hd
        have H0 : Hid (X = txB (s.data.toList.drop (1 - 1))) := Lib.hid (by rw [HX.out]; simp)
        clear HX HD hct hcr hd
        go_enter Tryd.func100, Tryd.ntmps100
        go_wp2_with fail
        refine HT.out.mono ?_
        rintro e w2 ⟨rfl, hb⟩
        have HB := Lib.hid hb
        clear hb HT
        go_wp2_with fail
        refine (HF.out _).mono ?_
        rintro e w3 ⟨rfl, hw3⟩
        subst hw3
        clear HF
        go_wp2_with fail
        go_loop [3] (fun i => ∃ k : Nat, 1 ≤ k ∧ k ≤ s.size ∧ i = .int .i64 k ∧ Hid (X = txB (s.data.toList.drop (k - 1)))) (fun i => s.size - (intOf i).toNat)
        case atStart => exact ⟨1, Nat.le_refl _, h1s, rfl, H0⟩
        case round =>
          clear H0
          obtain ⟨k, hk1, hk, rfl, HN⟩ := hrel
          by_cases hlt : k < s.size
          · have hk0 : k - 1 < s.size := by omega
            have hnx := HN.out
            have hkk : k - 1 + 1 = k := by omega
            rw [at_data s (k - 1) hk0, hkk, at_data s k hlt, txB_ed, ← at_data s k hlt] at hnx
            have hi1 : (k : Int) < (s.size : Int) := by omega
            have hi0 : (1 : Int) ≤ (k : Int) := by omega
            have HQ : Hid (X = (!((decide (s[k - 1] = 10) && edB s[k]) || (decide (s[k] = 10) && edB s[k - 1])) && txB (s.data.toList.drop (k + 1 - 1)))) := Lib.hid (by rw [hnx, Nat.add_sub_cancel])
            have HGa := Lib.hid (HG.out s[k - 1] w3)
            have HGb := Lib.hid (HG.out s[k] w3)
            clear hnx HN hkk
            by_cases a10 : s[k - 1] = 10
            · have e1 : ((s[k - 1].toNat : Int) == 10) = true := eq8 (b := 10) a10
              cases hb : edB s[k] with
              | true =>
                rw [hb] at HGb
                have HR : Hid (X = false) := Lib.hid (by rw [HQ.out, hb, decide_eq_true a10]; simp)
                clear HQ a10 hb HGa
                go_wp2_with fail
                refine HGb.out.mono ?_
                rintro e w4 ⟨rfl, rfl⟩
                clear HGb
                go_wp2_with fail
                go_ret
                exact ⟨ret_bool HR.out.symm, HB.out⟩
              | false =>
                rw [hb] at HGb
                have b10 := ed_ten hb
                have e2 : ((s[k].toNat : Int) == 10) = false := ne8 (b := 10) b10
                have HR : Hid (X = txB (s.data.toList.drop (k + 1 - 1))) := Lib.hid (by rw [HQ.out, hb, decide_eq_false b10]; simp)
                clear HQ a10 b10 hb HGa
                go_wp2_with fail
                refine HGb.out.mono ?_
                rintro e w4 ⟨rfl, rfl⟩
                clear HGb
                go_wp2_with fail
                go_round
                case rel => exact ⟨k + 1, by omega, by omega, by go_num, HR⟩
                case measure => simp [intOf]; omega
            · have e1 : ((s[k - 1].toNat : Int) == 10) = false := ne8 (b := 10) a10
              by_cases b10 : s[k] = 10
              · have e2 : ((s[k].toNat : Int) == 10) = true := eq8 (b := 10) b10
                cases ha : edB s[k - 1] with
                | true =>
                  rw [ha] at HGa
                  have HR : Hid (X = false) := Lib.hid (by rw [HQ.out, ha, decide_eq_true b10]; simp)
                  clear HQ a10 b10 ha HGb
                  go_wp2_with fail
                  refine HGa.out.mono ?_
                  rintro e w4 ⟨rfl, rfl⟩
                  clear HGa
                  go_wp2_with fail
                  go_ret
                  exact ⟨ret_bool HR.out.symm, HB.out⟩
                | false =>
                  rw [ha] at HGa
                  have HR : Hid (X = txB (s.data.toList.drop (k + 1 - 1))) := Lib.hid (by rw [HQ.out, ha, decide_eq_false a10]; simp)
                  clear HQ a10 b10 ha HGb
                  go_wp2_with fail
                  refine HGa.out.mono ?_
                  rintro e w4 ⟨rfl, rfl⟩
                  clear HGa
                  go_wp2_with fail
                  go_round
                  case rel => exact ⟨k + 1, by omega, by omega, by go_num, HR⟩
                  case measure => simp [intOf]; omega
              · have e2 : ((s[k].toNat : Int) == 10) = false := ne8 (b := 10) b10
                have HR : Hid (X = txB (s.data.toList.drop (k + 1 - 1))) := Lib.hid (by rw [HQ.out, decide_eq_false a10, decide_eq_false b10]; simp)
                clear HQ a10 b10 HGa HGb
                go_wp2_with fail
                go_round
                case rel => exact ⟨k + 1, by omega, by omega, by go_num, HR⟩
                case measure => simp [intOf]; omega
          · obtain rfl : k = s.size := by omega
            have hone : txB (s.data.toList.drop (s.size - 1)) = true := by
              rw [at_data s (s.size - 1) (by omega), drop_all s _ (by omega)]; rfl
            have HR : Hid (X = true) := Lib.hid (by rw [HN.out, hone])
            clear HN hone hlt
            go_wp2_with fail
            go_ret
            exact ⟨ret_bool HR.out.symm, HB.out⟩

end Go.Proofs.YthmgbmgbifbheaaDoor.Sp
