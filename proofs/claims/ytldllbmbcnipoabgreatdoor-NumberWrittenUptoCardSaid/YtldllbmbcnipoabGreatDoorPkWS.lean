/-
  Several texts in one:
  
  
-/
import Derived.Test.YtldllbmbcnipoabGreatDoorPkWC
import Derived.Lib.OthersKept
import Derived.Lib.DecodeN
import Derived.Laws.RangeAny
import Derived.Lib.IndexAny
import Derived.Test.YtldllbmbcnipoabGreatDoorPkWR
namespace Go.Proofs.YtldllbmbcnipoabGreatDoor.Sp
open Go.RowKit
open Go.Proofs.YtldllbmbcnipoabGreatDoor.Tk (S S_of S_list S_size S_toList S_app ret_int eq8 ne8 at_data len_data)
open Go.Proofs.YtldllbmbcnipoabGreatDoor.Cm (calls_at)
set_option linter.unusedVariables false
def crL : List UInt8 := [13, 10]
theorem has_mem (c : UInt8) (s : List UInt8) : hsB c s = true ↔ c ∈ s := by
  unfold hsB
  rw [List.any_eq_true]
  constructor
  · rintro ⟨x, hx, he⟩; rw [← of_decide_eq_true he]; exact hx
  · intro h; exact ⟨c, h, decide_eq_true rfl⟩
theorem any_mem (chars : List UInt8) : ∀ s : List UInt8, Lib.containsAny s chars = true ↔ ∃ b ∈ s, chars.contains b = true
  | [] => by unfold Lib.containsAny Lib.indexAny; simp
  | b :: l => by
    have ih := any_mem chars l
    unfold Lib.containsAny at ih ⊢
    rw [decide_eq_true_iff] at ih ⊢
    rw [Lib.indexAny]
    have hge := Lib.indexAny_ge chars l
    cases hc : chars.contains b with
    | true =>
      rw [if_pos rfl]
      exact ⟨fun _ => ⟨b, List.mem_cons_self .., hc⟩, fun _ => Int.le_refl 0⟩
    | false =>
      rw [if_neg (by simp)]
      constructor
      · intro h
        by_cases hm : Lib.indexAny l chars = -1
        · rw [hm] at h; simp at h
        · obtain ⟨x, hx, hxc⟩ := ih.1 (by omega)
          exact ⟨x, List.mem_cons_of_mem _ hx, hxc⟩
      · rintro ⟨x, hx, hxc⟩
        rcases List.mem_cons.1 hx with rfl | hx
        · rw [hxc] at hc; cases hc
        · have := ih.2 ⟨x, hx, hxc⟩
          rw [if_neg (by simp; omega)]
          omega
theorem cr_any (s : List UInt8) : Lib.containsAny s crL = (hsB 10 s || hsB 13 s) := by
  rw [Bool.eq_iff_iff, any_mem, Bool.or_eq_true, has_mem, has_mem]
  constructor
  · rintro ⟨b, hb, hc⟩
    have : b = 13 ∨ b = 10 := by simpa [crL] using hc
    rcases this with rfl | rfl
    · exact Or.inr hb
    · exact Or.inl hb
  · rintro (h | h)
    · exact ⟨10, h, by decide⟩
    · exact ⟨13, h, by decide⟩
theorem decN_wide (n b0 b1 b2 b3 : Nat) (hn : 1 ≤ n) (h0 : 128 ≤ b0) : 1 ≤ (Lib.decodeN n b0 b1 b2 b3).2 ∧ (Lib.decodeN n b0 b1 b2 b3).2 ≤ n ∧ (2 ≤ (Lib.decodeN n b0 b1 b2 b3).2 → 128 ≤ b1) ∧ (3 ≤ (Lib.decodeN n b0 b1 b2 b3).2 → 128 ≤ b2) ∧ (4 ≤ (Lib.decodeN n b0 b1 b2 b3).2 → 128 ≤ b3) ∧ (Lib.decodeN n b0 b1 b2 b3).2 ≤ 4 := by
  unfold Lib.decodeN
  repeat' split
  all_goals simp only []
  all_goals omega
theorem get_nat (s : ByteArray) (j : Nat) (h : j < s.size) : s.get! j = s[j] := by
  simp [ByteArray.get!, getElem!_pos, h]
  rfl
theorem wide_no {s : ByteArray} {pos : Nat} (hp : pos < s.size) (ha : 128 ≤ s[pos].toNat) (hno : Lib.NoAny s.data.toList crL pos) :
    pos + (Utf8.decode s pos).2 ≤ s.size ∧ 1 ≤ (Utf8.decode s pos).2 ∧ Lib.NoAny s.data.toList crL (pos + (Utf8.decode s pos).2) := by
  have hd := decN_wide (s.size - pos) (s.get! pos).toNat (s.get! (pos + 1)).toNat (s.get! (pos + 2)).toNat (s.get! (pos + 3)).toNat (by omega) (by rw [get_nat s pos hp]; exact ha)
  rw [← Lib.decode_at] at hd
  generalize (Utf8.decode s pos).2 = n at *
  obtain ⟨h1, h2, h3, h4, h5, h6⟩ := hd
  refine ⟨by omega, h1, fun j b hj hb => ?_⟩
  by_cases hlt : j < pos
  · exact hno j b hlt hb
  · have hjs : j < s.size := by omega
    have hbj : s[j] = b := by
      rw [Lib.data_getElem? s j hjs] at hb
      exact Option.some.inj hb
    have h128 : 128 ≤ s[j].toNat := by
      rcases (show j = pos ∨ j = pos + 1 ∨ j = pos + 2 ∨ j = pos + 3 by omega) with rfl | rfl | rfl | rfl
      · exact ha
      · have := h3 (by omega); rw [get_nat s _ hjs] at this; exact this
      · have := h4 (by omega); rw [get_nat s _ hjs] at this; exact this
      · have := h5 (by omega); rw [get_nat s _ hjs] at this; exact this
    rw [hbj] at h128
    have hne : ∀ x : UInt8, x.toNat < 128 → x ≠ b := fun x hx e => by rw [e] at hx; omega
    have a1 := hne 13 (by decide)
    have a2 := hne 10 (by decide)
    simp [crL, Ne.symm a1, Ne.symm a2]
theorem enc_wide (r : Int) (h : 128 ≤ r) (hv : Utf8.valid r = true) : ∃ t : ByteArray, Utf8.encode r = t ∧ 2 ≤ t.size ∧ t.size ≤ 4 ∧ ∃ (hl : t.size - 1 < t.size), 128 ≤ (t[t.size - 1]'hl).toNat := by
  have hr : 128 ≤ r.toNat := by omega
  unfold Utf8.encode
  simp only [hv, if_true]
  rw [if_neg (by omega)]
  have hm : ∀ n : Nat, 128 ≤ (UInt8.ofNat (0x80 + n % 64)).toNat := fun n => by rw [UInt8.toNat_ofNat']; omega
  split
  · exact ⟨_, rfl, Nat.le_refl 2, Nat.le_of_ble_eq_true rfl, Nat.le_refl 2, hm _⟩
  · split
    · exact ⟨_, rfl, Nat.le_of_ble_eq_true rfl, Nat.le_of_ble_eq_true rfl, Nat.le_refl 3, hm _⟩
    · exact ⟨_, rfl, Nat.le_of_ble_eq_true rfl, Nat.le_of_ble_eq_true rfl, Nat.le_refl 4, hm _⟩
end Go.Proofs.YtldllbmbcnipoabGreatDoor.Sp

namespace Go.Proofs.YtldllbmbcnipoabGreatDoor.Sp
open Go.RowKit
open Go.Proofs.YtldllbmbcnipoabGreatDoor.Tk (S S_of S_list S_size S_toList S_app ret_int eq8 ne8 at_data len_data)
open Go.Proofs.YtldllbmbcnipoabGreatDoor.Cm (calls_at)
set_option linter.unusedVariables false
theorem ed_ten {b : UInt8} (h : edB b = false) : b ≠ 10 := by
  intro e; rw [e] at h; revert h; decide
theorem ed_two (a b : UInt8) : (!((decide (a = 10) && (spB b || decide (b = 10))) || (decide (b = 10) && spB a))) = (!((decide (a = 10) && edB b) || (decide (b = 10) && edB a))) := by
  unfold edB
  cases spB a <;> cases spB b <;> cases decide (a = 10) <;> cases decide (b = 10) <;> rfl
theorem txB_ed (a b : UInt8) (r : List UInt8) : txB (a :: b :: r) = (!((decide (a = 10) && edB b) || (decide (b = 10) && edB a)) && txB (b :: r)) := by rw [txB_two, ed_two]
theorem cr_find (s : List UInt8) : decide (0 ≤ Lib.indexByte s 13) = hsB 13 s := by
  rw [← Lib.contains_iff_indexByte, Bool.eq_iff_iff, List.contains_iff_mem, has_mem]
set_option maxHeartbeats 3200000 in
theorem textP_any (s : ByteArray) (hs : s.size ≤ 140737488355328) (w : World) :
    Calls Tryz.prog 146 #[.string s] w (OkAns w (ctB s && ttB s.data.toList)) := by
  have HT := Lib.hid (isText_any s hs w)
  have HG := Lib.hid (fun c w => gap_any c w)
  have HF := Lib.hid (fun w => Tryz.strings_IndexByte s 13 w)
  have h13 : ((13 : Int)).toNat.toUInt8 = 13 := rfl
  rw [h13] at HF
  have HD := Lib.hid (cr_find s.data.toList)
  have HEm : Hid ((s.toList == ([] : List UInt8)) = s.data.toList.isEmpty) := Lib.hid (by rw [Lib.toList_data]; cases s.data.toList <;> rfl)
  have HE2 : Hid (s.data.toList.isEmpty = false → 1 ≤ s.size) := Lib.hid (fun h => by
    rw [← len_data]
    cases hl : s.data.toList with
    | nil => rw [hl] at h; cases h
    | cons x r => simp)
  have HX : Hid ((ctB s && ttB s.data.toList) = (ctB s && (txB (s.data.toList.drop 0) && (!s.data.toList.isEmpty && !hsB 13 s.data.toList)))) := Lib.hid (by rw [List.drop_zero]; rfl)
  obtain ⟨X, hX⟩ : ∃ X, (ctB s && ttB s.data.toList) = X := ⟨_, rfl⟩
  obtain ⟨ne, hne⟩ : ∃ ne, s.data.toList.isEmpty = ne := ⟨_, rfl⟩
  rw [hX, hne] at HX
  rw [hne] at HEm HE2
  rw [hX]
  clear hX hne h13
  generalize Lib.indexByte s.data.toList 13 = ix at *
  cases ne with
  | true =>
    have em := HEm.out
    have HR : Hid (X = false) := Lib.hid (by rw [HX.out]; simp)
    clear HX HEm HT HG HF HD HE2
    go_enter Tryz.func146, Tryz.ntmps146
    go_wp2_with fail
    go_ret
    exact ⟨ret_bool HR.out.symm, Below.refl _ _⟩
  | false =>
    have em := HEm.out
    have h1s := HE2.out rfl
    clear HEm HE2
    cases hct : ctB s with
    | false =>
      rw [hct] at HT HX
      have HR : Hid (X = false) := Lib.hid (by rw [HX.out]; simp)
      clear HX HG HF HD hct
      go_enter Tryz.func146, Tryz.ntmps146
      go_wp2_with fail
      refine HT.out.mono ?_
      rintro e w2 ⟨rfl, hb⟩
      have HB := Lib.hid hb
      clear hb HT
      go_wp2_with fail
      go_ret
      exact ⟨ret_bool HR.out.symm, HB.out⟩
    | true =>
      rw [hct] at HT HX
      cases hcr : hsB 13 s.data.toList with
      | true =>
        rw [hcr] at HD HX
        have hd := HD.out
        have hge : 0 ≤ ix := of_decide_eq_true hd
        have HR : Hid (X = false) := Lib.hid (by rw [HX.out]; simp)
        clear HX HG HD hct hcr hd
        go_enter Tryz.func146, Tryz.ntmps146
        go_wp2_with fail
        refine HT.out.mono ?_
        rintro e w2 ⟨rfl, hb⟩
        have HB := Lib.hid hb
        clear hb HT
        go_wp2_with fail
        refine (HF.out _).mono ?_
        rintro e w3 ⟨rfl, rfl⟩
        clear HF
        go_wp2_with fail
        go_ret
        exact ⟨ret_bool HR.out.symm, HB.out⟩
      | false =>
        rw [hcr] at HD HX
        have hd := HD.out
        have hge : ¬ 0 ≤ ix := of_decide_eq_false hd
        have H0 : Hid (X = txB (s.data.toList.drop (1 - 1))) := Lib.hid (by rw [HX.out]; simp)
        clear HX HD hct hcr hd
        go_enter Tryz.func146, Tryz.ntmps146
        go_wp2_with fail
        refine HT.out.mono ?_
        rintro e w2 ⟨rfl, hb⟩
        have HB := Lib.hid hb
        clear hb HT
        go_wp2_with fail
        refine (HF.out _).mono ?_
        rintro e w3 ⟨rfl, hw3⟩
        subst hw3
        clear HF
        go_wp2_with fail
        go_loop [3] (fun i => ∃ k : Nat, 1 ≤ k ∧ k ≤ s.size ∧ i = .int .i64 k ∧ Hid (X = txB (s.data.toList.drop (k - 1)))) (fun i => s.size - (intOf i).toNat)
        case atStart => exact ⟨1, Nat.le_refl _, h1s, rfl, H0⟩
        case round =>
          clear H0
          obtain ⟨k, hk1, hk, rfl, HN⟩ := hrel
          by_cases hlt : k < s.size
          · have hk0 : k - 1 < s.size := by omega
            have hnx := HN.out
            have hkk : k - 1 + 1 = k := by omega
            rw [at_data s (k - 1) hk0, hkk, at_data s k hlt, txB_ed, ← at_data s k hlt] at hnx
            have hi1 : (k : Int) < (s.size : Int) := by omega
            have hi0 : (1 : Int) ≤ (k : Int) := by omega
            have HQ : Hid (X = (!((decide (s[k - 1] = 10) && edB s[k]) || (decide (s[k] = 10) && edB s[k - 1])) && txB (s.data.toList.drop (k + 1 - 1)))) := Lib.hid (by rw [hnx, Nat.add_sub_cancel])
            have HGa := Lib.hid (HG.out s[k - 1] w3)
            have HGb := Lib.hid (HG.out s[k] w3)
            clear hnx HN hkk
            by_cases a10 : s[k - 1] = 10
            · have e1 : ((s[k - 1].toNat : Int) == 10) = true := eq8 (b := 10) a10
              cases hb : edB s[k] with
              | true =>
                rw [hb] at HGb
                have HR : Hid (X = false) := Lib.hid (by rw [HQ.out, hb, decide_eq_true a10]; simp)
                clear HQ a10 hb HGa
                go_wp2_with fail
                refine HGb.out.mono ?_
                rintro e w4 ⟨rfl, rfl⟩
                clear HGb
                go_wp2_with fail
                go_ret
                exact ⟨ret_bool HR.out.symm, HB.out⟩
              | false =>
                rw [hb] at HGb
                have b10 := ed_ten hb
                have e2 : ((s[k].toNat : Int) == 10) = false := ne8 (b := 10) b10
                have HR : Hid (X = txB (s.data.toList.drop (k + 1 - 1))) := Lib.hid (by rw [HQ.out, hb, decide_eq_false b10]; simp)
                clear HQ a10 b10 hb HGa
                go_wp2_with fail
                refine HGb.out.mono ?_
                rintro e w4 ⟨rfl, rfl⟩
                clear HGb
                go_wp2_with fail
                go_round
                case rel => exact ⟨k + 1, by omega, by omega, by go_num, HR⟩
                case measure => simp [intOf]; omega
            · have e1 : ((s[k - 1].toNat : Int) == 10) = false := ne8 (b := 10) a10
              by_cases b10 : s[k] = 10
              · have e2 : ((s[k].toNat : Int) == 10) = true := eq8 (b := 10) b10
                cases ha : edB s[k - 1] with
                | true =>
                  rw [ha] at HGa
                  have HR : Hid (X = false) := Lib.hid (by rw [HQ.out, ha, decide_eq_true b10]; simp)
                  clear HQ a10 b10 ha HGb
                  go_wp2_with fail
                  refine HGa.out.mono ?_
                  rintro e w4 ⟨rfl, rfl⟩
                  clear HGa
                  go_wp2_with fail
                  go_ret
                  exact ⟨ret_bool HR.out.symm, HB.out⟩
                | false =>
                  rw [ha] at HGa
                  have HR : Hid (X = txB (s.data.toList.drop (k + 1 - 1))) := Lib.hid (by rw [HQ.out, ha, decide_eq_false a10]; simp)
                  clear HQ a10 b10 ha HGb
                  go_wp2_with fail
                  refine HGa.out.mono ?_
                  rintro e w4 ⟨rfl, rfl⟩
                  clear HGa
                  go_wp2_with fail
                  go_round
                  case rel => exact ⟨k + 1, by omega, by omega, by go_num, HR⟩
                  case measure => simp [intOf]; omega
              · have e2 : ((s[k].toNat : Int) == 10) = false := ne8 (b := 10) b10
                have HR : Hid (X = txB (s.data.toList.drop (k + 1 - 1))) := Lib.hid (by rw [HQ.out, decide_eq_false a10, decide_eq_false b10]; simp)
                clear HQ a10 b10 HGa HGb
                go_wp2_with fail
                go_round
                case rel => exact ⟨k + 1, by omega, by omega, by go_num, HR⟩
                case measure => simp [intOf]; omega
          · obtain rfl : k = s.size := by omega
            have hone : txB (s.data.toList.drop (s.size - 1)) = true := by
              rw [at_data s (s.size - 1) (by omega), drop_all s _ (by omega)]; rfl
            have HR : Hid (X = true) := Lib.hid (by rw [HN.out, hone])
            clear HN hone hlt
            go_wp2_with fail
            go_ret
            exact ⟨ret_bool HR.out.symm, HB.out⟩
end Go.Proofs.YtldllbmbcnipoabGreatDoor.Sp
