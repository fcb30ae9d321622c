/-
  THE WALK of the statement KindMarks.
-/
import Derived.Test.YtpenjdnbnacebaaDoorKd11Told
namespace Go.Proofs.YtpenjdnbnacebaaDoor.Kd
open Go.RowKit
open Go.Proofs.YtpenjdnbnacebaaDoor.Tk (S S_of S_list S_size S_toList S_app ret_int eq8 ne8 at_data len_data Rd)
open Go.Proofs.YtpenjdnbnacebaaDoor.Sp (ret_bool OkAns)
open Go.Proofs.YtpenjdnbnacebaaDoor.Bk (Tx Bk define kindOf inner unquote trim_ne run_head kind_item)
set_option linter.unusedVariables false

theorem kind_62 (t : Tx) : kindOf E0 (62 :: t) = 5 := by
  unfold kindOf
  rw [if_neg (trim_ne (by decide) t), run_head (by decide), run_head (by decide), run_head (by decide), if_neg (by omega), if_neg (by omega), if_neg (by omega), if_pos (show (62 :: t).head? = some 62 from rfl)]
theorem uq_sp (l : Tx) : uqT (62 :: 32 :: l) = l := by
  rw [uqT_eq, if_pos (kind_62 _), if_pos (show (62 :: 32 :: l : Tx)[1]? = some 32 from rfl)]
  rfl
theorem uq_no (l : Tx) (h : l.head? ≠ some 32) : uqT (62 :: l) = l := by
  rw [uqT_eq, if_pos (kind_62 _), if_neg (by rw [List.getElem?_cons_succ, ← List.head?_eq_getElem?]; exact h)]
  rfl
theorem ui_it (l : Tx) : uiT (45 :: 32 :: l) = l := by
  unfold uiT
  rw [if_pos (kind_item E0 l)]
  rfl
theorem in_sp (l : Tx) : inner (32 :: 32 :: l) = some l := by
  unfold inner
  rw [if_pos (show List.take 2 (32 :: 32 :: l) = [32, 32] from rfl)]
  rfl

set_option maxHeartbeats 6400000 in
set_option maxRecDepth 100000 in
theorem kindMarks_walk (K : Told11) (w : World) (s : ByteArray) (hs : s.size ≤ maxLen) (hr : s.size ≤ reachBytes) :
    Calls Tryd.prog 4 #[.string s] w (OkAns w true) := by
  have HA := Lib.hid (awake11_any K)
  have hrb : reachBytes ≤ 140737488355328 := by decide
  by_cases hl : s.size ≤ 1000
  · have g0 : ¬ 1000 < (s.size : Int) := by omega
    have g0b : decide ((s.size : Int) > 1000) = false := decide_eq_false (by omega)
    have app : ∀ (a : Tx), S a ++ s = S (a ++ s.data.toList) := fun a => by rw [← S_app, S_of]
    have sz : ∀ (a : Tx), a.length ≤ 10 → (S (a ++ s.data.toList)).size ≤ 20000 := fun a h => by rw [S_size, List.length_append, len_data]; omega
    have K1 := Lib.hid (fun w' => K.inner (S ([32, 32] ++ s.data.toList)) w' (sz _ (by decide)))
    have K2 := Lib.hid (fun w' => K.of (S ([62, 32] ++ s.data.toList)) w' (sz _ (by decide)))
    have K3 := Lib.hid (fun w' => K.unquote (S ([62, 32] ++ s.data.toList)) w' (sz _ (by decide)))
    have K4 := Lib.hid (fun w' => K.of (S ([45, 32] ++ s.data.toList)) w' (sz _ (by decide)))
    have K5 := Lib.hid (fun w' => K.unitem (S ([45, 32] ++ s.data.toList)) w' (sz _ (by decide)))
    have K6 := Lib.hid (fun w' => K.unquote (S ([62] ++ s.data.toList)) w' (sz _ (by decide)))
    simp only [S_list] at K1 K2 K3 K4 K5 K6
    have e1 : Bk.inner ([32, 32] ++ s.data.toList) = some s.data.toList := in_sp _
    have e2 : kindOf E0 ([62, 32] ++ s.data.toList) = 5 := kind_62 _
    have e3 : uqT ([62, 32] ++ s.data.toList) = s.data.toList := uq_sp _
    have e4 : kindOf E0 ([45, 32] ++ s.data.toList) = 6 := kind_item E0 _
    have e5 : uiT ([45, 32] ++ s.data.toList) = s.data.toList := ui_it _
    simp only [e1] at K1
    simp only [e2] at K2
    simp only [e3] at K3
    simp only [e4] at K4
    simp only [e5] at K5
    unfold InK inV at K1
    unfold StrK at K3 K5 K6
    have eS : S s.data.toList = s := S_of s
    have eO : (some s.data.toList : Option Tx).getD [] = s.data.toList := rfl
    simp only [eO, eS] at K1
    simp only [eS] at K3 K5
    have x1 : (⟨#[32, 32]⟩ : ByteArray) ++ s = S ([32, 32] ++ s.data.toList) := app [32, 32]
    have x2 : (⟨#[62, 32]⟩ : ByteArray) ++ s = S ([62, 32] ++ s.data.toList) := app [62, 32]
    have x3 : (⟨#[45, 32]⟩ : ByteArray) ++ s = S ([45, 32] ++ s.data.toList) := app [45, 32]
    have x4 : (⟨#[62]⟩ : ByteArray) ++ s = S ([62] ++ s.data.toList) := app [62]
    have z1 : (⟨#[32, 32]⟩ : ByteArray).size = 2 := rfl
    have z2 : (⟨#[62, 32]⟩ : ByteArray).size = 2 := rfl
    have z3 : (⟨#[45, 32]⟩ : ByteArray).size = 2 := rfl
    have z4 : (⟨#[62]⟩ : ByteArray).size = 1 := rfl
    have n5 : (((5 : Nat) : Int) == 5) = true := rfl
    have n6 : (((6 : Nat) : Int) == 6) = true := rfl
    have zl : ¬ (9223372036854775807 < 2 + s.size) := by omega
    have zl1 : ¬ (9223372036854775807 < 1 + s.size) := by omega
    clear K e1 e2 e3 e4 e5 eS eO app sz hs hr hrb
    have HU : Hid (s.data.toList.head? ≠ some 32 → uqT ([62] ++ s.data.toList) = s.data.toList) := Lib.hid (fun h => uq_no _ h)
    have HE : Hid (∀ h : 0 < s.size, s.data.toList.head? = some s[0]) := Lib.hid (fun h => by rw [List.head?_eq_getElem?, data_get s 0 h])
    have emS : (s.toList == ([] : List UInt8)) = s.data.toList.isEmpty := by rw [Lib.toList_data]; cases s.data.toList <;> rfl
    have hSd := Lib.hid (S_of s)
    generalize S ([32, 32] ++ s.data.toList) = s1 at *
    generalize S ([62, 32] ++ s.data.toList) = s2 at *
    generalize S ([45, 32] ++ s.data.toList) = s3 at *
    generalize S ([62] ++ s.data.toList) = s4 at *
    have hsl : s.toList == s.toList := by simp
    go_enter Tryd.func4, Tryd.ntmps4
    go_wp2_with fail
    refine (HA.out _).mono ?_
    rintro e w2 ⟨rfl, b2⟩
    have B2 := Lib.hid b2
    clear b2 HA
    go_wp2_with fail
    refine (K1.out _).mono ?_
    rintro e w3 ⟨rfl, b3⟩
    have B3 := Lib.hid (B2.out.trans (b3.mono B2.out.size))
    clear b3 K1 B2
    go_wp2_with fail
    refine (K2.out _).mono ?_
    rintro e w4 ⟨rfl, b4⟩
    have B4 := Lib.hid (B3.out.trans (b4.mono B3.out.size))
    clear b4 K2 B3
    go_wp2_with fail
    refine (K3.out _).mono ?_
    rintro e w5 ⟨rfl, b5⟩
    have B5 := Lib.hid (B4.out.trans (b5.mono B4.out.size))
    clear b5 K3 B4
    go_wp2_with fail
    refine (K4.out _).mono ?_
    rintro e w6 ⟨rfl, b6⟩
    have B6 := Lib.hid (B5.out.trans (b6.mono B5.out.size))
    clear b6 K4 B5
    go_wp2_with fail
    refine (K5.out _).mono ?_
    rintro e w7 ⟨rfl, b7⟩
    have B7 := Lib.hid (B6.out.trans (b7.mono B6.out.size))
    clear b7 K5 B6
    by_cases h0 : s.size = 0
    · have hnil : s.data.toList = [] := List.eq_nil_of_length_eq_zero (by rw [len_data]; exact h0)
      rw [hnil] at emS
      have emT : (s.toList == ([] : List UInt8)) = true := emS
      clear emS K6 HU HE hSd hnil
      go_wp2_with fail
      go_ret
      exact ⟨by simp, B7.out⟩
    · have hp : 0 < s.size := by omega
      have hpi : (0 : Int) < (s.size : Int) := by omega
      have emT : (s.toList == ([] : List UInt8)) = false := by
        rw [emS]
        cases hd : s.data.toList with
        | nil => exact absurd (by rw [← len_data, hd]; rfl) h0
        | cons _ _ => rfl
      have hhd := HE.out hp
      obtain ⟨x0, hx0⟩ : ∃ x, s[0] = x := ⟨_, rfl⟩
      rw [hx0] at hhd
      clear emS HE
      by_cases x32 : x0 = 32
      · have e1 : ((x0.toNat : Int) == 32) = true := eq8 (b := 32) x32
        clear K6 HU hSd x32 hhd
        go_wp2_with fail
        go_ret
        exact ⟨by simp, B7.out⟩
      · have e1 : ((x0.toNat : Int) == 32) = false := ne8 (b := 32) x32
        have hu := HU.out (by rw [hhd]; exact fun h => x32 (Option.some.inj h))
        simp only [hu, hSd.out] at K6
        clear HU hSd x32 hhd hu
        go_wp2_with fail
        refine (K6.out _).mono ?_
        rintro e w8 ⟨rfl, b8⟩
        have B8 := Lib.hid (B7.out.trans (b8.mono B7.out.size))
        clear b8 K6 B7
        go_wp2_with fail
        go_ret
        exact ⟨by simp, B8.out⟩
  · have g0 : 1000 < (s.size : Int) := by omega
    have g0b : decide ((s.size : Int) > 1000) = true := decide_eq_true (by omega)
    clear K hs hr hrb hl
    go_enter Tryd.func4, Tryd.ntmps4
    go_wp2_with fail
    refine (HA.out _).mono ?_
    rintro e w2 ⟨rfl, b2⟩
    have B2 := Lib.hid b2
    clear b2
    go_wp2_with fail
    refine (HA.out _).mono ?_
    rintro e w3 ⟨rfl, b3⟩
    have B3 := Lib.hid (B2.out.trans (b3.mono B2.out.size))
    clear b3
    go_wp2_with fail
    go_ret
    exact ⟨rfl, B3.out⟩

end Go.Proofs.YtpenjdnbnacebaaDoor.Kd
