import Derived.Test.YtihihgfcklkkhaaGreatDoorPkAB
import Derived.Test.YtihihgfcklkkhaaGreatDoorPkAD
import Derived.Test.YtihihgfcklkkhaaGreatDoorBt10Told
namespace Go.Proofs.YtihihgfcklkkhaaGreatDoor.Pa
open Go.RowKit
open Go.Proofs.YtihihgfcklkkhaaGreatDoor.Tk (S S_of S_list S_size S_toList S_app ret_int eq8 ne8 at_data len_data Rd)
open Go.Proofs.YtihihgfcklkkhaaGreatDoor.Sp (ret_bool OkAns)
open Go.Proofs.YtihihgfcklkkhaaGreatDoor.Bt (TrB rgB fitAll ttAll rrightB_any fitAll_wide)
open Go.Proofs.YtihihgfcklkkhaaGreatDoor.Bk (Tx Bk kindOf)
open Go.Proofs.YtihihgfcklkkhaaGreatDoor.Utf (chk)
set_option linter.unusedVariables false
theorem doc_normal (s : Tx) (hs : s.length ≤ 20000) : ((docB s).2 = 0 ∧ rgB (docB s).1 = true ∧ fitAll 200000 (docB s).1 ∧ ttAll (docB s).1 ≤ 90000) ∨ ((docB s).1 = [] ∧ ((docB s).2 = 2 ∨ (docB s).2 = 3 ∨ (docB s).2 = 5)) := by
  unfold docB
  by_cases hc : chk (S s) = 0
  · rw [if_pos hc]
    have ht := split_tot s []
    simp only [List.length_nil] at ht
    have ht' : tot (Ln.split s).1 ≤ 20001 := by unfold Ln.split; omega
    unfold lnsB
    cases ha : allE 0 (Ln.split s).1 with
    | none => exact Or.inr ⟨rfl, Or.inr (Or.inr rfl)⟩
    | some bs =>
      have h1 := all_tt 0 _ bs ha
      exact Or.inl ⟨rfl, all_rg _ bs ha (split_lt hc) (by omega), all_fit 0 _ bs ha (by omega), by show ttAll bs ≤ 90000; omega⟩
  · rw [if_neg hc]
    refine Or.inr ⟨rfl, ?_⟩
    show chk (S s) = 2 ∨ chk (S s) = 3 ∨ chk (S s) = 5
    unfold chk at hc ⊢
    rw [if_neg (by rw [S_size]; omega)] at hc ⊢
    split
    · exact Or.inr (Or.inl rfl)
    · rename_i h1
      rw [if_neg h1] at hc
      split
      · rename_i h2
        rw [if_pos h2] at hc
        exact absurd rfl hc
      · exact Or.inl rfl
set_option maxHeartbeats 1600000 in
theorem parseNormal_walk (K : Told12) (KR : RightC) (w : World) (s : ByteArray) (hs : s.size ≤ maxLen) (hr : s.size ≤ reachBytes) :
    Calls Tryz.prog 4 #[.string s] w (OkAns w true) := by
  have HA := Lib.hid (awake12_any K)
  by_cases h7 : s.size ≤ 700
  · have g1 : decide ((s.size : Int) > 700) = false := decide_eq_false (by omega)
    have g2 : decide ((700 : Int) < (s.size : Int)) = false := decide_eq_false (by omega)
    have g3 : decide (700 < s.size) = false := decide_eq_false (by omega)
    have HD := Lib.hid (fun w' => K.doc s w' (by omega))
    have hn := doc_normal s.data.toList (by rw [len_data]; omega)
    unfold LnsAns at HD
    generalize docB s.data.toList = X at *
    obtain ⟨l, e⟩ := X
    simp only at HD hn
    rcases hn with ⟨he, hrg, hft, htt⟩ | ⟨hl, he⟩
    · have HR1 := Lib.hid (fun v w' ht => KR v l w' ht (fitAll_wide (by decide) l hft) (by omega))
      have HR2 := Lib.hid (fun v w' ht => rrightB_any l v w' (fitAll_wide (by decide) l hft) (by omega) ht)
      rw [hrg] at HR1 HR2
      subst he
      clear K KR hs hr h7 hrg hft htt
      go_enter Tryz.func4, Tryz.ntmps4
      go_wp2_with fail
      refine (HA.out _).mono ?_
      rintro e w2 ⟨rfl, b2⟩
      have HB2 := Lib.hid b2
      clear b2 HA
      go_wp2_with fail
      refine (HD.out _).mono ?_
      rintro e w3 ⟨u, rfl, ht, b3⟩
      have HT := Lib.hid ht
      have HB3 := Lib.hid (HB2.out.trans (b3.mono HB2.out.size))
      clear ht b3 HD
      go_wp2_with fail
      refine (HR1.out _ _ HT.out).mono ?_
      rintro e w4 ⟨rfl, b4⟩
      have HT2 := Lib.hid (HT.out.below b4)
      have HB4 := Lib.hid (HB3.out.trans (b4.mono HB3.out.size))
      clear b4 HR1 HT
      go_wp2_with fail
      refine (HR2.out _ _ HT2.out).mono ?_
      rintro e w5 ⟨rfl, b5⟩
      have HB5 := Lib.hid (HB4.out.trans (b5.mono HB4.out.size))
      clear b5 HR2
      go_wp2_with fail
      go_ret
      exact ⟨rfl, HB5.out⟩
    · subst hl
      clear K KR hs hr h7
      have e1 : (e != 0) = true := by rw [bne_iff_ne]; omega
      go_enter Tryz.func4, Tryz.ntmps4
      go_wp2_with fail
      refine (HA.out _).mono ?_
      rintro e' w2 ⟨rfl, b2⟩
      have HB2 := Lib.hid b2
      clear b2 HA
      go_wp2_with fail
      refine (HD.out _).mono ?_
      rintro e' w3 ⟨u, rfl, ht, b3⟩
      obtain ⟨ao, cap, rfl⟩ := ht.len
      have HB3 := Lib.hid (HB2.out.trans (b3.mono HB2.out.size))
      have hl0 : ([] : List Bk).length = 0 := rfl
      rw [hl0]
      clear ht b3 HD hl0
      rcases he with he | he | he
      · subst he
        go_wp2_with fail
        go_ret
        exact ⟨rfl, HB3.out⟩
      · subst he
        go_wp2_with fail
        go_ret
        exact ⟨rfl, HB3.out⟩
      · subst he
        go_wp2_with fail
        go_ret
        exact ⟨rfl, HB3.out⟩
  · have g1 : decide ((s.size : Int) > 700) = true := decide_eq_true (by omega)
    have g2 : decide ((700 : Int) < (s.size : Int)) = true := decide_eq_true (by omega)
    have g3 : decide (700 < s.size) = true := decide_eq_true (by omega)
    clear K KR h7
    go_enter Tryz.func4, Tryz.ntmps4
    go_wp2_with fail
    refine (HA.out _).mono ?_
    rintro e w2 ⟨rfl, b2⟩
    have HB2 := Lib.hid b2
    clear b2
    go_wp2_with fail
    refine (HA.out _).mono ?_
    rintro e w3 ⟨rfl, b3⟩
    have HB3 := Lib.hid (HB2.out.trans (b3.mono HB2.out.size))
    clear b3
    go_wp2_with fail
    go_ret
    exact ⟨rfl, HB3.out⟩
end Go.Proofs.YtihihgfcklkkhaaGreatDoor.Pa
