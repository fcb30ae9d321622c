/-
  THE WALK of the statement SpaninNormal.
-/
import Derived.Test.YtjgmfgnfdaeelaaGreatDoorSiNormal
namespace Go.Proofs.YtjgmfgnfdaeelaaGreatDoor.Sp
open Go.RowKit
open Go.Proofs.YtjgmfgnfdaeelaaGreatDoor.Tk (S S_of S_list S_size S_toList S_app ret_int eq8 ne8 at_data len_data)
open Go.Proofs.YtjgmfgnfdaeelaaGreatDoor.Cm (calls_at)
set_option linter.unusedVariables false

mutual
theorem fo_of {R : Nat} (hR : 1000 ≤ R) (e k : Bool) : ∀ x : Sp, fit1 e k x → totOne x ≤ 1000 → fitOne R x
  | .mk q s l, hf, ht => by
    rw [totOne_mk] at ht
    have hk := fit_kind hf
    have ih := fun e k p h => fa_of hR e k p l h (by omega)
    rw [fit1] at hf
    unfold fitOne
    refine ⟨by omega, by omega, ?_⟩
    rcases hf with h | h | h | h
    · rw [h.2.1]; unfold fitAll; trivial
    · rw [h.2.1]; unfold fitAll; trivial
    · exact ih true k 0 h.2.2.2.2
    · exact ih e true 0 h.2.2.2.2.2
theorem fa_of {R : Nat} (hR : 1000 ≤ R) (e k : Bool) (p : Int) : ∀ L : List Sp, fits e k p L → totAll L ≤ 1000 → fitAll R L
  | [], _, _ => by unfold fitAll; trivial
  | .mk q s l :: r, hf, ht => by
    rw [totAll_cons] at ht
    rw [fits] at hf
    unfold fitAll
    exact ⟨fo_of hR e k (.mk q s l) hf.1 (by omega), fa_of hR e k q r hf.2.2 (by omega)⟩
end
theorem parse_fit (s : ByteArray) (hs : s.size ≤ 300) : totAll (parseB s) ≤ 1000 ∧ fitAll 140737488355328 (parseB s) := by
  have hT : totAll (parseB s) ≤ 1000 := by
    have := Rdr_tot false false s.data.toList
    rw [len_data] at this
    unfold parseB
    omega
  exact ⟨hT, fa_of (by decide) false false 0 (parseB s) (read_fits s.data.toList.length false false s.data.toList).1 hT⟩

set_option maxHeartbeats 1600000 in
theorem spaninNormal_walk (K : Told8) (w : World) (s : ByteArray) (hs : s.size ≤ maxLen) (hr : s.size ≤ reachBytes) :
    Calls Tryz.prog 4 #[.string s] w (OkAns w true) := by
  have HA := Lib.hid (awake8_any K)
  clear hs
  by_cases hl : s.size ≤ 300
  · have g0 : ¬ 300 < (s.size : Int) := by omega
    have HC := Lib.hid (fun w => K.clean s w (by omega))
    have HP := Lib.hid (fun w => K.parse s w (by omega))
    obtain ⟨hT, hF⟩ := parse_fit s hl
    have HRp := Lib.hid (fun (v : Value) (w' : World) (h : Tr w' v (parseB s)) => K.right v (parseB s) w' h (by omega) hF)
    have HRr := Lib.hid (fun (v : Value) (w' : World) (h : Tr w' v (parseB s)) => rright_any (parseB s) v w' hF h)
    have HNl := Lib.hid (parse_nil (s := s))
    have HN := Lib.hid (parse_normal hl)
    have HEm : Hid ((s.toList == ([] : List UInt8)) = decide (s.size = 0)) := Lib.hid (by
      rw [Lib.toList_data, Bool.eq_iff_iff, beq_iff_eq, decide_eq_true_iff, ← len_data]
      exact List.length_eq_zero_iff.symm)
    clear hr hT hF
    cases hc : clnB s with
    | false =>
      rw [hc] at HC
      clear HP HRp HRr HNl HN HEm hc
      go_enter Tryz.func4, Tryz.ntmps4
      go_wp2_with fail
      refine (HA.out _).mono ?_
      rintro e w2 ⟨rfl, b2⟩
      have H2 := Lib.hid b2
      clear b2
      go_wp2_with fail
      refine (HC.out _).mono ?_
      rintro e w3 ⟨rfl, b3⟩
      have H3 := Lib.hid (H2.out.trans (b3.mono H2.out.size))
      clear b3
      go_wp2_with fail
      refine (HA.out _).mono ?_
      rintro e w4 ⟨rfl, b4⟩
      have H4 := Lib.hid (H3.out.trans (b4.mono H3.out.size))
      clear b4
      go_wp2_with fail
      go_ret
      exact ⟨rfl, H4.out⟩
    | true =>
      rw [hc] at HC
      have hrt := HN.out hc
      rw [hrt] at HRp HRr
      have hEq : (((parseB s).length : Int) == 0) = decide (s.size = 0) := by
        rw [Bool.eq_iff_iff, beq_iff_eq, decide_eq_true_iff]
        constructor
        · intro h
          exact HNl.out.1 (List.eq_nil_of_length_eq_zero (by omega))
        · intro h
          rw [HNl.out.2 h]; rfl
      have em := HEm.out
      obtain ⟨em0, hem0⟩ : ∃ b, decide (s.size = 0) = b := ⟨_, rfl⟩
      rw [hem0] at hEq em
      clear hc hrt HN HNl HEm hem0
      generalize parseB s = L at *
      go_enter Tryz.func4, Tryz.ntmps4
      go_wp2_with fail
      refine (HA.out _).mono ?_
      rintro e w2 ⟨rfl, b2⟩
      have H2 := Lib.hid b2
      clear b2
      go_wp2_with fail
      refine (HC.out _).mono ?_
      rintro e w3 ⟨rfl, b3⟩
      have H3 := Lib.hid (H2.out.trans (b3.mono H2.out.size))
      clear b3
      go_wp2_with fail
      refine (HP.out _).mono ?_
      rintro e w4 ⟨v4, rfl, b4, t4⟩
      have H4 := Lib.hid (H3.out.trans (b4.mono H3.out.size))
      have T4 := Lib.hid t4
      obtain ⟨ao, ca, rfl⟩ := t4.len
      clear b4 t4
      go_wp2_with fail
      refine (HRp.out _ w4 T4.out).mono ?_
      rintro e w5 ⟨rfl, b5⟩
      have H5 := Lib.hid (H4.out.trans (b5.mono H4.out.size))
      have T5 := Lib.hid (T4.out.below b5)
      clear b5
      go_wp2_with fail
      refine (HRr.out _ w5 T5.out).mono ?_
      rintro e w6 ⟨rfl, b6⟩
      have H6 := Lib.hid (H5.out.trans (b6.mono H5.out.size))
      clear b6
      have ee : (em0 == em0) = true := by simp
      go_wp2_with fail
      go_ret
      exact ⟨rfl, H6.out⟩
  · have g0 : 300 < (s.size : Int) := by omega
    go_enter Tryz.func4, Tryz.ntmps4
    go_wp2_with fail
    refine (HA.out _).mono ?_
    rintro e w2 ⟨rfl, b2⟩
    have H2 := Lib.hid b2
    clear b2
    go_wp2_with fail
    refine (HA.out _).mono ?_
    rintro e w3 ⟨rfl, b3⟩
    have H3 := Lib.hid (H2.out.trans (b3.mono H2.out.size))
    clear b3
    go_wp2_with fail
    go_ret
    exact ⟨rfl, H3.out⟩

end Go.Proofs.YtjgmfgnfdaeelaaGreatDoor.Sp
