/-
  THE WALK of the statement SpaninShort.
-/
import Derived.Test.YtjgmfgnfdaeelaaGreatDoorSi8Told
import Derived.Test.YtjgmfgnfdaeelaaGreatDoorPkG
import Derived.BigQuiet
import Derived.Deep.QuietTactic
namespace Go.Proofs.YtjgmfgnfdaeelaaGreatDoor.Sp
open Go.RowKit
open Go.Proofs.YtjgmfgnfdaeelaaGreatDoor.Tk (S S_of S_list S_size S_toList S_app ret_int eq8 ne8 at_data len_data)
open Go.Proofs.YtjgmfgnfdaeelaaGreatDoor.Cm (calls_at)
set_option linter.unusedVariables false

theorem sub_skip {x y : UInt8} {p t : List UInt8} (h : (x :: p).Sublist (y :: t)) (hne : y ≠ x) : (x :: p).Sublist t := by
  cases h with
  | cons _ h => exact h
  | cons_cons _ h => exact absurd rfl hne
theorem sub_take {x : UInt8} {p t : List UInt8} (h : (x :: p).Sublist (x :: t)) : p.Sublist t := List.cons_sublist_cons.1 h

set_option maxHeartbeats 3200000 in
theorem spaninShort_walk (K : Told8) (w : World) (s : ByteArray) (hs : s.size ≤ maxLen) (hr : s.size ≤ reachBytes) :
    Calls Tryz.prog 6 #[.string s] w (OkAns w true) := by
  have HA := Lib.hid (awake8_any K)
  clear hs
  by_cases hl : s.size ≤ 300
  · have g0 : ¬ 300 < (s.size : Int) := by omega
    have hT := Rdr_tot false false s.data.toList
    rw [len_data] at hT
    have hT2 : totAll (parseB s) ≤ 600 := by unfold parseB; omega
    have hPl := plAll_len (parseB s)
    have HP := Lib.hid (fun w => K.parse s w (by omega))
    have HQ := Lib.hid (fun (v : Value) (w' : World) (h : Tr w' v (parseB s)) => rplain_any 600 (parseB s) v w' hT2 (by omega) h)
    have hsub : (S (plAll (parseB s))).data.toList.Sublist s.data.toList := by rw [S_list]; exact Rdr_sub false false s.data.toList
    have hpz : (S (plAll (parseB s))).size ≤ 600 := by rw [S_size]; omega
    have HSub := Lib.hid hsub
    clear hr hT hT2 hPl hsub
    generalize parseB s = L at *
    generalize S (plAll L) = ps at *
    go_enter Tryz.func6, Tryz.ntmps6
    go_wp2_with fail
    refine (HA.out _).mono ?_
    rintro e w2 ⟨rfl, b2⟩
    have H2 := Lib.hid b2
    clear b2
    go_wp2_with fail
    refine (HP.out _).mono ?_
    rintro e w3 ⟨v3, rfl, b3, t3⟩
    have H3 := Lib.hid (H2.out.trans (b3.mono H2.out.size))
    have HQ3 := Lib.hid (HQ.out v3 w3 t3)
    clear b3 t3 HP HQ H2
    go_wp2_with fail
    refine HQ3.out.mono ?_
    rintro e w4 ⟨rfl, rfl⟩
    clear HQ3
    go_wp2_with fail
    go_loopw [4, 19] (fun av cv wr => ∃ k a : Nat, k ≤ ps.size ∧ a ≤ s.size ∧ cv = .int .i64 k ∧ av = .int .i64 a ∧ Hid (Below w.heap.size w wr) ∧ Hid ((ps.data.toList.drop k).Sublist (s.data.toList.drop a))) (fun _ cv _ => ps.size - (intOf cv).toNat)
    case atStart => exact ⟨0, 0, Nat.zero_le _, Nat.zero_le _, rfl, rfl, H3, Lib.hid (by rw [List.drop_zero, List.drop_zero]; exact HSub.out)⟩
    case round =>
      clear H3 HSub
      obtain ⟨k, a, hk, ha, rfl, rfl, HB, HS⟩ := hrel
      by_cases hlt : k < ps.size
      · have hi1 : (k : Int) < (ps.size : Int) := by omega
        have hsk := HS.out
        rw [at_data ps k hlt] at hsk
        have HS0 := Lib.hid hsk
        clear hsk HS
        go_wp2_with fail
        go_loopw [4] (fun av wx => ∃ a' : Nat, a' ≤ s.size ∧ av = .int .i64 a' ∧ Hid (Below w.heap.size w wx) ∧ Hid ((ps[k] :: ps.data.toList.drop (k + 1)).Sublist (s.data.toList.drop a'))) (fun av _ => s.size - (intOf av).toNat)
        case atStart => exact ⟨a, ha, rfl, HB, HS0⟩
        case round =>
          clear HB HS0
          obtain ⟨a', ha', rfl, HB, HS⟩ := hrel
          by_cases hla : a' < s.size
          · have hi2 : (a' : Int) < (s.size : Int) := by omega
            have hss := HS.out
            rw [at_data s a' hla] at hss
            by_cases hc : s[a'] = ps[k]
            · have e1 : ((s[a'].toNat : Int) != (ps[k].toNat : Int)) = false := by rw [hc]; simp
              have HN : Hid ((ps.data.toList.drop (k + 1)).Sublist (s.data.toList.drop (a' + 1))) := Lib.hid (by rw [hc] at hss; exact sub_take hss)
              have e2 : ((a' : Int) == (s.size : Int)) = false := by rw [beq_eq_false_iff_ne]; omega
              clear hss HS hc
              go_upto_region 8 with fail
              go_quiet (fail)
              have HB2 := Lib.hid (below_drewN HB.out nq)
              generalize wr.drewN nq = wn at *
              go_wp2_with fail
              go_roundw
              case rel => exact ⟨k + 1, a' + 1, by omega, by omega, by go_num, by go_num, HB2, HN⟩
              case measure => simp [intOf] <;> omega
            · have e1 : ((s[a'].toNat : Int) != (ps[k].toNat : Int)) = true := by
                rw [bne_iff_ne]
                intro h
                exact hc (UInt8.toNat_inj.1 (by omega))
              have HN : Hid ((ps[k] :: ps.data.toList.drop (k + 1)).Sublist (s.data.toList.drop (a' + 1))) := Lib.hid (sub_skip hss hc)
              clear hss HS hc
              go_upto_region 8 with fail
              go_quiet (fail)
              have HB2 := Lib.hid (below_drewN HB.out nq)
              generalize wr.drewN nq = wn at *
              go_wp2_with fail
              go_roundw
              case rel => exact ⟨a' + 1, by omega, by go_num, HB2, HN⟩
              case measure => simp [intOf] <;> omega
          · exfalso
            have hss := HS.out
            rw [drop_all s a' hla] at hss
            cases hss
      · have hi1 : ¬ (k : Int) < (ps.size : Int) := by omega
        clear HS
        go_wp2_with fail
        go_ret
        exact ⟨rfl, HB.out⟩
  · have g0 : 300 < (s.size : Int) := by omega
    go_enter Tryz.func6, Tryz.ntmps6
    go_wp2_with fail
    refine (HA.out _).mono ?_
    rintro e w2 ⟨rfl, b2⟩
    have H2 := Lib.hid b2
    clear b2
    go_wp2_with fail
    refine (HA.out _).mono ?_
    rintro e w3 ⟨rfl, b3⟩
    have H3 := Lib.hid (H2.out.trans (b3.mono H2.out.size))
    clear b3
    go_wp2_with fail
    go_ret
    exact ⟨rfl, H3.out⟩

end Go.Proofs.YtjgmfgnfdaeelaaGreatDoor.Sp
