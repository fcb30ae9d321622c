/-
  THE WALK of the statement SpaninCodes.
-/
import Derived.Test.YtjgmfgnfdaeelaaGreatDoorSi8Told
import Derived.Test.YtjgmfgnfdaeelaaGreatDoorSiFence
import Derived.Test.YtjgmfgnfdaeelaaGreatDoorPkG
namespace Go.Proofs.YtjgmfgnfdaeelaaGreatDoor.Sp
open Go.RowKit
open Go.Proofs.YtjgmfgnfdaeelaaGreatDoor.Tk (S S_of S_list S_size S_toList S_app ret_int eq8 ne8 at_data len_data cls)
open Go.Proofs.YtjgmfgnfdaeelaaGreatDoor.Cm (calls_at)
set_option linter.unusedVariables false

theorem tr_only {w : World} {v : Value} {q : Int} {t : List UInt8} (h : Tr w v [.mk q t []]) : ∃ b o ca, v = .slice (some ⟨b, o, none⟩) 1 ca ∧ w.cell? ⟨b, o, none⟩ = some (.int .i64 q) ∧ w.cell? ⟨b, o + 1, none⟩ = some (.string (S t)) := by
  obtain ⟨ao, ca, hv⟩ := h.len
  subst hv
  obtain ⟨b, o, ak, ck, rfl, hb, hC⟩ := h.at 0 (Nat.zero_lt_succ _)
  have h1 := hC.kind
  have h2 := hC.s
  simp only [Nat.zero_mul, Nat.add_zero, List.getElem_cons_zero, Sp.kind, Sp.s] at h1 h2
  exact ⟨b, o, ca, rfl, h1, h2⟩

set_option maxHeartbeats 6400000 in
set_option maxRecDepth 100000 in
theorem spaninCodes_walk (K : Told8) (w : World) (s : ByteArray) (hs : s.size ≤ maxLen) (hr : s.size ≤ reachBytes) :
    Calls Tryz.prog 8 #[.string s] w (OkAns w true) := by
  have HA := Lib.hid (awake8_any K)
  have emS : (s.toList == ([] : List UInt8)) = decide (s.size = 0) := by
    rw [Lib.toList_data, Bool.eq_iff_iff, beq_iff_eq, decide_eq_true_iff, ← len_data]
    exact List.length_eq_zero_iff.symm
  clear hs
  by_cases hl : s.size ≤ 100
  · have g0 : ¬ 100 < (s.size : Int) := by omega
    clear hr
    by_cases hz : s.size = 0
    · rw [decide_eq_true hz] at emS
      clear hz
      go_enter Tryz.func8, Tryz.ntmps8
      go_wp2_with fail
      refine (HA.out _).mono ?_
      rintro e w2 ⟨rfl, b2⟩
      have H2 := Lib.hid b2
      clear b2
      go_wp2_with fail
      refine (HA.out _).mono ?_
      rintro e w3 ⟨rfl, b3⟩
      have H3 := Lib.hid (H2.out.trans (b3.mono H2.out.size))
      clear b3
      go_wp2_with fail
      go_ret
      exact ⟨rfl, H3.out⟩
    · rw [decide_eq_false hz] at emS
      go_enter Tryz.func8, Tryz.ntmps8
      go_wp2_with fail
      refine (HA.out _).mono ?_
      rintro e w2 ⟨rfl, b2⟩
      have H2 := Lib.hid b2
      clear b2 HA
      go_wp2_with fail
      have hf0 : (⟨#[96]⟩ : ByteArray) = S (List.replicate (0 + 1) 96) := rfl
      go_loop [3, 4, 22] (fun ov fv cv => ∃ (k n : Nat) (ok : Bool), k ≤ s.size ∧ cv = .int .i64 k ∧ ov = .bool ok ∧ fv = .string (S (List.replicate (n + 1) 96)) ∧ Hid (ok = onlySp (s.data.toList.take k)) ∧ Hid (n = (s.data.toList.take k).count 96) ∧ Hid ((10 : UInt8) ∉ s.data.toList.take k)) (fun _ _ cv => s.size - (intOf cv).toNat)
      case atStart => exact ⟨0, 0, true, Nat.zero_le _, rfl, rfl, by rw [hf0], Lib.hid (by rw [List.take_zero]; rfl), Lib.hid (by rw [List.take_zero]; rfl), Lib.hid (by rw [List.take_zero]; simp)⟩
      case round =>
        obtain ⟨k, n, ok, hk, rfl, rfl, rfl, HOk, HCn, HNo⟩ := hrel
        have hn100 : n ≤ 100 := by
          have h1 := List.count_le_length (a := (96 : UInt8)) (l := s.data.toList.take k)
          rw [← HCn.out, List.length_take, len_data] at h1
          omega
        have zF : (S (List.replicate (n + 1) (96 : UInt8))).size = n + 1 := by rw [S_size, List.length_replicate]
        by_cases hlt : k < s.size
        · have hi1 : (k : Int) < (s.size : Int) := by omega
          by_cases h10 : s[k] = 10
          · have e10 : ((s[k].toNat : Int) == 10) = true := eq8 (b := 10) h10
            clear h10 HOk HCn HNo
            go_wp2_with fail
            go_ret
            exact ⟨rfl, H2.out⟩
          · have e10 : ((s[k].toNat : Int) == 10) = false := ne8 (b := 10) h10
            by_cases h13 : s[k] = 13
            · have e13 : ((s[k].toNat : Int) == 13) = true := eq8 (b := 13) h13
              clear h10 h13 HOk HCn HNo
              go_wp2_with fail
              go_ret
              exact ⟨rfl, H2.out⟩
            · have e13 : ((s[k].toNat : Int) == 13) = false := ne8 (b := 13) h13
              have e32 : ((s[k].toNat : Int) == 32) = (s[k] == 32) := by
                by_cases hc : s[k] = 32
                · rw [show (s[k] == 32) = true from by rw [hc]; rfl]; exact eq8 (b := 32) hc
                · rw [beq_eq_false_iff_ne.2 hc]; exact ne8 (b := 32) hc
              have HOk2 : Hid (onlySp (s.data.toList.take (k + 1)) = (ok && (s[k] == 32))) := Lib.hid (by
                rw [take_snoc s k hlt, HOk.out]
                unfold onlySp
                rw [List.all_append]
                simp)
              have HNo2 : Hid ((10 : UInt8) ∉ s.data.toList.take (k + 1)) := Lib.hid (by
                rw [take_snoc s k hlt]
                intro h
                rcases List.mem_append.1 h with h | h
                · exact HNo.out h
                · rw [List.mem_singleton] at h; exact h10 h.symm)
              have hcn2 : (s.data.toList.take (k + 1)).count 96 = n + (if s[k] = 96 then 1 else 0) := by
                rw [take_snoc s k hlt, List.count_append, ← HCn.out]
                congr 1
                by_cases h : s[k] = 96
                · rw [h, if_pos rfl]; rfl
                · rw [if_neg h, List.count_cons_of_ne h]; rfl
              have z1 : (S [(96 : UInt8)]).size = 1 := rfl
              have gF : ¬ 9223372036854775807 < n + 1 + (S [(96 : UInt8)]).size := by omega
              have hap : S (List.replicate (n + 1) (96 : UInt8)) ++ S [(96 : UInt8)] = S (List.replicate (n + 1 + 1) 96) := by
                rw [S_app, ← List.replicate_succ']
              have Hap := Lib.hid hap
              clear hap HOk HCn HNo h10 h13
              cases ok with
              | true =>
                by_cases h96 : s[k] = 96
                · have e96 : ((s[k].toNat : Int) == 96) = true := eq8 (b := 96) h96
                  rw [if_pos h96] at hcn2
                  have HCx : Hid (n + 1 = (s.data.toList.take (k + 1)).count 96) := Lib.hid hcn2.symm
                  clear h96 hcn2
                  go_wp2_with fail
                  go_round
                  case rel => exact ⟨k + 1, n + 1, _, by omega, by go_num, rfl, by rw [Hap.out], Lib.hid (by rw [HOk2.out]; rfl), HCx, HNo2⟩
                  case measure => simp [intOf]; omega
                · have e96 : ((s[k].toNat : Int) == 96) = false := ne8 (b := 96) h96
                  rw [if_neg h96] at hcn2
                  have HCx : Hid (n = (s.data.toList.take (k + 1)).count 96) := Lib.hid hcn2.symm
                  clear h96 hcn2
                  go_wp2_with fail
                  go_round
                  case rel => exact ⟨k + 1, n, _, by omega, by go_num, rfl, rfl, Lib.hid (by rw [HOk2.out]; rfl), HCx, HNo2⟩
                  case measure => simp [intOf]; omega
              | false =>
                by_cases h96 : s[k] = 96
                · have e96 : ((s[k].toNat : Int) == 96) = true := eq8 (b := 96) h96
                  rw [if_pos h96] at hcn2
                  have HCx : Hid (n + 1 = (s.data.toList.take (k + 1)).count 96) := Lib.hid hcn2.symm
                  clear h96 hcn2
                  go_wp2_with fail
                  go_round
                  case rel => exact ⟨k + 1, n + 1, false, by omega, by go_num, rfl, by rw [Hap.out], Lib.hid (by rw [HOk2.out]; rfl), HCx, HNo2⟩
                  case measure => simp [intOf]; omega
                · have e96 : ((s[k].toNat : Int) == 96) = false := ne8 (b := 96) h96
                  rw [if_neg h96] at hcn2
                  have HCx : Hid (n = (s.data.toList.take (k + 1)).count 96) := Lib.hid hcn2.symm
                  clear h96 hcn2
                  go_wp2_with fail
                  go_round
                  case rel => exact ⟨k + 1, n, false, by omega, by go_num, rfl, rfl, Lib.hid (by rw [HOk2.out]; rfl), HCx, HNo2⟩
                  case measure => simp [intOf]; omega
        · obtain rfl : k = s.size := by omega
          have hT : s.data.toList.take s.size = s.data.toList := List.take_of_length_le (by rw [len_data]; exact Nat.le_refl _)
          rw [hT] at HOk HCn HNo
          have hfe := Rdr_fence s.data.toList (n + 1) (by rw [← HCn.out]; omega) HNo.out
          have HStr : Hid ((((S (List.replicate (n + 1) (96 : UInt8)) ++ (⟨#[32]⟩ : ByteArray)) ++ s) ++ (⟨#[32]⟩ : ByteArray)) ++ S (List.replicate (n + 1) 96) = S (List.replicate (n + 1) 96 ++ (32 :: (s.data.toList ++ [32]) ++ List.replicate (n + 1) 96))) := Lib.hid (by
            conv => lhs; rw [← S_of s]
            rw [show (⟨#[32]⟩ : ByteArray) = S [32] from rfl, S_app, S_app, S_app, S_app]
            congr 1
            simp)
          have HPad : Hid (((⟨#[32]⟩ : ByteArray) ++ s) ++ (⟨#[32]⟩ : ByteArray) = S (32 :: (s.data.toList ++ [32]))) := Lib.hid (by
            conv => lhs; rw [← S_of s]
            rw [show (⟨#[32]⟩ : ByteArray) = S [32] from rfl, S_app, S_app]
            congr 1)
          have z1 : (⟨#[32]⟩ : ByteArray).size = 1 := rfl
          have y1 : (S (List.replicate (n + 1) (96 : UInt8)) ++ (⟨#[32]⟩ : ByteArray)).size = n + 2 := by rw [ByteArray.size_append, zF]; rfl
          have y2 : ((S (List.replicate (n + 1) (96 : UInt8)) ++ (⟨#[32]⟩ : ByteArray)) ++ s).size = n + 2 + s.size := by rw [ByteArray.size_append, y1]
          have y3 : (((S (List.replicate (n + 1) (96 : UInt8)) ++ (⟨#[32]⟩ : ByteArray)) ++ s) ++ (⟨#[32]⟩ : ByteArray)).size = n + 3 + s.size := by rw [ByteArray.size_append, y2, z1]; omega
          have y4 : ((⟨#[32]⟩ : ByteArray) ++ s).size = 1 + s.size := by rw [ByteArray.size_append, z1]
          have gg1 : ¬ 9223372036854775807 < (S (List.replicate (n + 1) (96 : UInt8))).size + (⟨#[32]⟩ : ByteArray).size := by omega
          have gg2 : ¬ 9223372036854775807 < (S (List.replicate (n + 1) (96 : UInt8)) ++ (⟨#[32]⟩ : ByteArray)).size + s.size := by omega
          have gg3 : ¬ 9223372036854775807 < ((S (List.replicate (n + 1) (96 : UInt8)) ++ (⟨#[32]⟩ : ByteArray)) ++ s).size + (⟨#[32]⟩ : ByteArray).size := by omega
          have gg4 : ¬ 9223372036854775807 < (((S (List.replicate (n + 1) (96 : UInt8)) ++ (⟨#[32]⟩ : ByteArray)) ++ s) ++ (⟨#[32]⟩ : ByteArray)).size + (S (List.replicate (n + 1) (96 : UInt8))).size := by omega
          have gg5 : ¬ 9223372036854775807 < (⟨#[32]⟩ : ByteArray).size + s.size := by omega
          have gg6 : ¬ 9223372036854775807 < ((⟨#[32]⟩ : ByteArray) ++ s).size + (⟨#[32]⟩ : ByteArray).size := by omega
          have HP : Hid (∀ w, Calls Tryz.prog 15 #[.string ((((S (List.replicate (n + 1) (96 : UInt8)) ++ (⟨#[32]⟩ : ByteArray)) ++ s) ++ (⟨#[32]⟩ : ByteArray)) ++ S (List.replicate (n + 1) 96))] w (TrAns w [.mk 2 (if onlySp s.data.toList = true then 32 :: (s.data.toList ++ [32]) else s.data.toList) []])) := Lib.hid (fun w => by
            have h := K.parse ((((S (List.replicate (n + 1) (96 : UInt8)) ++ (⟨#[32]⟩ : ByteArray)) ++ s) ++ (⟨#[32]⟩ : ByteArray)) ++ S (List.replicate (n + 1) 96)) w (by rw [ByteArray.size_append, y3, zF]; omega)
            have e : parseB ((((S (List.replicate (n + 1) (96 : UInt8)) ++ (⟨#[32]⟩ : ByteArray)) ++ s) ++ (⟨#[32]⟩ : ByteArray)) ++ S (List.replicate (n + 1) 96)) = [.mk 2 (if onlySp s.data.toList = true then 32 :: (s.data.toList ++ [32]) else s.data.toList) []] := by
              unfold parseB
              rw [HStr.out, S_list]
              exact hfe
            rwa [e] at h)
          have ho := HOk.out
          rw [← ho] at HP
          clear HOk HCn HNo hT hlt K hfe HStr ho
          cases ok with
          | true =>
            rw [if_pos rfl] at HP
            have q1 : ((S (32 :: (s.data.toList ++ [32]))).toList == (((⟨#[32]⟩ : ByteArray) ++ s) ++ (⟨#[32]⟩ : ByteArray)).toList) = true := by rw [HPad.out]; simp
            go_wp2_with fail
            refine (HP.out _).mono ?_
            rintro e w3 ⟨v3, rfl, b3, t3⟩
            have H3 := Lib.hid (H2.out.trans (b3.mono H2.out.size))
            obtain ⟨b, o, ca, rfl, d0, d1⟩ := tr_only t3
            clear b3 t3 HP
            go_wp2_with fail
            go_ret
            exact ⟨rfl, H3.out⟩
          | false =>
            rw [if_neg (by simp)] at HP
            have q1 : (s.toList == s.toList) = true := by simp
            go_wp2_with fail
            refine (HP.out _).mono ?_
            rintro e w3 ⟨v3, rfl, b3, t3⟩
            have H3 := Lib.hid (H2.out.trans (b3.mono H2.out.size))
            obtain ⟨b, o, ca, rfl, d0, d1⟩ := tr_only t3
            rw [S_of] at d1
            clear b3 t3 HP
            go_wp2_with fail
            go_ret
            exact ⟨rfl, H3.out⟩
  · have g0 : 100 < (s.size : Int) := by omega
    clear emS
    go_enter Tryz.func8, Tryz.ntmps8
    go_wp2_with fail
    refine (HA.out _).mono ?_
    rintro e w2 ⟨rfl, b2⟩
    have H2 := Lib.hid b2
    clear b2
    go_wp2_with fail
    refine (HA.out _).mono ?_
    rintro e w3 ⟨rfl, b3⟩
    have H3 := Lib.hid (H2.out.trans (b3.mono H2.out.size))
    clear b3
    go_wp2_with fail
    go_ret
    exact ⟨rfl, H3.out⟩

end Go.Proofs.YtjgmfgnfdaeelaaGreatDoor.Sp
