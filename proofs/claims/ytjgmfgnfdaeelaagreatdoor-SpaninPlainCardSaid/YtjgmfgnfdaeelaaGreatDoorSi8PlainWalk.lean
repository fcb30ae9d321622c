/-
  THE WALK of the statement SpaninPlain.
-/
import Derived.Test.YtjgmfgnfdaeelaaGreatDoorSi8Told
import Derived.Test.YtjgmfgnfdaeelaaGreatDoorPkG
namespace Go.Proofs.YtjgmfgnfdaeelaaGreatDoor.Sp
open Go.RowKit
open Go.Proofs.YtjgmfgnfdaeelaaGreatDoor.Tk (S S_of S_list S_size S_toList S_app ret_int eq8 ne8 at_data len_data cls)
open Go.Proofs.YtjgmfgnfdaeelaaGreatDoor.Cm (calls_at)
set_option linter.unusedVariables false

theorem one_eq (x c : UInt8) : ((S [x]).toList == ([c] : List UInt8)) = decide (x = c) := by
  rw [S_toList, Bool.eq_iff_iff, beq_iff_eq, decide_eq_true_iff]
  exact ⟨fun h => (List.cons.inj h).1, fun h => by rw [h]⟩
theorem tr_head {w : World} {v : Value} {t : List UInt8} (h : Tr w v (oneT t)) (ht : t ≠ []) : ∃ b o ca, v = .slice (some ⟨b, o, none⟩) 1 ca ∧ w.cell? ⟨b, o, none⟩ = some (.int .i64 1) ∧ w.cell? ⟨b, o + 1, none⟩ = some (.string (S t)) := by
  have e : oneT t = [.mk 1 t []] := by unfold oneT; rw [if_neg ht]
  rw [e] at h
  obtain ⟨ao, ca, hv⟩ := h.len
  subst hv
  obtain ⟨b, o, ak, ck, rfl, hb, hC⟩ := h.at 0 (Nat.zero_lt_succ _)
  have h1 := hC.kind
  have h2 := hC.s
  simp only [Nat.zero_mul, Nat.add_zero, List.getElem_cons_zero, Sp.kind, Sp.s] at h1 h2
  exact ⟨b, o, ca, rfl, h1, h2⟩

set_option maxHeartbeats 6400000 in
set_option maxRecDepth 100000 in
theorem spaninPlain_walk (K : Told8) (w : World) (s : ByteArray) (hs : s.size ≤ maxLen) (hr : s.size ≤ reachBytes) :
    Calls Tryz.prog 5 #[.string s] w (OkAns w true) := by
  have HA := Lib.hid (awake8_any K)
  clear hs
  by_cases hl : s.size ≤ 300
  · have g0 : ¬ 300 < (s.size : Int) := by omega
    clear hr
    go_enter Tryz.func5, Tryz.ntmps5
    go_wp2_with fail
    refine (HA.out _).mono ?_
    rintro e w2 ⟨rfl, b2⟩
    have H2 := Lib.hid b2
    clear b2 HA
    go_wp2_with fail
    go_loop [3, 4, 19] (fun av bv cv => ∃ (k : Nat) (A B : List UInt8), k ≤ s.size ∧ cv = .int .i64 k ∧ av = .string (S A) ∧ bv = .string (S B) ∧ Hid (A = noSp (s.data.toList.take k)) ∧ Hid (B = escA (s.data.toList.take k))) (fun _ _ cv => s.size - (intOf cv).toNat)
    case atStart => exact ⟨0, [], [], Nat.zero_le _, rfl, rfl, rfl, Lib.hid (by rw [List.take_zero]; rfl), Lib.hid (by rw [List.take_zero]; rfl)⟩
    case round =>
      obtain ⟨k, A, B, hk, rfl, rfl, rfl, HAe, HBe⟩ := hrel
      have hAl : A.length ≤ 300 := by
        have h1 := noSp_len (s.data.toList.take k)
        rw [← HAe.out, List.length_take, len_data] at h1
        omega
      have hBl : B.length ≤ 600 := by
        have h1 := escA_len (s.data.toList.take k)
        rw [← HBe.out, List.length_take, len_data] at h1
        omega
      have zA : (S A).size = A.length := S_size _
      have zB : (S B).size = B.length := S_size _
      by_cases hlt : k < s.size
      · have hi1 : (k : Int) < (s.size : Int) := by omega
        have hsl := sliceS s k (k + 1) (Nat.le_succ k) hlt
        rw [one_S s k hlt, show ((k + 1 : Nat) : Int) = (k : Int) + 1 by omega] at hsl
        have hAn := noSp_snoc (s.data.toList.take k) s[k]
        have hBn := escA_snoc (s.data.toList.take k) s[k]
        rw [← take_snoc s k hlt] at hAn hBn
        rw [← HAe.out] at hAn
        rw [← HBe.out] at hBn
        have q92 := one_eq s[k] 92
        have q42 := one_eq s[k] 42
        have q91 := one_eq s[k] 91
        have q93 := one_eq s[k] 93
        have q96 := one_eq s[k] 96
        have z1 : (S [s[k]]).size = 1 := S_size _
        have zbs : (⟨#[92]⟩ : ByteArray).size = 1 := rfl
        have hbs : (⟨#[92]⟩ : ByteArray) = S [92] := rfl
        have zB1 : (S B ++ (⟨#[92]⟩ : ByteArray)).size = B.length + 1 := by rw [hbs, S_app, S_size]; simp
        have gA : ¬ 9223372036854775807 < (S A).size + (S [s[k]]).size := by omega
        have gB : ¬ 9223372036854775807 < (S B).size + (S [s[k]]).size := by omega
        have gB1 : ¬ 9223372036854775807 < (S B).size + (⟨#[92]⟩ : ByteArray).size := by omega
        have gB2 : ¬ 9223372036854775807 < (S B ++ (⟨#[92]⟩ : ByteArray)).size + (S [s[k]]).size := by omega
        have HapA := Lib.hid (S_app A [s[k]])
        have HapB := Lib.hid (S_app B [s[k]])
        have HapB2 : Hid ((S B ++ (⟨#[92]⟩ : ByteArray)) ++ S [s[k]] = S (B ++ [92, s[k]])) := Lib.hid (by rw [hbs, S_app, S_app]; simp)
        have h256 : (s[k].toNat : Int) < 256 := by have := s[k].toNat_lt; omega
        clear HAe HBe hbs
        by_cases h92 : s[k] = 92
        · skip
          as_aux_lemma =>
            have hsp : spcB s[k] = true := by rw [h92]; decide
            have h4 : cls s[k] = 4 := by rw [h92]; decide
            have hn : (s[k].toNat : Int) = 92 := by rw [h92]; rfl
            rw [decide_eq_true h92] at q92
            rw [decide_eq_false (by rw [h92]; decide)] at q42
            rw [decide_eq_false (by rw [h92]; decide)] at q91
            rw [decide_eq_false (by rw [h92]; decide)] at q93
            rw [decide_eq_false (by rw [h92]; decide)] at q96
            clear h92
            have HAx : Hid (A = noSp (s.data.toList.take (k + 1))) := Lib.hid (by rw [hAn, hsp]; simp)
            have HBx : Hid (B ++ [92, s[k]] = escA (s.data.toList.take (k + 1))) := Lib.hid (by rw [hBn]; rw [if_pos h4])
            clear hAn hBn hsp h4
            go_wp2_with fail
            go_round
            case rel => exact ⟨k + 1, A, B ++ [92, s[k]], by omega, by go_num, rfl, by rw [HapB2.out], HAx, HBx⟩
            case measure => simp [intOf]; omega
        · skip
          by_cases h42 : s[k] = 42
          · skip
            as_aux_lemma =>
              have hsp : spcB s[k] = true := by rw [h42]; decide
              have h4 : cls s[k] = 4 := by rw [h42]; decide
              have hn : (s[k].toNat : Int) = 42 := by rw [h42]; rfl
              rw [decide_eq_false (by rw [h42]; decide)] at q92
              rw [decide_eq_true h42] at q42
              rw [decide_eq_false (by rw [h42]; decide)] at q91
              rw [decide_eq_false (by rw [h42]; decide)] at q93
              rw [decide_eq_false (by rw [h42]; decide)] at q96
              clear h42
              have HAx : Hid (A = noSp (s.data.toList.take (k + 1))) := Lib.hid (by rw [hAn, hsp]; simp)
              have HBx : Hid (B ++ [92, s[k]] = escA (s.data.toList.take (k + 1))) := Lib.hid (by rw [hBn]; rw [if_pos h4])
              clear hAn hBn hsp h4
              go_wp2_with fail
              go_round
              case rel => exact ⟨k + 1, A, B ++ [92, s[k]], by omega, by go_num, rfl, by rw [HapB2.out], HAx, HBx⟩
              case measure => simp [intOf]; omega
          · skip
            by_cases h91 : s[k] = 91
            · skip
              as_aux_lemma =>
                have hsp : spcB s[k] = true := by rw [h91]; decide
                have h4 : cls s[k] = 4 := by rw [h91]; decide
                have hn : (s[k].toNat : Int) = 91 := by rw [h91]; rfl
                rw [decide_eq_false (by rw [h91]; decide)] at q92
                rw [decide_eq_false (by rw [h91]; decide)] at q42
                rw [decide_eq_true h91] at q91
                rw [decide_eq_false (by rw [h91]; decide)] at q93
                rw [decide_eq_false (by rw [h91]; decide)] at q96
                clear h91
                have HAx : Hid (A = noSp (s.data.toList.take (k + 1))) := Lib.hid (by rw [hAn, hsp]; simp)
                have HBx : Hid (B ++ [92, s[k]] = escA (s.data.toList.take (k + 1))) := Lib.hid (by rw [hBn]; rw [if_pos h4])
                clear hAn hBn hsp h4
                go_wp2_with fail
                go_round
                case rel => exact ⟨k + 1, A, B ++ [92, s[k]], by omega, by go_num, rfl, by rw [HapB2.out], HAx, HBx⟩
                case measure => simp [intOf]; omega
            · skip
              by_cases h93 : s[k] = 93
              · skip
                as_aux_lemma =>
                  have hsp : spcB s[k] = true := by rw [h93]; decide
                  have h4 : cls s[k] = 4 := by rw [h93]; decide
                  have hn : (s[k].toNat : Int) = 93 := by rw [h93]; rfl
                  rw [decide_eq_false (by rw [h93]; decide)] at q92
                  rw [decide_eq_false (by rw [h93]; decide)] at q42
                  rw [decide_eq_false (by rw [h93]; decide)] at q91
                  rw [decide_eq_true h93] at q93
                  rw [decide_eq_false (by rw [h93]; decide)] at q96
                  clear h93
                  have HAx : Hid (A = noSp (s.data.toList.take (k + 1))) := Lib.hid (by rw [hAn, hsp]; simp)
                  have HBx : Hid (B ++ [92, s[k]] = escA (s.data.toList.take (k + 1))) := Lib.hid (by rw [hBn]; rw [if_pos h4])
                  clear hAn hBn hsp h4
                  go_wp2_with fail
                  go_round
                  case rel => exact ⟨k + 1, A, B ++ [92, s[k]], by omega, by go_num, rfl, by rw [HapB2.out], HAx, HBx⟩
                  case measure => simp [intOf]; omega
              · skip
                by_cases h96 : s[k] = 96
                · skip
                  as_aux_lemma =>
                    have hsp : spcB s[k] = true := by rw [h96]; decide
                    have h4 : cls s[k] = 4 := by rw [h96]; decide
                    have hn : (s[k].toNat : Int) = 96 := by rw [h96]; rfl
                    rw [decide_eq_false (by rw [h96]; decide)] at q92
                    rw [decide_eq_false (by rw [h96]; decide)] at q42
                    rw [decide_eq_false (by rw [h96]; decide)] at q91
                    rw [decide_eq_false (by rw [h96]; decide)] at q93
                    rw [decide_eq_true h96] at q96
                    clear h96
                    have HAx : Hid (A = noSp (s.data.toList.take (k + 1))) := Lib.hid (by rw [hAn, hsp]; simp)
                    have HBx : Hid (B ++ [92, s[k]] = escA (s.data.toList.take (k + 1))) := Lib.hid (by rw [hBn]; rw [if_pos h4])
                    clear hAn hBn hsp h4
                    go_wp2_with fail
                    go_round
                    case rel => exact ⟨k + 1, A, B ++ [92, s[k]], by omega, by go_num, rfl, by rw [HapB2.out], HAx, HBx⟩
                    case measure => simp [intOf]; omega
                · skip
                  rw [decide_eq_false h92] at q92
                  rw [decide_eq_false h42] at q42
                  rw [decide_eq_false h91] at q91
                  rw [decide_eq_false h93] at q93
                  rw [decide_eq_false h96] at q96
                  have hsp : spcB s[k] = false := by unfold spcB; rw [decide_eq_false h92, decide_eq_false h42, decide_eq_false h91, decide_eq_false h93, decide_eq_false h96]; rfl
                  have hx91 : (s[k].toNat : Int) ≠ 91 := fun h => h91 (UInt8.toNat_inj.1 (by have e : (91 : UInt8).toNat = 91 := rfl; omega))
                  by_cases h4 : cls s[k] = 4
                  · rcases (cls4_iff s[k]).1 h4 with hn | hn | hn | hn
                    · skip
                      as_aux_lemma =>
                        obtain ⟨hn1, hn2⟩ := hn
                        have t0 : 32 < (s[k].toNat : Int) := by omega
                        have t1 : (s[k].toNat : Int) < 127 := by omega
                        have t2 : ¬ 48 ≤ (s[k].toNat : Int) := by omega
                        have t3 : (s[k].toNat : Int) ≤ 57 := by omega
                        have t4 : ¬ 97 ≤ (s[k].toNat : Int) := by omega
                        have t5 : (s[k].toNat : Int) ≤ 122 := by omega
                        have t6 : ¬ 65 ≤ (s[k].toNat : Int) := by omega
                        have t7 : (s[k].toNat : Int) ≤ 90 := by omega
                        clear h92 h42 h91 h93 h96 hx91 hn1 hn2
                        have HAx : Hid (A ++ [s[k]] = noSp (s.data.toList.take (k + 1))) := Lib.hid (by rw [hAn, hsp]; simp)
                        have HBx : Hid (B ++ [92, s[k]] = escA (s.data.toList.take (k + 1))) := Lib.hid (by rw [hBn]; rw [if_pos h4])
                        clear hAn hBn hsp h4
                        go_wp2_with fail
                        go_round
                        case rel => exact ⟨k + 1, A ++ [s[k]], B ++ [92, s[k]], by omega, by go_num, by rw [HapA.out], by rw [HapB2.out], HAx, HBx⟩
                        case measure => simp [intOf]; omega
                    · skip
                      as_aux_lemma =>
                        obtain ⟨hn1, hn2⟩ := hn
                        have t0 : 32 < (s[k].toNat : Int) := by omega
                        have t1 : (s[k].toNat : Int) < 127 := by omega
                        have t2 : 48 ≤ (s[k].toNat : Int) := by omega
                        have t3 : ¬ (s[k].toNat : Int) ≤ 57 := by omega
                        have t4 : ¬ 97 ≤ (s[k].toNat : Int) := by omega
                        have t5 : (s[k].toNat : Int) ≤ 122 := by omega
                        have t6 : ¬ 65 ≤ (s[k].toNat : Int) := by omega
                        have t7 : (s[k].toNat : Int) ≤ 90 := by omega
                        clear h92 h42 h91 h93 h96 hx91 hn1 hn2
                        have HAx : Hid (A ++ [s[k]] = noSp (s.data.toList.take (k + 1))) := Lib.hid (by rw [hAn, hsp]; simp)
                        have HBx : Hid (B ++ [92, s[k]] = escA (s.data.toList.take (k + 1))) := Lib.hid (by rw [hBn]; rw [if_pos h4])
                        clear hAn hBn hsp h4
                        go_wp2_with fail
                        go_round
                        case rel => exact ⟨k + 1, A ++ [s[k]], B ++ [92, s[k]], by omega, by go_num, by rw [HapA.out], by rw [HapB2.out], HAx, HBx⟩
                        case measure => simp [intOf]; omega
                    · skip
                      as_aux_lemma =>
                        obtain ⟨hn1, hn2⟩ := hn
                        have t0 : 32 < (s[k].toNat : Int) := by omega
                        have t1 : (s[k].toNat : Int) < 127 := by omega
                        have t2 : 48 ≤ (s[k].toNat : Int) := by omega
                        have t3 : ¬ (s[k].toNat : Int) ≤ 57 := by omega
                        have t4 : ¬ 97 ≤ (s[k].toNat : Int) := by omega
                        have t5 : (s[k].toNat : Int) ≤ 122 := by omega
                        have t6 : 65 ≤ (s[k].toNat : Int) := by omega
                        have t7 : ¬ (s[k].toNat : Int) ≤ 90 := by omega
                        clear h92 h42 h91 h93 h96 hx91 hn1 hn2
                        have HAx : Hid (A ++ [s[k]] = noSp (s.data.toList.take (k + 1))) := Lib.hid (by rw [hAn, hsp]; simp)
                        have HBx : Hid (B ++ [92, s[k]] = escA (s.data.toList.take (k + 1))) := Lib.hid (by rw [hBn]; rw [if_pos h4])
                        clear hAn hBn hsp h4
                        go_wp2_with fail
                        go_round
                        case rel => exact ⟨k + 1, A ++ [s[k]], B ++ [92, s[k]], by omega, by go_num, by rw [HapA.out], by rw [HapB2.out], HAx, HBx⟩
                        case measure => simp [intOf]; omega
                    · skip
                      as_aux_lemma =>
                        obtain ⟨hn1, hn2⟩ := hn
                        have t0 : 32 < (s[k].toNat : Int) := by omega
                        have t1 : (s[k].toNat : Int) < 127 := by omega
                        have t2 : 48 ≤ (s[k].toNat : Int) := by omega
                        have t3 : ¬ (s[k].toNat : Int) ≤ 57 := by omega
                        have t4 : 97 ≤ (s[k].toNat : Int) := by omega
                        have t5 : ¬ (s[k].toNat : Int) ≤ 122 := by omega
                        have t6 : 65 ≤ (s[k].toNat : Int) := by omega
                        have t7 : ¬ (s[k].toNat : Int) ≤ 90 := by omega
                        clear h92 h42 h91 h93 h96 hx91 hn1 hn2
                        have HAx : Hid (A ++ [s[k]] = noSp (s.data.toList.take (k + 1))) := Lib.hid (by rw [hAn, hsp]; simp)
                        have HBx : Hid (B ++ [92, s[k]] = escA (s.data.toList.take (k + 1))) := Lib.hid (by rw [hBn]; rw [if_pos h4])
                        clear hAn hBn hsp h4
                        go_wp2_with fail
                        go_round
                        case rel => exact ⟨k + 1, A ++ [s[k]], B ++ [92, s[k]], by omega, by go_num, by rw [HapA.out], by rw [HapB2.out], HAx, HBx⟩
                        case measure => simp [intOf]; omega
                  · have hno := mt (cls4_iff (s[k]'hlt)).2 h4
                    rcases (show (s[k].toNat : Int) < 33 ∨ (48 ≤ (s[k].toNat : Int) ∧ (s[k].toNat : Int) ≤ 57) ∨ (65 ≤ (s[k].toNat : Int) ∧ (s[k].toNat : Int) ≤ 90) ∨ (97 ≤ (s[k].toNat : Int) ∧ (s[k].toNat : Int) ≤ 122) ∨ 127 ≤ (s[k].toNat : Int) by omega) with hn | hn | hn | hn | hn
                    · skip
                      as_aux_lemma =>
                        have t0 : ¬ 32 < (s[k].toNat : Int) := by omega
                        have t1 : (s[k].toNat : Int) < 127 := by omega
                        have t2 : ¬ 48 ≤ (s[k].toNat : Int) := by omega
                        have t3 : (s[k].toNat : Int) ≤ 57 := by omega
                        have t4 : ¬ 97 ≤ (s[k].toNat : Int) := by omega
                        have t5 : (s[k].toNat : Int) ≤ 122 := by omega
                        have t6 : ¬ 65 ≤ (s[k].toNat : Int) := by omega
                        have t7 : (s[k].toNat : Int) ≤ 90 := by omega
                        clear h92 h42 h91 h93 h96 hx91 hno hn
                        have HAx : Hid (A ++ [s[k]] = noSp (s.data.toList.take (k + 1))) := Lib.hid (by rw [hAn, hsp]; simp)
                        have HBx : Hid (B ++ [s[k]] = escA (s.data.toList.take (k + 1))) := Lib.hid (by rw [hBn]; rw [if_neg h4])
                        clear hAn hBn hsp h4
                        go_wp2_with fail
                        go_round
                        case rel => exact ⟨k + 1, A ++ [s[k]], B ++ [s[k]], by omega, by go_num, by rw [HapA.out], by rw [HapB.out], HAx, HBx⟩
                        case measure => simp [intOf]; omega
                    · skip
                      as_aux_lemma =>
                        have t0 : 32 < (s[k].toNat : Int) := by omega
                        have t1 : (s[k].toNat : Int) < 127 := by omega
                        have t2 : 48 ≤ (s[k].toNat : Int) := by omega
                        have t3 : (s[k].toNat : Int) ≤ 57 := by omega
                        have t4 : ¬ 97 ≤ (s[k].toNat : Int) := by omega
                        have t5 : (s[k].toNat : Int) ≤ 122 := by omega
                        have t6 : ¬ 65 ≤ (s[k].toNat : Int) := by omega
                        have t7 : (s[k].toNat : Int) ≤ 90 := by omega
                        clear h92 h42 h91 h93 h96 hx91 hno hn
                        have HAx : Hid (A ++ [s[k]] = noSp (s.data.toList.take (k + 1))) := Lib.hid (by rw [hAn, hsp]; simp)
                        have HBx : Hid (B ++ [s[k]] = escA (s.data.toList.take (k + 1))) := Lib.hid (by rw [hBn]; rw [if_neg h4])
                        clear hAn hBn hsp h4
                        go_wp2_with fail
                        go_round
                        case rel => exact ⟨k + 1, A ++ [s[k]], B ++ [s[k]], by omega, by go_num, by rw [HapA.out], by rw [HapB.out], HAx, HBx⟩
                        case measure => simp [intOf]; omega
                    · skip
                      as_aux_lemma =>
                        have t0 : 32 < (s[k].toNat : Int) := by omega
                        have t1 : (s[k].toNat : Int) < 127 := by omega
                        have t2 : 48 ≤ (s[k].toNat : Int) := by omega
                        have t3 : ¬ (s[k].toNat : Int) ≤ 57 := by omega
                        have t4 : ¬ 97 ≤ (s[k].toNat : Int) := by omega
                        have t5 : (s[k].toNat : Int) ≤ 122 := by omega
                        have t6 : 65 ≤ (s[k].toNat : Int) := by omega
                        have t7 : (s[k].toNat : Int) ≤ 90 := by omega
                        clear h92 h42 h91 h93 h96 hx91 hno hn
                        have HAx : Hid (A ++ [s[k]] = noSp (s.data.toList.take (k + 1))) := Lib.hid (by rw [hAn, hsp]; simp)
                        have HBx : Hid (B ++ [s[k]] = escA (s.data.toList.take (k + 1))) := Lib.hid (by rw [hBn]; rw [if_neg h4])
                        clear hAn hBn hsp h4
                        go_wp2_with fail
                        go_round
                        case rel => exact ⟨k + 1, A ++ [s[k]], B ++ [s[k]], by omega, by go_num, by rw [HapA.out], by rw [HapB.out], HAx, HBx⟩
                        case measure => simp [intOf]; omega
                    · skip
                      as_aux_lemma =>
                        have t0 : 32 < (s[k].toNat : Int) := by omega
                        have t1 : (s[k].toNat : Int) < 127 := by omega
                        have t2 : 48 ≤ (s[k].toNat : Int) := by omega
                        have t3 : ¬ (s[k].toNat : Int) ≤ 57 := by omega
                        have t4 : 97 ≤ (s[k].toNat : Int) := by omega
                        have t5 : (s[k].toNat : Int) ≤ 122 := by omega
                        have t6 : 65 ≤ (s[k].toNat : Int) := by omega
                        have t7 : ¬ (s[k].toNat : Int) ≤ 90 := by omega
                        clear h92 h42 h91 h93 h96 hx91 hno hn
                        have HAx : Hid (A ++ [s[k]] = noSp (s.data.toList.take (k + 1))) := Lib.hid (by rw [hAn, hsp]; simp)
                        have HBx : Hid (B ++ [s[k]] = escA (s.data.toList.take (k + 1))) := Lib.hid (by rw [hBn]; rw [if_neg h4])
                        clear hAn hBn hsp h4
                        go_wp2_with fail
                        go_round
                        case rel => exact ⟨k + 1, A ++ [s[k]], B ++ [s[k]], by omega, by go_num, by rw [HapA.out], by rw [HapB.out], HAx, HBx⟩
                        case measure => simp [intOf]; omega
                    · skip
                      as_aux_lemma =>
                        have t0 : 32 < (s[k].toNat : Int) := by omega
                        have t1 : ¬ (s[k].toNat : Int) < 127 := by omega
                        have t2 : 48 ≤ (s[k].toNat : Int) := by omega
                        have t3 : ¬ (s[k].toNat : Int) ≤ 57 := by omega
                        have t4 : 97 ≤ (s[k].toNat : Int) := by omega
                        have t5 : ¬ (s[k].toNat : Int) ≤ 122 := by omega
                        have t6 : 65 ≤ (s[k].toNat : Int) := by omega
                        have t7 : ¬ (s[k].toNat : Int) ≤ 90 := by omega
                        clear h92 h42 h91 h93 h96 hx91 hno hn
                        have HAx : Hid (A ++ [s[k]] = noSp (s.data.toList.take (k + 1))) := Lib.hid (by rw [hAn, hsp]; simp)
                        have HBx : Hid (B ++ [s[k]] = escA (s.data.toList.take (k + 1))) := Lib.hid (by rw [hBn]; rw [if_neg h4])
                        clear hAn hBn hsp h4
                        go_wp2_with fail
                        go_round
                        case rel => exact ⟨k + 1, A ++ [s[k]], B ++ [s[k]], by omega, by go_num, by rw [HapA.out], by rw [HapB.out], HAx, HBx⟩
                        case measure => simp [intOf]; omega
      · obtain rfl : k = s.size := by omega
        have hT : s.data.toList.take s.size = s.data.toList := List.take_of_length_le (by rw [len_data]; exact Nat.le_refl _)
        rw [hT] at HAe HBe
        have HP1 : Hid (∀ w, Calls Tryz.prog 15 #[.string (S A)] w (TrAns w (oneT A))) := Lib.hid (fun w => by
          have h := K.parse (S A) w (by omega)
          have e : parseB (S A) = oneT A := by
            unfold parseB
            rw [S_list]
            exact Rdr_noSp false false A (by rw [HAe.out]; exact noSp_all _)
          rwa [e] at h)
        have HP2 : Hid (∀ w, Calls Tryz.prog 15 #[.string (S B)] w (TrAns w (oneT s.data.toList))) := Lib.hid (fun w => by
          have h := K.parse (S B) w (by omega)
          have e : parseB (S B) = oneT s.data.toList := by
            unfold parseB
            rw [S_list, HBe.out]
            exact Rdr_escA false false _
          rwa [e] at h)
        have HA0 : Hid (s.size = 0 → A = []) := Lib.hid (fun h => by
          rw [HAe.out, List.eq_nil_of_length_eq_zero (show s.data.toList.length = 0 by rw [len_data]; exact h)]
          rfl)
        have emS : (s.toList == ([] : List UInt8)) = decide (s.size = 0) := by
          rw [Lib.toList_data, Bool.eq_iff_iff, beq_iff_eq, decide_eq_true_iff, ← len_data]
          exact List.length_eq_zero_iff.symm
        have emA : ((S A).toList == ([] : List UInt8)) = decide (A = []) := by
          rw [S_toList, Bool.eq_iff_iff, beq_iff_eq, decide_eq_true_iff]
        clear HAe HBe hT hlt K
        by_cases h0 : s.size = 0
        · have hA := HA0.out h0
          have eT : oneT s.data.toList = [] := by unfold oneT; rw [if_pos (List.eq_nil_of_length_eq_zero (by rw [len_data]; exact h0))]
          have eA : oneT A = [] := by unfold oneT; rw [if_pos hA]
          rw [eA] at HP1
          rw [eT] at HP2
          rw [decide_eq_true h0] at emS
          clear hA eT eA HA0 emA h0
          go_wp2_with fail
          refine (HP1.out _).mono ?_
          rintro e w3 ⟨v3, rfl, b3, t3⟩
          have H3 := Lib.hid (H2.out.trans (b3.mono H2.out.size))
          obtain ⟨a3, c3, rfl⟩ := t3.len
          clear b3 t3
          go_wp2_with fail
          refine (HP2.out _).mono ?_
          rintro e w4 ⟨v4, rfl, b4, t4⟩
          have H4 := Lib.hid (H3.out.trans (b4.mono H3.out.size))
          obtain ⟨a4, c4, rfl⟩ := t4.len
          clear b4 t4
          go_wp2_with fail
          go_ret
          exact ⟨rfl, H4.out⟩
        · rw [decide_eq_false h0] at emS
          have hT : s.data.toList ≠ [] := fun h => h0 (by rw [← len_data, h]; rfl)
          clear HA0 h0
          by_cases hA : A = []
          · have eA : oneT A = [] := by unfold oneT; rw [if_pos hA]
            rw [eA] at HP1
            rw [decide_eq_true hA] at emA
            clear hA eA
            go_wp2_with fail
            refine (HP1.out _).mono ?_
            rintro e w3 ⟨v3, rfl, b3, t3⟩
            have H3 := Lib.hid (H2.out.trans (b3.mono H2.out.size))
            obtain ⟨a3, c3, rfl⟩ := t3.len
            clear b3 t3
            go_wp2_with fail
            refine (HP2.out _).mono ?_
            rintro e w4 ⟨v4, rfl, b4, t4⟩
            have H4 := Lib.hid (H3.out.trans (b4.mono H3.out.size))
            obtain ⟨b, o, ca, rfl, d0, d1⟩ := tr_head t4 hT
            rw [S_of] at d1
            have ess : (s.toList == s.toList) = true := by simp
            clear b4 t4
            go_wp2_with fail
            go_ret
            exact ⟨rfl, H4.out⟩
          · rw [decide_eq_false hA] at emA
            go_wp2_with fail
            refine (HP1.out _).mono ?_
            rintro e w3 ⟨v3, rfl, b3, t3⟩
            have H3 := Lib.hid (H2.out.trans (b3.mono H2.out.size))
            have T3 := Lib.hid t3
            clear b3 t3
            go_wp2_with fail
            refine (HP2.out _).mono ?_
            rintro e w4 ⟨v4, rfl, b4, t4⟩
            have H4 := Lib.hid (H3.out.trans (b4.mono H3.out.size))
            obtain ⟨ba, oa, caa, rfl, c0, c1⟩ := tr_head (T3.out.below b4) hA
            obtain ⟨b, o, ca, rfl, d0, d1⟩ := tr_head t4 hT
            rw [S_of] at d1
            have ess : (s.toList == s.toList) = true := by simp
            have eaa : ((S A).toList == (S A).toList) = true := by simp
            clear b4 t4 T3 hA
            go_wp2_with fail
            go_ret
            exact ⟨rfl, H4.out⟩
  · have g0 : 300 < (s.size : Int) := by omega
    go_enter Tryz.func5, Tryz.ntmps5
    go_wp2_with fail
    refine (HA.out _).mono ?_
    rintro e w2 ⟨rfl, b2⟩
    have H2 := Lib.hid b2
    clear b2
    go_wp2_with fail
    refine (HA.out _).mono ?_
    rintro e w3 ⟨rfl, b3⟩
    have H3 := Lib.hid (H2.out.trans (b3.mono H2.out.size))
    clear b3
    go_wp2_with fail
    go_ret
    exact ⟨rfl, H3.out⟩

end Go.Proofs.YtjgmfgnfdaeelaaGreatDoor.Sp
