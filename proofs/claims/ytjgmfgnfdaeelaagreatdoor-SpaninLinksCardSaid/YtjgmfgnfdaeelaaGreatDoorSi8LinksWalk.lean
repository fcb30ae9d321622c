/-
  THE WALK of the statement SpaninLinks (written by gen_links.py).
-/
import Derived.Test.YtjgmfgnfdaeelaaGreatDoorSi8Told
import Derived.Test.YtjgmfgnfdaeelaaGreatDoorSiPut
import Derived.Test.YtjgmfgnfdaeelaaGreatDoorPkG
namespace Go.Proofs.YtjgmfgnfdaeelaaGreatDoor.Sp
open Go.RowKit
open Go.Proofs.YtjgmfgnfdaeelaaGreatDoor.Tk (S S_of S_list S_size S_toList S_app ret_int eq8 ne8 at_data len_data cls)
open Go.Proofs.YtjgmfgnfdaeelaaGreatDoor.Cm (calls_at)
set_option linter.unusedVariables false

theorem tr_only1 {w : World} {v : Value} {q : Int} {t : List UInt8} {K : List Sp} (h : Tr w v [.mk q t K]) : ∃ b o ca, v = .slice (some ⟨b, o, none⟩) 1 ca ∧ w.cell? ⟨b, o, none⟩ = some (.int .i64 q) ∧ w.cell? ⟨b, o + 1, none⟩ = some (.string (S t)) := by
  obtain ⟨ao, ca, hv⟩ := h.len
  subst hv
  obtain ⟨b, o, ak, ck, rfl, hb, hC⟩ := h.at 0 (Nat.zero_lt_succ _)
  have h1 := hC.kind
  have h2 := hC.s
  simp only [Nat.zero_mul, Nat.add_zero, List.getElem_cons_zero, Sp.kind, Sp.s] at h1 h2
  exact ⟨b, o, ca, rfl, h1, h2⟩
theorem spc_wd {c : UInt8} (h1 : 97 ≤ c.toNat) (h2 : c.toNat ≤ 122) : spcB c = false := by
  unfold spcB
  simp only [Bool.or_eq_false_iff, decide_eq_false_iff_not]
  refine ⟨⟨⟨⟨?_, ?_⟩, ?_⟩, ?_⟩, ?_⟩ <;> (rintro rfl; revert h1 h2; decide)
theorem spc_is {c : UInt8} (h1 : c ≠ 92) (h2 : c ≠ 42) (h3 : c ≠ 91) (h4 : c ≠ 93) (h5 : c ≠ 96) : spcB c = false := by
  unfold spcB
  simp only [Bool.or_eq_false_iff, decide_eq_false_iff_not]
  exact ⟨⟨⟨⟨h1, h2⟩, h3⟩, h4⟩, h5⟩
theorem pl_t (X : List UInt8) : plAll [.mk 1 X []] = X := by
  rw [plAll_cons, plOne_mk, if_pos (Or.inl rfl)]
  show (X ++ []) ++ [] = X
  simp
theorem pl_in (q : Int) (hq : ¬ (q = 1 ∨ q = 2)) (T W : List UInt8) : plAll [.mk q T [.mk 1 W []]] = W := by
  rw [plAll_cons, plOne_mk, if_neg hq, pl_t]
  show ([] ++ W) ++ [] = W
  simp
theorem tot_t (X : List UInt8) : totAll [.mk 1 X []] = 1 + X.length := by
  rw [totAll_cons, totOne_mk]; rfl
theorem tot_in (q : Int) (T W : List UInt8) : totAll [.mk q T [.mk 1 W []]] = 1 + T.length + (1 + W.length) := by
  rw [totAll_cons, totOne_mk, tot_t]; rfl
/-- A Link or a Text, and an Emph or a Text. -/
theorem plain_is {L : List Sp} {X : ByteArray} (m : Nat) (hm : m ≤ 1000000) (ht : totAll L ≤ m) (hX : S (plAll L) = X) (v : Value) (w : World) (h : Tr w v L) :
    Calls Tryz.prog 23 #[v] w fun e w' => e = .returned (.string X) ∧ w = w' := by
  rw [← hX]
  exact rplain_any m L v w ht hm h

set_option maxHeartbeats 6400000 in
set_option maxRecDepth 100000 in
theorem spaninLinks_walk (K : Told8) (w : World) (word : ByteArray) (hs : word.size ≤ maxLen) (hr : word.size ≤ reachBytes) (tw : ByteArray) (hs2 : tw.size ≤ maxLen) (hr2 : tw.size ≤ reachBytes) :
    Calls Tryz.prog 7 #[.string word, .string tw] w (OkAns w true) := by
  have HA := Lib.hid (awake8_any K)
  have emS : (word.toList == ([] : List UInt8)) = decide (word.size = 0) := by
    rw [Lib.toList_data, Bool.eq_iff_iff, beq_iff_eq, decide_eq_true_iff, ← len_data]
    exact List.length_eq_zero_iff.symm
  have gs0 : ¬ ((word.size : Int) + (tw.size : Int) < -9223372036854775808) := by omega
  by_cases hl : word.size + tw.size ≤ 300
  · have g0 : ¬ 300 < (word.size : Int) + (tw.size : Int) := by omega
    clear hr hr2 hs hs2
    go_enter Tryz.func7, Tryz.ntmps7
    go_wp2_with fail
    refine (HA.out _).mono ?_
    rintro e w2 ⟨rfl, b2⟩
    have H2 := Lib.hid b2
    clear b2 HA
    go_wp2_with fail
    go_loop [23] (fun cv => ∃ k : Nat, k ≤ word.size ∧ cv = .int .i64 k ∧ Hid (∀ c ∈ word.data.toList.take k, spcB c = false)) (fun cv => word.size - (intOf cv).toNat)
    case atStart => exact ⟨0, Nat.zero_le _, rfl, Lib.hid (by rw [List.take_zero]; simp)⟩
    case round =>
      obtain ⟨k, hk, rfl, HW⟩ := hrel
      by_cases hlt : k < word.size
      · have hi1 : (k : Int) < (word.size : Int) := by omega
        by_cases ha : word[k].toNat < 97
        · have e1 : (word[k].toNat : Int) < 97 := by omega
          clear ha HW
          go_wp2_with fail
          go_ret
          exact ⟨rfl, H2.out⟩
        · have e1 : ¬ (word[k].toNat : Int) < 97 := by omega
          by_cases hz : 122 < word[k].toNat
          · have e2 : 122 < (word[k].toNat : Int) := by omega
            clear ha hz HW
            go_wp2_with fail
            go_ret
            exact ⟨rfl, H2.out⟩
          · have e2 : ¬ 122 < (word[k].toNat : Int) := by omega
            have HW2 : Hid (∀ c ∈ word.data.toList.take (k + 1), spcB c = false) := Lib.hid (by
              rw [take_snoc word k hlt]
              intro c hc
              rcases List.mem_append.1 hc with hc | hc
              · exact HW.out c hc
              · rw [List.mem_singleton] at hc
                rw [hc]
                exact spc_wd (by omega) (by omega))
            clear ha hz HW
            go_wp2_with fail
            go_round
            case rel => exact ⟨k + 1, by omega, by go_num, HW2⟩
            case measure => simp [intOf]; omega
      · obtain rfl : k = word.size := by omega
        have HWd : Hid (∀ c ∈ word.data.toList, spcB c = false) := Lib.hid (by
          have h := HW.out
          rwa [List.take_of_length_le (by rw [len_data]; exact Nat.le_refl _)] at h)
        clear HW hk
        go_wp2_with fail
        go_loop [39] (fun cv => ∃ k : Nat, k ≤ tw.size ∧ cv = .int .i64 k ∧ Hid (∀ c ∈ tw.data.toList.take k, spcB c = false ∧ c ≠ 41)) (fun cv => tw.size - (intOf cv).toNat)
        case atStart => exact ⟨0, Nat.zero_le _, rfl, Lib.hid (by rw [List.take_zero]; simp)⟩
        case round =>
          obtain ⟨k, hk, rfl, HT⟩ := hrel
          by_cases hlt2 : k < tw.size
          · have hi2 : (k : Int) < (tw.size : Int) := by omega
            by_cases h92 : tw[k] = 92
            · have e92 : ((tw[k].toNat : Int) == 92) = true := eq8 (b := 92) h92
              clear h92 HT HWd
              go_wp2_with fail
              go_ret
              exact ⟨rfl, H2.out⟩
            · have e92 : ((tw[k].toNat : Int) == 92) = false := ne8 (b := 92) h92
              by_cases h42 : tw[k] = 42
              · have e42 : ((tw[k].toNat : Int) == 42) = true := eq8 (b := 42) h42
                clear h92 h42 HT HWd
                go_wp2_with fail
                go_ret
                exact ⟨rfl, H2.out⟩
              · have e42 : ((tw[k].toNat : Int) == 42) = false := ne8 (b := 42) h42
                by_cases h91 : tw[k] = 91
                · have e91 : ((tw[k].toNat : Int) == 91) = true := eq8 (b := 91) h91
                  clear h92 h42 h91 HT HWd
                  go_wp2_with fail
                  go_ret
                  exact ⟨rfl, H2.out⟩
                · have e91 : ((tw[k].toNat : Int) == 91) = false := ne8 (b := 91) h91
                  by_cases h93 : tw[k] = 93
                  · have e93 : ((tw[k].toNat : Int) == 93) = true := eq8 (b := 93) h93
                    clear h92 h42 h91 h93 HT HWd
                    go_wp2_with fail
                    go_ret
                    exact ⟨rfl, H2.out⟩
                  · have e93 : ((tw[k].toNat : Int) == 93) = false := ne8 (b := 93) h93
                    by_cases h96 : tw[k] = 96
                    · have e96 : ((tw[k].toNat : Int) == 96) = true := eq8 (b := 96) h96
                      clear h92 h42 h91 h93 h96 HT HWd
                      go_wp2_with fail
                      go_ret
                      exact ⟨rfl, H2.out⟩
                    · have e96 : ((tw[k].toNat : Int) == 96) = false := ne8 (b := 96) h96
                      by_cases h41 : tw[k] = 41
                      · have e41 : ((tw[k].toNat : Int) == 41) = true := eq8 (b := 41) h41
                        clear h92 h42 h91 h93 h96 h41 HT HWd
                        go_wp2_with fail
                        go_ret
                        exact ⟨rfl, H2.out⟩
                      · have e41 : ((tw[k].toNat : Int) == 41) = false := ne8 (b := 41) h41
                        have HT2 : Hid (∀ c ∈ tw.data.toList.take (k + 1), spcB c = false ∧ c ≠ 41) := Lib.hid (by
                          rw [take_snoc tw k hlt2]
                          intro c hc
                          rcases List.mem_append.1 hc with hc | hc
                          · exact HT.out c hc
                          · rw [List.mem_singleton] at hc
                            rw [hc]
                            exact ⟨spc_is h92 h42 h91 h93 h96, h41⟩)
                        clear h92 h42 h91 h93 h96 h41 HT
                        go_wp2_with fail
                        go_round
                        case rel => exact ⟨k + 1, by omega, by go_num, HT2⟩
                        case measure => simp [intOf]; omega
          · obtain rfl : k = tw.size := by omega
            have HTo : Hid (∀ c ∈ tw.data.toList, spcB c = false ∧ c ≠ 41) := Lib.hid (by
              have h := HT.out
              rwa [List.take_of_length_le (by rw [len_data]; exact Nat.le_refl _)] at h)
            clear HT hk
            have hlk := Rdr_link word.data.toList tw.data.toList HWd.out (fun c hc => (HTo.out c hc).1) (fun hc => (HTo.out _ hc).2 rfl)
            have hst := Rdr_stars word.data.toList HWd.out
            obtain ⟨P, hP⟩ : ∃ P, (⟨#[91]⟩ : ByteArray) ++ word ++ (⟨#[93, 40]⟩ : ByteArray) ++ tw ++ (⟨#[41]⟩ : ByteArray) = P := ⟨_, rfl⟩
            have hPS : P = S (brk word.data.toList tw.data.toList) := by
              rw [← hP]
              conv => lhs; rw [← S_of word, ← S_of tw]
              rw [show (⟨#[91]⟩ : ByteArray) = S [91] from rfl, show (⟨#[93, 40]⟩ : ByteArray) = S [93, 40] from rfl, show (⟨#[41]⟩ : ByteArray) = S [41] from rfl, S_app, S_app, S_app, S_app]
              congr 1
              unfold brk
              simp
            have hQS : (⟨#[42]⟩ : ByteArray) ++ word ++ (⟨#[42]⟩ : ByteArray) = S (42 :: (word.data.toList ++ [42])) := by
              conv => lhs; rw [← S_of word]
              rw [show (⟨#[42]⟩ : ByteArray) = S [42] from rfl, S_app, S_app]
              congr 1
            have zw : word.data.toList.length = word.size := len_data word
            have zt : tw.data.toList.length = tw.size := len_data tw
            have zb : (brk word.data.toList tw.data.toList).length ≤ 304 := by
              unfold brk
              simp only [List.length_cons, List.length_append, List.length_nil]
              omega
            have z91 : (⟨#[91]⟩ : ByteArray).size = 1 := rfl
            have z93 : (⟨#[93, 40]⟩ : ByteArray).size = 2 := rfl
            have z41 : (⟨#[41]⟩ : ByteArray).size = 1 := rfl
            have z42 : (⟨#[42]⟩ : ByteArray).size = 1 := rfl
            have y1 : ((⟨#[91]⟩ : ByteArray) ++ word).size = 1 + word.size := by rw [ByteArray.size_append, z91]
            have y2 : ((⟨#[91]⟩ : ByteArray) ++ word ++ (⟨#[93, 40]⟩ : ByteArray)).size = 3 + word.size := by rw [ByteArray.size_append, y1, z93]; omega
            have y3 : ((⟨#[91]⟩ : ByteArray) ++ word ++ (⟨#[93, 40]⟩ : ByteArray) ++ tw).size = 3 + word.size + tw.size := by rw [ByteArray.size_append, y2]
            have y4 : ((⟨#[42]⟩ : ByteArray) ++ word).size = 1 + word.size := by rw [ByteArray.size_append, z42]
            have gg1 : ¬ 9223372036854775807 < (⟨#[91]⟩ : ByteArray).size + word.size := by omega
            have gg2 : ¬ 9223372036854775807 < ((⟨#[91]⟩ : ByteArray) ++ word).size + (⟨#[93, 40]⟩ : ByteArray).size := by omega
            have gg3 : ¬ 9223372036854775807 < ((⟨#[91]⟩ : ByteArray) ++ word ++ (⟨#[93, 40]⟩ : ByteArray)).size + tw.size := by omega
            have gg4 : ¬ 9223372036854775807 < ((⟨#[91]⟩ : ByteArray) ++ word ++ (⟨#[93, 40]⟩ : ByteArray) ++ tw).size + (⟨#[41]⟩ : ByteArray).size := by omega
            have gg5 : ¬ 9223372036854775807 < (⟨#[42]⟩ : ByteArray).size + word.size := by omega
            have gg6 : ¬ 9223372036854775807 < ((⟨#[42]⟩ : ByteArray) ++ word).size + (⟨#[42]⟩ : ByteArray).size := by omega
            have hP1 : parseB P = (if word.data.toList ≠ [] ∧ dsB tw.data.toList = true then [.mk 4 tw.data.toList [.mk 1 word.data.toList []]] else [.mk 1 (brk word.data.toList tw.data.toList) []]) := by
              unfold parseB
              rw [hPS, S_list]
              exact hlk
            have hP2 : parseB ((⟨#[42]⟩ : ByteArray) ++ word ++ (⟨#[42]⟩ : ByteArray)) = (if word.data.toList ≠ [] then [.mk 3 [] [.mk 1 word.data.toList []]] else [.mk 1 [42, 42] []]) := by
              unfold parseB
              rw [hQS, S_list]
              exact hst
            have hPz : P.size ≤ 304 := by rw [hPS, S_size]; exact zb
            have HP1 := Lib.hid (fun w => K.parse P w (by omega))
            have HP2 := Lib.hid (fun w => K.parse ((⟨#[42]⟩ : ByteArray) ++ word ++ (⟨#[42]⟩ : ByteArray)) w (by rw [ByteArray.size_append, y4, z42]; omega))
            rw [hP1] at HP1
            rw [hP2] at HP2
            have HD := Lib.hid (fun w => dest_any tw (by omega) w)
            have HLT := Lib.hid (fun (v : Value) (w : World) (h : Tr w v [.mk 1 (brk word.data.toList tw.data.toList) []]) => plain_is (X := P) 1000 (by decide) (by rw [tot_t]; omega) (by rw [pl_t, hPS]) v w h)
            have HLL := Lib.hid (fun (v : Value) (w : World) (h : Tr w v [.mk 4 tw.data.toList [.mk 1 word.data.toList []]]) => plain_is (X := word) 1000 (by decide) (by rw [tot_in]; omega) (by rw [pl_in 4 (by decide), S_of]) v w h)
            have HEE := Lib.hid (fun (v : Value) (w : World) (h : Tr w v [.mk 3 [] [.mk 1 word.data.toList []]]) => plain_is (X := word) 1000 (by decide) (by rw [tot_in, List.length_nil]; omega) (by rw [pl_in 3 (by decide), S_of]) v w h)
            have qP : (P.toList == P.toList) = true := by simp
            have qW : (word.toList == word.toList) = true := by simp
            have qT : (tw.toList == tw.toList) = true := by simp
            have hWe : word.data.toList = [] ↔ word.size = 0 := by rw [← zw]; exact List.length_eq_zero_iff.symm
            have HSt : Hid (S tw.data.toList = tw) := Lib.hid (S_of tw)
            clear hP1 hP2 hlk hst hPS hQS HWd HTo hlt hlt2 zw zt zb hPz K
            generalize brk word.data.toList tw.data.toList = B at *
            by_cases hz : word.size = 0
            · rw [decide_eq_true hz] at emS
              rw [if_neg (fun h => h.1 (hWe.2 hz))] at HP1
              rw [if_neg (fun h => h (hWe.2 hz))] at HP2
              clear hWe hz HLL HEE HD
              go_wp2_with fail
              refine (HP1.out _).mono ?_
              rintro e w3 ⟨v3, rfl, b3, t3⟩
              have H3 := Lib.hid (H2.out.trans (b3.mono H2.out.size))
              obtain ⟨b, o, ca, rfl, d0, d1⟩ := tr_only1 t3
              have T3 := Lib.hid t3
              clear b3 t3 HP1
              go_wp2_with fail
              refine (HP2.out _).mono ?_
              rintro e w4 ⟨v4, rfl, b4, t4⟩
              have H4 := Lib.hid (H3.out.trans (b4.mono H3.out.size))
              have T3b := Lib.hid (T3.out.below b4)
              obtain ⟨b', o', ca', rfl, d0', d1'⟩ := tr_only1 t4
              have T4 := Lib.hid t4
              clear b4 t4 HP2 T3 d0 d1
              go_wp2_with fail
              refine (HLT.out _ _ T3b.out).mono ?_
              rintro e w6 ⟨rfl, rfl⟩
              go_wp2_with fail
              go_ret
              exact ⟨rfl, H4.out⟩
            · rw [decide_eq_false hz] at emS
              rw [if_pos (fun h => hz (hWe.1 h))] at HP2
              cases hd : dsB tw.data.toList with
              | false =>
                rw [if_neg (fun h => by rw [hd] at h; exact absurd h.2 (by decide))] at HP1
                rw [hd] at HD
                clear hWe hz HLL hd
                go_wp2_with fail
                refine (HP1.out _).mono ?_
                rintro e w3 ⟨v3, rfl, b3, t3⟩
                have H3 := Lib.hid (H2.out.trans (b3.mono H2.out.size))
                obtain ⟨b, o, ca, rfl, d0, d1⟩ := tr_only1 t3
                have T3 := Lib.hid t3
                clear b3 t3 HP1
                go_wp2_with fail
                refine (HD.out _).mono ?_
                rintro e w3' ⟨rfl, rfl⟩
                clear HD
                go_wp2_with fail
                refine (HP2.out _).mono ?_
                rintro e w4 ⟨v4, rfl, b4, t4⟩
                have H4 := Lib.hid (H3.out.trans (b4.mono H3.out.size))
                have T3b := Lib.hid (T3.out.below b4)
                obtain ⟨b', o', ca', rfl, d0', d1'⟩ := tr_only1 t4
                have T4 := Lib.hid t4
                clear b4 t4 HP2 T3 d0 d1
                go_wp2_with fail
                refine (HEE.out _ _ T4.out).mono ?_
                rintro e w5 ⟨rfl, rfl⟩
                go_wp2_with fail
                refine (HLT.out _ _ T3b.out).mono ?_
                rintro e w6 ⟨rfl, rfl⟩
                go_wp2_with fail
                go_ret
                exact ⟨rfl, H4.out⟩
              | true =>
                rw [if_pos ⟨fun h => hz (hWe.1 h), hd⟩] at HP1
                rw [hd] at HD
                clear hWe hz HLT hd
                go_wp2_with fail
                refine (HP1.out _).mono ?_
                rintro e w3 ⟨v3, rfl, b3, t3⟩
                have H3 := Lib.hid (H2.out.trans (b3.mono H2.out.size))
                obtain ⟨b, o, ca, rfl, d0, d1⟩ := tr_only1 t3
                have T3 := Lib.hid t3
                clear b3 t3 HP1
                go_wp2_with fail
                refine (HD.out _).mono ?_
                rintro e w3' ⟨rfl, rfl⟩
                clear HD
                rw [HSt.out] at d1
                go_wp2_with fail
                refine (HLL.out _ _ T3.out).mono ?_
                rintro e w5 ⟨rfl, rfl⟩
                go_wp2_with fail
                refine (HP2.out _).mono ?_
                rintro e w4 ⟨v4, rfl, b4, t4⟩
                have H4 := Lib.hid (H3.out.trans (b4.mono H3.out.size))
                have T3b := Lib.hid (T3.out.below b4)
                obtain ⟨b', o', ca', rfl, d0', d1'⟩ := tr_only1 t4
                have T4 := Lib.hid t4
                clear b4 t4 HP2 T3 d0 d1
                go_wp2_with fail
                refine (HEE.out _ _ T4.out).mono ?_
                rintro e w5 ⟨rfl, rfl⟩
                go_wp2_with fail
                go_ret
                exact ⟨rfl, H4.out⟩
  · have g0 : 300 < (word.size : Int) + (tw.size : Int) := by omega
    clear emS
    have hrb : reachBytes ≤ 140737488355328 := by decide
    have hb1 : (word.size : Int) ≤ 140737488355328 := by omega
    have hb2 : (tw.size : Int) ≤ 140737488355328 := by omega
    have hb3 : (word.size : Int) + (tw.size : Int) ≤ 281474976710656 := by omega
    clear hr hr2 hs hs2 hrb
    go_enter Tryz.func7, Tryz.ntmps7
    go_wp2_with fail
    refine (HA.out _).mono ?_
    rintro e w2 ⟨rfl, b2⟩
    have H2 := Lib.hid b2
    clear b2
    go_wp2_with fail
    refine (HA.out _).mono ?_
    rintro e w3 ⟨rfl, b3⟩
    have H3 := Lib.hid (H2.out.trans (b3.mono H2.out.size))
    clear b3
    go_wp2_with fail
    go_ret
    exact ⟨rfl, H3.out⟩

end Go.Proofs.YtjgmfgnfdaeelaaGreatDoor.Sp
