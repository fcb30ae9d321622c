/-
  THE WALK of the statement SpanoutEscapes.
-/
import Derived.Test.YtjgmfgnfdaeelaaGreatDoorSo9Told
import Derived.Test.YtjgmfgnfdaeelaaGreatDoorSoFits
namespace Go.Proofs.YtjgmfgnfdaeelaaGreatDoor.Sp
open Go.RowKit
open Go.Proofs.YtjgmfgnfdaeelaaGreatDoor.Tk (S S_of S_list S_size S_toList S_app ret_int eq8 ne8 at_data len_data)
open Go.Proofs.YtjgmfgnfdaeelaaGreatDoor.Cm (calls_at)
set_option linter.unusedVariables false

theorem tr_only9 {w : World} {v : Value} {q : Int} {t : List UInt8} {K : List Sp} (h : Tr w v [.mk q t K]) : ∃ b o ca, v = .slice (some ⟨b, o, none⟩) 1 ca ∧ w.cell? ⟨b, o, none⟩ = some (.int .i64 q) ∧ w.cell? ⟨b, o + 1, none⟩ = some (.string (S t)) := by
  obtain ⟨ao, ca, hv⟩ := h.len
  subst hv
  obtain ⟨b, o, ak, ck, rfl, hb, hC⟩ := h.at 0 (Nat.zero_lt_succ _)
  have h1 := hC.kind
  have h2 := hC.s
  simp only [Nat.zero_mul, Nat.add_zero, List.getElem_cons_zero, Sp.kind, Sp.s] at h1 h2
  exact ⟨b, o, ca, rfl, h1, h2⟩

set_option maxHeartbeats 3200000 in
set_option maxRecDepth 100000 in
theorem spanoutEscapes_walk (K : Told9) (w : World) (s : ByteArray) (hs : s.size ≤ maxLen) (hr : s.size ≤ reachBytes) (t : ByteArray) (hs2 : t.size ≤ maxLen) (hr2 : t.size ≤ reachBytes) :
    Calls Tryz.prog 11 #[.string s, .string t] w (OkAns w true) := by
  have HA := Lib.hid (awake9_any K.toTold9w)
  have hrb : reachBytes ≤ 140737488355328 := by decide
  have hb1 : (s.size : Int) ≤ 140737488355328 := by omega
  have hb2 : (t.size : Int) ≤ 140737488355328 := by omega
  have hb3 : (s.size : Int) + (t.size : Int) ≤ 281474976710656 := by omega
  clear hs hs2 hrb
  by_cases hl : s.size + t.size ≤ 200
  · have g0 : ¬ 200 < (s.size : Int) + (t.size : Int) := by omega
    have hst : s ++ t = S (s.data.toList ++ t.data.toList) := by
      conv => lhs; rw [← S_of s, ← S_of t]
      rw [S_app]
    have hlst : (s ++ t).data.toList = s.data.toList ++ t.data.toList := by rw [hst, S_list]
    have hue : S (esc s.data.toList) ++ S (esc t.data.toList) = S (esc (s ++ t).data.toList) := by rw [S_app, hlst, esc_both]
    have l1 := esc_two s.data.toList
    have l2 := esc_two t.data.toList
    have n1 : s.data.toList.length = s.size := len_data s
    have n2 : t.data.toList.length = t.size := len_data t
    have z1 : (S (esc s.data.toList)).size ≤ 400 := by rw [S_size]; omega
    have z2 : (S (esc t.data.toList)).size ≤ 400 := by rw [S_size]; omega
    have z3 : (s ++ t).size = s.size + t.size := ByteArray.size_append ..
    have hq : ((s ++ t).toList == ([] : List UInt8)) = decide (s.size + t.size = 0) := by
      rw [Lib.toList_data, hlst, Bool.eq_iff_iff, beq_iff_eq, decide_eq_true_iff, ← n1, ← n2, ← List.length_append]
      exact List.length_eq_zero_iff.symm
    have hrd : rdB (S (esc s.data.toList) ++ S (esc t.data.toList)) = oneT (s.data.toList ++ t.data.toList) := by
      unfold rdB
      rw [hue, S_list, hlst]
      exact Rdr_esc false false _
    have S1 := Lib.hid (fun w' => K.escape s w' (by omega))
    have S2 := Lib.hid (fun w' => K.escape t w' (by omega))
    have S3 := Lib.hid (fun w' => K.escape (s ++ t) w' (by omega))
    have S4 := Lib.hid (fun w' => K.parse (S (esc s.data.toList) ++ S (esc t.data.toList)) w' (by rw [ByteArray.size_append]; omega))
    rw [hrd] at S4
    rw [← hue] at S3
    have gg1 : ¬ 9223372036854775807 < (S (esc s.data.toList)).size + (S (esc t.data.toList)).size := by omega
    have gg2 : ¬ 9223372036854775807 < s.size + t.size := by omega
    have HL := Lib.hid hst
    clear hrd hue l1 l2 hlst hst K z3
    generalize S (esc s.data.toList) = us at *
    generalize S (esc t.data.toList) = ut at *
    by_cases hz : s.size + t.size = 0
    · rw [decide_eq_true hz] at hq
      have hone : oneT (s.data.toList ++ t.data.toList) = [] := if_pos (List.eq_nil_of_length_eq_zero (by rw [List.length_append]; omega))
      rw [hone] at S4
      clear hone hz n1 n2 z1 z2 S3 HL
      go_enter Tryz.func11, Tryz.ntmps11
      go_wp2_with fail
      refine (HA.out _).mono ?_
      rintro e w2 ⟨rfl, b2⟩
      have H2 := Lib.hid b2
      clear b2
      go_wp2_with fail
      refine (S1.out _).mono ?_
      rintro e w3 ⟨rfl, b3⟩
      have H3 := Lib.hid (H2.out.trans (b3.mono H2.out.size))
      clear b3
      go_wp2_with fail
      refine (S2.out _).mono ?_
      rintro e w4 ⟨rfl, b4⟩
      have H4 := Lib.hid (H3.out.trans (b4.mono H3.out.size))
      clear b4
      go_wp2_with fail
      refine (S4.out _).mono ?_
      rintro e w5 ⟨v5, rfl, b5, t5⟩
      have H5 := Lib.hid (H4.out.trans (b5.mono H4.out.size))
      obtain ⟨ao, ca, rfl⟩ := t5.len
      clear b5 t5
      go_wp2_with fail
      go_ret
      exact ⟨rfl, H5.out⟩
    · rw [decide_eq_false hz] at hq
      have hone : oneT (s.data.toList ++ t.data.toList) = [.mk 1 (s.data.toList ++ t.data.toList) []] := if_neg (fun h => hz (by have := congrArg List.length h; rw [List.length_append, List.length_nil] at this; omega))
      rw [hone] at S4
      clear hone hz n1 n2 z1 z2
      have q1 : ((s ++ t).toList == (s ++ t).toList) = true := by simp
      have q2 : ((us ++ ut).toList == (us ++ ut).toList) = true := by simp
      go_enter Tryz.func11, Tryz.ntmps11
      go_wp2_with fail
      refine (HA.out _).mono ?_
      rintro e w2 ⟨rfl, b2⟩
      have H2 := Lib.hid b2
      clear b2
      go_wp2_with fail
      refine (S1.out _).mono ?_
      rintro e w3 ⟨rfl, b3⟩
      have H3 := Lib.hid (H2.out.trans (b3.mono H2.out.size))
      clear b3
      go_wp2_with fail
      refine (S2.out _).mono ?_
      rintro e w4 ⟨rfl, b4⟩
      have H4 := Lib.hid (H3.out.trans (b4.mono H3.out.size))
      clear b4
      go_wp2_with fail
      refine (S4.out _).mono ?_
      rintro e w5 ⟨v5, rfl, b5, t5⟩
      have H5 := Lib.hid (H4.out.trans (b5.mono H4.out.size))
      obtain ⟨bb, oo, ca, rfl, d0, d1⟩ := tr_only9 t5
      rw [← HL.out] at d1
      clear b5 t5
      go_wp2_with fail
      refine (S1.out _).mono ?_
      rintro e w6 ⟨rfl, b6⟩
      have H6 := Lib.hid (H5.out.trans (b6.mono H5.out.size))
      clear b6 S1
      go_wp2_with fail
      refine (S2.out _).mono ?_
      rintro e w7 ⟨rfl, b7⟩
      have H7 := Lib.hid (H6.out.trans (b7.mono H6.out.size))
      clear b7 S2
      go_wp2_with fail
      refine (S3.out _).mono ?_
      rintro e w8 ⟨rfl, b8⟩
      have H8 := Lib.hid (H7.out.trans (b8.mono H7.out.size))
      clear b8 S3
      go_wp2_with fail
      go_ret
      exact ⟨rfl, H8.out⟩
  · have g0 : 200 < (s.size : Int) + (t.size : Int) := by omega
    clear hr hr2
    go_enter Tryz.func11, Tryz.ntmps11
    go_wp2_with fail
    refine (HA.out _).mono ?_
    rintro e w2 ⟨rfl, b2⟩
    have H2 := Lib.hid b2
    clear b2
    go_wp2_with fail
    refine (HA.out _).mono ?_
    rintro e w3 ⟨rfl, b3⟩
    have H3 := Lib.hid (H2.out.trans (b3.mono H2.out.size))
    clear b3
    go_wp2_with fail
    go_ret
    exact ⟨rfl, H3.out⟩

end Go.Proofs.YtjgmfgnfdaeelaaGreatDoor.Sp
