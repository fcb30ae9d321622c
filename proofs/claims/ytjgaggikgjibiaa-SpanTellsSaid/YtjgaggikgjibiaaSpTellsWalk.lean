/-
  THE WALK of the statement SpanTells.
-/
import Derived.Test.YtjgaggikgjibiaaSpTold
namespace Go.Proofs.Ytjgaggikgjibiaa.Sp
open Go.RowKit
open Go.Proofs.Ytjgaggikgjibiaa.Tk (S S_of S_list S_size S_toList S_app ret_int eq8 ne8 at_data len_data)
open Go.Proofs.Ytjgaggikgjibiaa.Cm (calls_at)
set_option linter.unusedVariables false

set_option maxHeartbeats 3200000 in
set_option maxRecDepth 100000 in
theorem spanTells_walk (K : Told) (w : World) (vl : Value) (l : List Sp) (rl : Tr w vl l) (fl : fitAll reachBytes l) (s : ByteArray) (hs : s.size ≤ maxLen) (hr : s.size ≤ reachBytes) :
    Calls Try.prog 3 #[vl, .string s] w (OkAns w true) := by
  obtain ⟨al, cl, rfl⟩ := rl.len
  have HA := Lib.hid (awake7_any K)
  have RL := Lib.hid rl
  have FL := Lib.hid (fun w' (h : Below w.heap.size w w') => few7_any l _ w' (RL.out.below h) fl)
  have hrb : reachBytes ≤ 140737488355328 := by decide
  clear rl hs
  go_enter Try.func3, Try.ntmps3
  go_wp2_with fail
  refine (HA.out _).mono ?_
  rintro e w2 ⟨rfl, b2⟩
  have H2 := Lib.hid b2
  clear b2
  go_wp2_with fail
  refine (FL.out _ H2.out).mono ?_
  rintro e w3 ⟨rfl, rfl⟩
  clear FL
  cases hf : fewB l with
  | false =>
    go_wp2_with fail
    refine (HA.out _).mono ?_
    rintro e w4 ⟨rfl, b4⟩
    have H4 := Lib.hid (H2.out.trans (b4.mono H2.out.size))
    clear b4
    go_wp2_with fail
    go_ret
    exact ⟨rfl, H4.out⟩
  | true =>
    by_cases hl : s.size ≤ 2000
    · have tl := (few_of hf).1
      have S1 := Lib.hid (fun w' (h : Below w.heap.size w w') => K.right _ l w' (RL.out.below h) (by omega) (fit_reach fl))
      have S2 := Lib.hid (fun w' (h : Below w.heap.size w w') => rright_any l _ w' (fit_reach fl) (RL.out.below h))
      have S3 := Lib.hid (fun w' (h : Below w.heap.size w w') => K.plain _ l w' (RL.out.below h) (by omega))
      have S4 := Lib.hid (fun w' (h : Below w.heap.size w w') => rplain_any (totAll l) l _ w' (Nat.le_refl _) (by omega) (RL.out.below h))
      have S5 := Lib.hid (fun w' (h : Below w.heap.size w w') => K.lines _ l w' (RL.out.below h) (by omega))
      have S6 := Lib.hid (fun w' => K.dest s w' (by omega))
      have S7 := Lib.hid (fun w' => dest_any s (by omega) w')
      have hpl : (plAll l).length ≤ 3000 := Nat.le_trans (plAll_len l) (by omega)
      have HLn : Hid (lnI l = 1 + ((plAll l).take (plAll l).length).count 10) := Lib.hid (by rw [List.take_length]; rfl)
      have e2 : ((S (plAll l)).toList == (S (plAll l)).toList) = true := by simp
      have hsz : (S (plAll l)).size = (plAll l).length := S_size _
      have hAt : ∀ k (h : k < (S (plAll l)).size), (plAll l).take (k + 1) = (plAll l).take k ++ [(S (plAll l))[k]] := fun k h => by
        have := at_data (S (plAll l)) k h
        rw [S_list] at this
        have h2 : (plAll l)[k]? = some (S (plAll l))[k] := by rw [← List.head?_drop, this]; rfl
        rw [List.take_add_one, h2]
        rfl
      have HAt := Lib.hid hAt
      unfold StrAns at S3
      unfold IntAns at S5
      clear tl hf HA RL hAt fl
      generalize rtB l = y1 at *
      generalize dsB s.data.toList = y2 at *
      generalize lnI l = n at *
      generalize plAll l = p at *
      generalize S p = t at *
      have ey1 : (y1 == y1) = true := by simp
      have ey2 : (y2 == y2) = true := by simp
      have en : (n == n) = true := by simp
      go_wp2_with fail
      refine (S4.out _ H2.out).mono ?_
      rintro e w3 ⟨rfl, rfl⟩
      clear S4
      go_wp2_with fail
      go_loop [5, 25] (fun c i => ∃ k : Nat, k ≤ t.size ∧ i = .int .i64 k ∧ c = .int .i64 (1 + (((p.take k).count 10 : Nat) : Int))) (fun _ i => t.size - (intOf i).toNat)
      case atStart => exact ⟨0, Nat.zero_le _, rfl, by rw [List.take_zero]; rfl⟩
      case round =>
        obtain ⟨k, hk, rfl, rfl⟩ := hrel
        have hcnt : (p.take k).count 10 ≤ 3000 := Nat.le_trans List.count_le_length (by rw [List.length_take]; omega)
        by_cases hlt : k < t.size
        · have hnx := HAt.out k hlt
          have hi1 : (k : Int) < (t.size : Int) := by omega
          by_cases hc : t[k] = 10
          · have e1 : ((t[k].toNat : Int) == 10) = true := eq8 (b := 10) hc
            have HQ : Hid ((p.take (k + 1)).count 10 = (p.take k).count 10 + 1) := Lib.hid (by rw [hnx, List.count_append, hc]; rfl)
            clear hnx hc
            generalize (p.take k).count 10 = q at *
            go_wp2_with fail
            go_round
            case rel => exact ⟨k + 1, by omega, by go_num, by rw [HQ.out]; first | rfl | (congr 1 <;> omega) | congr 1⟩
            case measure => simp [intOf]; omega
          · have e1 : ((t[k].toNat : Int) == 10) = false := ne8 (b := 10) hc
            have HQ : Hid ((p.take (k + 1)).count 10 = (p.take k).count 10) := Lib.hid (by
              rw [hnx, List.count_append, List.count_singleton]
              have : ¬ ((t[k] == 10) = true) := by simpa using hc
              rw [if_neg this]
              rfl)
            clear hnx hc
            generalize (p.take k).count 10 = q at *
            go_wp2_with fail
            go_round
            case rel => exact ⟨k + 1, by omega, by go_num, by rw [HQ.out]⟩
            case measure => simp [intOf]; omega
        · obtain rfl : k = t.size := by omega
          rw [hsz, ← HLn.out]
          clear HAt HLn hcnt hlt
          go_wp2_with fail
          refine (S1.out _ H2.out).mono ?_
          rintro e w3 ⟨rfl, b3⟩
          have H3 := Lib.hid (H2.out.trans (b3.mono H2.out.size))
          clear b3 S1
          go_wp2_with fail
          refine (S2.out _ H3.out).mono ?_
          rintro e w4 ⟨rfl, b4⟩
          have H4 := Lib.hid (H3.out.trans (b4.mono H3.out.size))
          clear b4 S2
          go_wp2_with fail
          refine (S3.out _ H4.out).mono ?_
          rintro e w5 ⟨rfl, b5⟩
          have H5 := Lib.hid (H4.out.trans (b5.mono H4.out.size))
          clear b5 S3
          go_wp2_with fail
          refine (S5.out _ H5.out).mono ?_
          rintro e w6 ⟨rfl, b6⟩
          have H6 := Lib.hid (H5.out.trans (b6.mono H5.out.size))
          clear b6 S5
          go_wp2_with fail
          refine (S6.out _).mono ?_
          rintro e w7 ⟨rfl, b7⟩
          have H7 := Lib.hid (H6.out.trans (b7.mono H6.out.size))
          clear b7 S6
          go_wp2_with fail
          refine (S7.out _).mono ?_
          rintro e w8 ⟨rfl, rfl⟩
          clear S7
          go_wp2_with fail
          go_ret
          exact ⟨rfl, H7.out⟩
    · have d1 : ¬ (s.size : Int) ≤ 2000 := by omega
      have d2 : decide ((s.size : Int) > 2000) = true := decide_eq_true (by omega)
      go_wp2_with fail
      refine (HA.out _).mono ?_
      rintro e w4 ⟨rfl, b4⟩
      have H4 := Lib.hid (H2.out.trans (b4.mono H2.out.size))
      clear b4
      go_wp2_with fail
      go_ret
      exact ⟨rfl, H4.out⟩

end Go.Proofs.Ytjgaggikgjibiaa.Sp
