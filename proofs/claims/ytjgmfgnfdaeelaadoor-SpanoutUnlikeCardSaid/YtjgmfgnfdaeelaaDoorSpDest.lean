/-
  CONTRACTS of the document's space, edge, has, Dest and text (emendationref07).
-/
import Derived.Test.YtjgmfgnfdaeelaaDoorSpHelp
import Derived.Deep.Cut
import Derived.Deep.CutRange
import Derived.Deep.CutBlock
namespace Go.Proofs.YtjgmfgnfdaeelaaDoor.Sp
open Go.RowKit
open Go.Proofs.YtjgmfgnfdaeelaaDoor.Tk (S S_of S_list S_size S_toList S_app ret_int eq8 ne8 at_data len_data)
open Go.Proofs.YtjgmfgnfdaeelaaDoor.Cm (calls_at)
set_option linter.unusedVariables false

def spB (c : UInt8) : Bool := decide (c = 32) || decide (c = 9)
def edB (c : UInt8) : Bool := spB c || decide (c = 10)
theorem i8 (c : UInt8) (n : Nat) (hn : n < 256) : ((c.toNat : Int) == (n : Int)) = decide (c = UInt8.ofNat n) := by
  rw [Bool.eq_iff_iff, beq_iff_eq, decide_eq_true_iff]
  constructor
  · intro h
    apply UInt8.toNat_inj.1
    rw [UInt8.toNat_ofNat']
    omega
  · intro h
    rw [h, UInt8.toNat_ofNat']
    omega

theorem space_any (c : UInt8) (w : World) :
    Calls Tryd.prog 43 #[.int .u8 c.toNat] w fun e w' => e = .returned (.bool (spB c)) ∧ w = w' := by
  by_cases h1 : c = 32
  · subst h1
    go_enter Tryd.func43, Tryd.ntmps43
    go_wp2_with fail
    go_ret
    exact ⟨rfl, rfl⟩
  · have e1 : ((c.toNat : Int) == 32) = false := ne8 (b := 32) h1
    by_cases h2 : c = 9
    · subst h2
      go_enter Tryd.func43, Tryd.ntmps43
      go_wp2_with fail
      go_ret
      exact ⟨rfl, rfl⟩
    · have e2 : ((c.toNat : Int) == 9) = false := ne8 (b := 9) h2
      have HR : Hid (spB c = false) := Lib.hid (by unfold spB; rw [decide_eq_false h1, decide_eq_false h2]; rfl)
      clear h1 h2
      go_enter Tryd.func43, Tryd.ntmps43
      go_wp2_with fail
      go_ret
      exact ⟨ret_bool HR.out.symm, rfl⟩
theorem edge_any (c : UInt8) (w : World) :
    Calls Tryd.prog 32 #[.int .u8 c.toNat] w fun e w' => e = .returned (.bool (edB c)) ∧ w = w' := by
  have H := Lib.hid (space_any c w)
  have HE : Hid (edB c = (spB c || decide (c = 10))) := Lib.hid rfl
  cases h1 : spB c with
  | true =>
    rw [h1] at H
    have HR : Hid (edB c = true) := Lib.hid (by rw [HE.out, h1]; rfl)
    clear h1 HE
    go_enter Tryd.func32, Tryd.ntmps32
    go_wp2_with fail
    refine H.out.mono ?_
    rintro e w1 ⟨rfl, rfl⟩
    clear H
    go_wp2_with fail
    go_ret
    exact ⟨ret_bool HR.out.symm, rfl⟩
  | false =>
    rw [h1] at H
    by_cases h2 : c = 10
    · have e2 : ((c.toNat : Int) == 10) = true := eq8 (b := 10) h2
      have HR : Hid (edB c = true) := Lib.hid (by rw [HE.out, decide_eq_true h2]; simp)
      clear h1 h2 HE
      go_enter Tryd.func32, Tryd.ntmps32
      go_wp2_with fail
      refine H.out.mono ?_
      rintro e w1 ⟨rfl, rfl⟩
      clear H
      go_wp2_with fail
      go_ret
      exact ⟨ret_bool HR.out.symm, rfl⟩
    · have e2 : ((c.toNat : Int) == 10) = false := ne8 (b := 10) h2
      have HR : Hid (edB c = false) := Lib.hid (by rw [HE.out, h1, decide_eq_false h2]; rfl)
      clear h1 h2 HE
      go_enter Tryd.func32, Tryd.ntmps32
      go_wp2_with fail
      refine H.out.mono ?_
      rintro e w1 ⟨rfl, rfl⟩
      clear H
      go_wp2_with fail
      go_ret
      exact ⟨ret_bool HR.out.symm, rfl⟩

theorem drop_all (s : ByteArray) (k : Nat) (h : ¬ k < s.size) : s.data.toList.drop k = [] := List.drop_eq_nil_of_le (by simp; omega)
/-- Does a byte stand in a text? -/
def hsB (c : UInt8) (s : List UInt8) : Bool := s.any (fun b => decide (b = c))
theorem has_any (s : ByteArray) (c : UInt8) (hs : s.size ≤ 140737488355328) (w : World) :
    Calls Tryd.prog 59 #[.string s, .int .u8 c.toNat] w fun e w' => e = .returned (.bool (hsB c s.data.toList)) ∧ w = w' := by
  have H0 : Hid (hsB c s.data.toList = hsB c (s.data.toList.drop 0)) := Lib.hid (by rw [List.drop_zero])
  obtain ⟨X, hX⟩ : ∃ X, hsB c s.data.toList = X := ⟨_, rfl⟩
  rw [hX] at H0
  rw [hX]
  clear hX
  go_enter Tryd.func59, Tryd.ntmps59
  go_wp2_with fail
  go_loop [5] (fun i => ∃ k : Nat, k ≤ s.size ∧ i = .int .i64 k ∧ Hid (X = hsB c (s.data.toList.drop k))) (fun i => s.size - (intOf i).toNat)
  case atStart => exact ⟨0, Nat.zero_le _, rfl, H0⟩
  case round =>
    clear H0
    obtain ⟨k, hk, rfl, HN⟩ := hrel
    by_cases hlt : k < s.size
    · have hnx := HN.out
      rw [at_data s k hlt] at hnx
      by_cases hc : s[k] = c
      · have e1 := eq8 hc
        have HR : Hid (X = true) := Lib.hid (by rw [hnx]; unfold hsB; simp [hc])
        clear hnx HN hc
        go_wp2_with fail
        go_ret
        exact ⟨ret_bool HR.out.symm, rfl⟩
      · have e1 := ne8 hc
        have HR : Hid (X = hsB c (s.data.toList.drop (k + 1))) := Lib.hid (by rw [hnx]; unfold hsB; rw [List.any_cons, decide_eq_false hc, Bool.false_or])
        clear hnx HN hc
        go_wp2_with fail
        go_round
        case rel => exact ⟨k + 1, by omega, by go_num, HR⟩
        case measure => simp [intOf]; omega
    · have hnx := HN.out
      rw [drop_all s k hlt] at hnx
      have HR : Hid (X = false) := Lib.hid (by rw [hnx]; rfl)
      clear hnx HN
      go_wp2_with fail
      go_ret
      exact ⟨ret_bool HR.out.symm, rfl⟩

/-! Where a link can go to. -/
def marksL : List UInt8 := [46, 47, 95, 45, 35, 63, 38, 58, 37]
def alB (c : UInt8) : Bool := (decide (97 ≤ (c.toNat : Int)) && decide ((c.toNat : Int) ≤ 122)) || (decide (65 ≤ (c.toNat : Int)) && decide ((c.toNat : Int) ≤ 90)) || (decide (48 ≤ (c.toNat : Int)) && decide ((c.toNat : Int) ≤ 57))
def dcB (c : UInt8) : Bool := alB c || marksL.any (fun b => decide (c = b))
def dsB (s : List UInt8) : Bool := s.all dcB && !s.isEmpty
theorem dest_any (s : ByteArray) (hs : s.size ≤ 140737488355328) (w : World) :
    Calls Tryd.prog 60 #[.string s] w fun e w' => e = .returned (.bool (dsB s.data.toList)) ∧ w = w' := by
  have H0 : Hid (dsB s.data.toList = ((s.data.toList.drop 0).all dcB && !s.data.toList.isEmpty)) := Lib.hid (by rw [List.drop_zero]; rfl)
  have HEm : Hid ((!s.toList.isEmpty) = !s.data.toList.isEmpty) := Lib.hid (by rw [Lib.toList_data])
  obtain ⟨X, hX⟩ : ∃ X, dsB s.data.toList = X := ⟨_, rfl⟩
  obtain ⟨ne, hne⟩ : ∃ ne, (!s.data.toList.isEmpty) = ne := ⟨_, rfl⟩
  rw [hX, hne] at H0
  rw [hne] at HEm
  rw [hX]
  have hm9 : marksL.length = 9 := rfl
  clear hX hne
  go_enter Tryd.func60, Tryd.ntmps60
  go_wp2_with fail
  go_loop [3] (fun i => ∃ k : Nat, k ≤ s.size ∧ i = .int .i64 k ∧ Hid (X = ((s.data.toList.drop k).all dcB && ne))) (fun i => s.size - (intOf i).toNat)
  case atStart => exact ⟨0, Nat.zero_le _, rfl, H0⟩
  case round =>
    clear H0
    obtain ⟨k, hk, rfl, HN⟩ := hrel
    by_cases hlt : k < s.size
    · have hnx := HN.out
      rw [at_data s k hlt, List.all_cons] at hnx
      have HQ := Lib.hid hnx
      have hi1 : (k : Int) < (s.size : Int) := by omega
      clear hnx HN
      go_upto_region 5 with fail
      generalize s[k] = c at *
      go_cut [5] from 8 to 54 (fun ok wx => ok = .bool (alB c) ∧ w = wx)
      case first =>
        have HAl : Hid (alB c = ((decide (97 ≤ (c.toNat : Int)) && decide ((c.toNat : Int) ≤ 122)) || (decide (65 ≤ (c.toNat : Int)) && decide ((c.toNat : Int) ≤ 90)) || (decide (48 ≤ (c.toNat : Int)) && decide ((c.toNat : Int) ≤ 57)))) := Lib.hid rfl
        clear HQ
        generalize (c.toNat : Int) = n at *
        cases a0 : decide (97 ≤ n) with
        | true =>
          cases b0 : decide (n ≤ 122) with
          | true =>
            have HT : Hid (alB c = true) := Lib.hid (by rw [HAl.out, a0, b0]; simp)
            go_wp2_with fail
            go_meet
            exact ⟨by rw [HT.out], rfl⟩
          | false =>
            cases a1 : decide (65 ≤ n) with
            | true =>
              cases b1 : decide (n ≤ 90) with
              | true =>
                have HT : Hid (alB c = true) := Lib.hid (by rw [HAl.out, a0, b0, a1, b1]; simp)
                go_wp2_with fail
                go_meet
                exact ⟨by rw [HT.out], rfl⟩
              | false =>
                cases a2 : decide (48 ≤ n) with
                | true =>
                  cases b2 : decide (n ≤ 57) with
                  | true =>
                    have HT : Hid (alB c = true) := Lib.hid (by rw [HAl.out, a0, b0, a1, b1, a2, b2]; simp)
                    go_wp2_with fail
                    go_meet
                    exact ⟨by rw [HT.out], rfl⟩
                  | false =>
                    go_wp2_with fail
                    go_meet
                    exact ⟨by rw [HAl.out, a0, b0, a1, b1, a2, b2]; rfl, rfl⟩
                | false =>
                  go_wp2_with fail
                  go_meet
                  exact ⟨by rw [HAl.out, a0, b0, a1, b1, a2]; rfl, rfl⟩
            | false =>
              cases a2 : decide (48 ≤ n) with
              | true =>
                cases b2 : decide (n ≤ 57) with
                | true =>
                  have HT : Hid (alB c = true) := Lib.hid (by rw [HAl.out, a0, b0, a1, a2, b2]; simp)
                  go_wp2_with fail
                  go_meet
                  exact ⟨by rw [HT.out], rfl⟩
                | false =>
                  go_wp2_with fail
                  go_meet
                  exact ⟨by rw [HAl.out, a0, b0, a1, a2, b2]; rfl, rfl⟩
              | false =>
                go_wp2_with fail
                go_meet
                exact ⟨by rw [HAl.out, a0, b0, a1, a2]; rfl, rfl⟩
        | false =>
          cases a1 : decide (65 ≤ n) with
          | true =>
            cases b1 : decide (n ≤ 90) with
            | true =>
              have HT : Hid (alB c = true) := Lib.hid (by rw [HAl.out, a0, a1, b1]; simp)
              go_wp2_with fail
              go_meet
              exact ⟨by rw [HT.out], rfl⟩
            | false =>
              cases a2 : decide (48 ≤ n) with
              | true =>
                cases b2 : decide (n ≤ 57) with
                | true =>
                  have HT : Hid (alB c = true) := Lib.hid (by rw [HAl.out, a0, a1, b1, a2, b2]; simp)
                  go_wp2_with fail
                  go_meet
                  exact ⟨by rw [HT.out], rfl⟩
                | false =>
                  go_wp2_with fail
                  go_meet
                  exact ⟨by rw [HAl.out, a0, a1, b1, a2, b2]; rfl, rfl⟩
              | false =>
                go_wp2_with fail
                go_meet
                exact ⟨by rw [HAl.out, a0, a1, b1, a2]; rfl, rfl⟩
          | false =>
            cases a2 : decide (48 ≤ n) with
            | true =>
              cases b2 : decide (n ≤ 57) with
              | true =>
                have HT : Hid (alB c = true) := Lib.hid (by rw [HAl.out, a0, a1, a2, b2]; simp)
                go_wp2_with fail
                go_meet
                exact ⟨by rw [HT.out], rfl⟩
              | false =>
                go_wp2_with fail
                go_meet
                exact ⟨by rw [HAl.out, a0, a1, a2, b2]; rfl, rfl⟩
            | false =>
              go_wp2_with fail
              go_meet
              exact ⟨by rw [HAl.out, a0, a1, a2]; rfl, rfl⟩
      case rest =>
        obtain ⟨rfl, rfl⟩ := hcut
        have Hd : Hid (dcB c = (alB c || marksL.any (fun b => decide (c = b)))) := Lib.hid rfl
        have HI0 : Hid ((alB c || marksL.any (fun b => decide (c = b))) = ((alB c || (marksL.take 0).any (fun b => decide (c = b))) || (marksL.drop 0).any (fun b => decide (c = b)))) := Lib.hid (by rw [List.take_zero, List.drop_zero]; simp)
        have HMk : Hid (∀ j (hj : j < 9), marksL[j]? = some ((⟨#[46, 47, 95, 45, 35, 63, 38, 58, 37]⟩ : ByteArray)[j]'(by exact hj)) ∧ marksL.take (j + 1) = marksL.take j ++ [(⟨#[46, 47, 95, 45, 35, 63, 38, 58, 37]⟩ : ByteArray)[j]'(by exact hj)]) := Lib.hid (fun j hj => by
          match j, hj with
          | 0, _ => exact ⟨rfl, rfl⟩
          | 1, _ => exact ⟨rfl, rfl⟩
          | 2, _ => exact ⟨rfl, rfl⟩
          | 3, _ => exact ⟨rfl, rfl⟩
          | 4, _ => exact ⟨rfl, rfl⟩
          | 5, _ => exact ⟨rfl, rfl⟩
          | 6, _ => exact ⟨rfl, rfl⟩
          | 7, _ => exact ⟨rfl, rfl⟩
          | 8, _ => exact ⟨rfl, rfl⟩)
        go_wp2_with fail
        go_loop [5, 7] (fun ok j => ∃ q : Nat, q ≤ 9 ∧ j = .int .i64 q ∧ ok = .bool (alB c || (marksL.take q).any (fun b => decide (c = b)))) (fun _ j => 9 - (intOf j).toNat)
        case atStart => exact ⟨0, by omega, rfl, by rw [List.take_zero]; simp⟩
        case round =>
          obtain ⟨q, hq, rfl, rfl⟩ := hrel
          by_cases hlq : q < 9
          · obtain ⟨_, hm2⟩ := HMk.out q hlq
            have hsz : (⟨#[46, 47, 95, 45, 35, 63, 38, 58, 37]⟩ : ByteArray).size = 9 := rfl
            have HN2 : Hid ((alB c || (marksL.take (q + 1)).any (fun b => decide (c = b))) = ((alB c || (marksL.take q).any (fun b => decide (c = b))) || decide (c = (⟨#[46, 47, 95, 45, 35, 63, 38, 58, 37]⟩ : ByteArray)[q]'(by exact hlq)))) := Lib.hid (by rw [hm2, List.any_append]; simp [Bool.or_assoc])
            clear hm2
            cases hy : (alB c || (marksL.take q).any (fun b => decide (c = b))) with
            | true =>
              rw [hy] at HN2
              have HR : Hid ((alB c || (marksL.take (q + 1)).any (fun b => decide (c = b))) = true) := Lib.hid (by rw [HN2.out]; rfl)
              clear hy HN2
              go_wp2_with fail
              go_round
              case rel => exact ⟨q + 1, by omega, by go_num, by rw [HR.out]⟩
              case measure => simp [intOf]; omega
            | false =>
              rw [hy] at HN2
              have hq2 : q < (⟨#[46, 47, 95, 45, 35, 63, 38, 58, 37]⟩ : ByteArray).size := by omega
              by_cases hc : c = (⟨#[46, 47, 95, 45, 35, 63, 38, 58, 37]⟩ : ByteArray)[q]'hq2
              · have e1 : ((c.toNat : Int) == (((⟨#[46, 47, 95, 45, 35, 63, 38, 58, 37]⟩ : ByteArray)[q]'hq2).toNat : Int)) = true := eq8 hc
                have HR : Hid ((alB c || (marksL.take (q + 1)).any (fun b => decide (c = b))) = true) := Lib.hid (by rw [HN2.out, decide_eq_true hc]; rfl)
                clear hy HN2 hc
                go_wp2_with fail
                go_round
                case rel => exact ⟨q + 1, by omega, by go_num, by rw [HR.out]⟩
                case measure => simp [intOf]; omega
              · have e1 : ((c.toNat : Int) == (((⟨#[46, 47, 95, 45, 35, 63, 38, 58, 37]⟩ : ByteArray)[q]'hq2).toNat : Int)) = false := ne8 hc
                have HR : Hid ((alB c || (marksL.take (q + 1)).any (fun b => decide (c = b))) = false) := Lib.hid (by rw [HN2.out, decide_eq_false hc]; rfl)
                clear hy HN2 hc
                go_wp2_with fail
                go_round
                case rel => exact ⟨q + 1, by omega, by go_num, by rw [HR.out]⟩
                case measure => simp [intOf]; omega
          · obtain rfl : q = 9 := by omega
            have HR : Hid ((alB c || (marksL.take 9).any (fun b => decide (c = b))) = dcB c) := Lib.hid (by rw [Hd.out]; rfl)
            rw [HR.out]
            cases hd : dcB c with
            | true =>
              have HQ2 : Hid (X = ((s.data.toList.drop (k + 1)).all dcB && ne)) := Lib.hid (by rw [HQ.out, hd]; simp)
              clear HQ HR hd Hd HMk
              go_wp2_with fail
              go_round
              case rel => exact ⟨k + 1, by omega, by go_num, HQ2⟩
              case measure => simp [intOf]; omega
            | false =>
              have HQ2 : Hid (X = false) := Lib.hid (by rw [HQ.out, hd]; simp)
              clear HQ HR hd Hd HMk
              go_wp2_with fail
              go_ret
              exact ⟨ret_bool HQ2.out.symm, rfl⟩
    · have hnx := HN.out
      rw [drop_all s k hlt] at hnx
      have HR : Hid (X = !s.toList.isEmpty) := Lib.hid (by rw [hnx, HEm.out]; rfl)
      clear hnx HN HEm
      go_wp2_with fail
      go_ret
      exact ⟨ret_bool HR.out.symm, rfl⟩

end Go.Proofs.YtjgmfgnfdaeelaaDoor.Sp
