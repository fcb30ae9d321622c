/-
  CONTRACT of the document's Check (emendationref01).
-/
import Derived.Test.YtjgmfgnfdaeelaaDoorUtfRef
import Derived.Test.YtjgmfgnfdaeelaaDoorUtfCheck
namespace Go.Proofs.YtjgmfgnfdaeelaaDoor.Utf
open Go.RowKit
set_option linter.unusedVariables false

theorem zero_at (t : ByteArray) (k : Nat) (h : k < t.size) (e : t[k].toNat = 0) : zeroB t = true := by
  unfold zeroB
  apply decide_eq_true
  have h' : k < t.data.toList.length := by simpa using h
  have e1 : t.data.toList[k] = t[k] := rfl
  have e2 : t.data.toList[k] = 0 := by rw [e1]; exact UInt8.toNat_inj.1 e
  exact e2 ▸ List.getElem_mem h'
theorem no_zero (t : ByteArray) (h : ∀ k (hk : k < t.size), t[k].toNat ≠ 0) : zeroB t = false := by
  unfold zeroB
  apply decide_eq_false
  intro hm
  obtain ⟨i, hi, he⟩ := List.getElem_of_mem hm
  have hi' : i < t.size := by simpa using hi
  refine h i hi' ?_
  have e1 : t.data.toList[i] = t[i] := rfl
  rw [← e1, he]; rfl
/-- None of the first k bytes is 0. -/
def Clean0 (t : ByteArray) (k : Nat) : Prop := ∀ j (hj : j < t.size), j < k → t[j].toNat ≠ 0

set_option maxHeartbeats 400000 in
theorem rcheck_any (t : ByteArray) (hs : t.size ≤ 140737488355328) (w : World) :
    Calls Tryd.prog 57 #[.string t] w fun e w' => e = .returned (.int .i64 (chk t)) ∧ w = w' := by
  by_cases h1 : 1048576 < (t.size : Int)
  · have Hfin := Lib.hid (show (4 : Int) = chk t by unfold chk; rw [if_pos h1])
    go_enter Tryd.func57, Tryd.ntmps57
    go_wp2_with fail
    go_ret
    exact ⟨ret_int Hfin.out, rfl⟩
  have e1 : decide (1048576 < (t.size : Int)) = false := by simpa using h1
  have Hz : Hid (∀ g : Bool, zeroB t = false → goesAt t 0 = g → chk t = if g = true then 0 else 2) := Lib.hid (fun g h2 hg => by unfold chk; rw [if_neg h1, if_neg (by rw [h2]; decide), hg])
  have H3 : Hid (zeroB t = true → chk t = 3) := Lib.hid (fun h2 => by unfold chk; rw [if_neg h1, if_pos h2])
  go_enter Tryd.func57, Tryd.ntmps57
  go_wp2_with fail
  go_loop [3] (fun i => ∃ k : Nat, k ≤ t.size ∧ i = .int .i64 k ∧ Clean0 t k) (fun i => t.size - (intOf i).toNat)
  case atStart => exact ⟨0, Nat.zero_le _, rfl, fun j _ h => absurd h (Nat.not_lt_zero j)⟩
  case round =>
    obtain ⟨k, hk, rfl, Hc⟩ := hrel
    by_cases hlt : k < t.size
    · by_cases h0 : t[k].toNat = 0
      · have Hfin := Lib.hid (show (3 : Int) = chk t from (H3.out (zero_at t k hlt h0)).symm)
        have e0 : ((t[k].toNat : Int) == 0) = true := by simp [h0]
        clear h0
        go_wp2_with fail
        go_ret
        exact ⟨ret_int Hfin.out, rfl⟩
      · have e0 : ((t[k].toNat : Int) == 0) = false := by simp [h0]
        have Hc2 : Clean0 t (k + 1) := fun j hj h => by
          by_cases e : j = k
          · subst e; exact h0
          · exact Hc j hj (by omega)
        clear h0
        go_wp2_with fail
        go_round
        case rel => exact ⟨k + 1, by omega, by go_num, Hc2⟩
        case measure => simp [intOf]; omega
    · have hz : zeroB t = false := no_zero t fun j hj => Hc j hj (by omega)
      have Hz2 : Hid (∀ g : Bool, goesAt t 0 = g → chk t = if g = true then 0 else 2) := Lib.hid (fun g => Hz.out g hz)
      clear hz Hc
      go_wp2_with fail
      go_loop [4] (fun i => ∃ k : Nat, k ≤ t.size ∧ i = .int .i64 k ∧ Hid (goesAt t k = goesAt t 0)) (fun i => t.size - (intOf i).toNat)
      case atStart => exact ⟨0, Nat.zero_le _, rfl, rfl⟩
      case round =>
        obtain ⟨k, hk, rfl, Hg⟩ := hrel
        by_cases hlt : k < t.size
        · have hn := nxt_le t k
          have hin := nxtI_in t k
          have hbad := fun h0 => goesAt_bad t k hlt h0
          have hstep := fun h0 => goesAt_step t k hlt h0
          generalize nxt t k = p at *
          obtain ⟨c, n⟩ := p
          have Hin := Lib.hid hin
          clear hin
          simp only at hn hbad hstep
          by_cases h0 : n = 0
          · have Hfin := Lib.hid (show (2 : Int) = chk t by rw [Hz2.out false (by rw [← Hg.out]; exact hbad h0)]; rfl)
            clear hbad hstep
            subst h0
            go_wp2_with (go_at_call 77; refine (rnext_any t k hs _).mono ?_; rintro e w' ⟨rfl, rfl⟩; rw [Hin.out])
            go_ret
            exact ⟨ret_int Hfin.out, rfl⟩
          · have Hst := Lib.hid (hstep h0)
            clear hbad hstep
            have e0 : ((n : Int) == 0) = false := by simp [h0]
            go_wp2_with (go_at_call 77; refine (rnext_any t k hs _).mono ?_; rintro e w' ⟨rfl, rfl⟩; rw [Hin.out])
            go_round
            case rel => exact ⟨k + n, by omega, by go_num, Hst.out.trans Hg.out⟩
            case measure => simp [intOf]; omega
        · have Hfin := Lib.hid (show (0 : Int) = chk t by rw [Hz2.out true (by rw [← Hg.out]; exact goesAt_end t k (by omega))]; rfl)
          go_wp2_with fail
          go_ret
          exact ⟨ret_int Hfin.out, rfl⟩
end Go.Proofs.YtjgmfgnfdaeelaaDoor.Utf
