/-
  CONTRACT of the document's padded (emendationref09).
-/
import Derived.Test.YtjgmfgnfdaeelaaDoorSiTicks
import Derived.Test.YtjgmfgnfdaeelaaDoorSpBack
namespace Go.Proofs.YtjgmfgnfdaeelaaDoor.Sp
open Go.RowKit
open Go.Proofs.YtjgmfgnfdaeelaaDoor.Tk (S S_of S_list S_size S_toList S_app ret_int eq8 ne8 at_data len_data)
open Go.Proofs.YtjgmfgnfdaeelaaDoor.Cm (calls_at)
set_option linter.unusedVariables false

theorem padded_yes {s : List UInt8} (h : s.head? = some 96 ∨ s.getLast? = some 96 ∨ (onlySp s = false ∧ s.head? = some 32 ∧ s.getLast? = some 32)) : padded s = 32 :: (s ++ [32]) := if_pos h
theorem padded_no {s : List UInt8} (h : ¬ (s.head? = some 96 ∨ s.getLast? = some 96 ∨ (onlySp s = false ∧ s.head? = some 32 ∧ s.getLast? = some 32))) : padded s = s := if_neg h

set_option maxHeartbeats 1600000 in
theorem rpadded_any (s : ByteArray) (hs : s.size ≤ 1000000) (w : World) :
    Calls Tryd.prog 33 #[.string s] w fun e w' => e = .returned (.string (S (padded s.data.toList))) ∧ w = w' := by
  have H0 : Hid (onlySp s.data.toList = (true && onlySp (s.data.toList.drop 0))) := Lib.hid (by rw [List.drop_zero]; rfl)
  have emS : (s.toList == ([] : List UInt8)) = decide (s.size = 0) := by
    rw [Lib.toList_data, Bool.eq_iff_iff, beq_iff_eq, decide_eq_true_iff, ← len_data]
    exact List.length_eq_zero_iff.symm
  have HAt := Lib.hid (only_at s)
  have HY : Hid (s.data.toList.head? = some 96 ∨ s.data.toList.getLast? = some 96 ∨ (onlySp s.data.toList = false ∧ s.data.toList.head? = some 32 ∧ s.data.toList.getLast? = some 32) → S (padded s.data.toList) = (⟨#[32]⟩ : ByteArray) ++ s ++ (⟨#[32]⟩ : ByteArray)) := Lib.hid (fun h => by
    rw [padded_yes h]
    conv => rhs; rw [← S_of s]
    rw [show (⟨#[32]⟩ : ByteArray) = S [32] from rfl, S_app, S_app]
    congr 1)
  have HNo : Hid (¬ (s.data.toList.head? = some 96 ∨ s.data.toList.getLast? = some 96 ∨ (onlySp s.data.toList = false ∧ s.data.toList.head? = some 32 ∧ s.data.toList.getLast? = some 32)) → S (padded s.data.toList) = s) := Lib.hid (fun h => by rw [padded_no h, S_of])
  have HHd := Lib.hid (head_data s)
  have HLs := Lib.hid (last_data s)
  have z32 : (⟨#[32]⟩ : ByteArray).size = 1 := rfl
  have y1 : ((⟨#[32]⟩ : ByteArray) ++ s).size = 1 + s.size := by rw [ByteArray.size_append, z32]
  have gg1 : ¬ 9223372036854775807 < (⟨#[32]⟩ : ByteArray).size + s.size := by omega
  have gg2 : ¬ 9223372036854775807 < ((⟨#[32]⟩ : ByteArray) ++ s).size + (⟨#[32]⟩ : ByteArray).size := by omega
  obtain ⟨oy, ho⟩ : ∃ oy, onlySp s.data.toList = oy := ⟨_, rfl⟩
  rw [ho] at H0 HY HNo
  obtain ⟨X, hX⟩ : ∃ X, S (padded s.data.toList) = X := ⟨_, rfl⟩
  rw [hX] at HY HNo
  rw [hX]
  clear ho hX
  go_enter Tryd.func33, Tryd.ntmps33
  go_wp2_with fail
  go_loop [3, 4] (fun o i => ∃ (k : Nat) (ok : Bool), k ≤ s.size ∧ i = .int .i64 k ∧ o = .bool ok ∧ Hid (oy = (ok && onlySp (s.data.toList.drop k)))) (fun _ i => s.size - (intOf i).toNat)
  case atStart => exact ⟨0, true, Nat.zero_le _, rfl, rfl, H0⟩
  case round =>
    clear H0
    obtain ⟨k, ok, hk, rfl, rfl, HN⟩ := hrel
    by_cases hlt : k < s.size
    · have hnx := HN.out
      rw [HAt.out k hlt] at hnx
      have hi1 : (k : Int) < (s.size : Int) := by omega
      clear HY HNo HHd HLs HAt emS
      cases ok with
      | false =>
        have HR : Hid (oy = (false && onlySp (s.data.toList.drop (k + 1)))) := Lib.hid (by rw [hnx]; simp)
        clear hnx HN
        go_wp2_with fail
        go_round
        case rel => exact ⟨k + 1, false, by omega, by go_num, rfl, HR⟩
        case measure => simp [intOf]; omega
      | true =>
        have HR : Hid (oy = ((s[k] == 32) && onlySp (s.data.toList.drop (k + 1)))) := Lib.hid (by rw [hnx]; simp)
        have e1 : ((s[k].toNat : Int) == 32) = (s[k] == 32) := by
          by_cases hc : s[k] = 32
          · rw [show (s[k] == 32) = true from by rw [hc]; rfl]; exact eq8 (b := 32) hc
          · rw [beq_eq_false_iff_ne.2 hc]; exact ne8 (b := 32) hc
        clear hnx HN
        go_wp2_with fail
        go_round
        case rel => exact ⟨k + 1, _, by omega, by go_num, rfl, HR⟩
        case measure => simp [intOf]; omega
    · obtain rfl : k = s.size := by omega
      have hoy : oy = ok := by rw [HN.out, drop_all s _ hlt]; simp [onlySp]
      subst hoy
      clear HN hlt HAt hk
      by_cases hz : s.size = 0
      · rw [decide_eq_true hz] at emS
        have hem : s.data.toList = [] := List.eq_nil_of_length_eq_zero (by rw [len_data, hz])
        have HR : Hid (X = s) := Lib.hid (HNo.out (by rw [hem]; simp))
        clear hem HY HNo HHd HLs hz
        go_wp2_with fail
        go_ret
        exact ⟨ret_str HR.out.symm, rfl⟩
      · rw [decide_eq_false hz] at emS
        have hpos : 0 < s.size := by omega
        have hl1 : s.size - 1 < s.size := by omega
        have hd := HHd.out hpos
        have ls := HLs.out hl1
        have hi0 : (0 : Int) ≤ (s.size : Int) - 1 := by omega
        have hi2 : (s.size : Int) - 1 < (s.size : Int) := by omega
        have hnat : ((s.size : Int) - 1).toNat = s.size - 1 := by omega
        clear hz HHd HLs
        by_cases a96 : s[0] = 96
        · have e1 : ((s[0].toNat : Int) == 96) = true := eq8 (b := 96) a96
          have HR : Hid (X = (⟨#[32]⟩ : ByteArray) ++ s ++ (⟨#[32]⟩ : ByteArray)) := Lib.hid (HY.out (Or.inl (by rw [hd, a96])))
          clear hd ls a96 HY HNo
          go_wp2_with fail
          go_ret
          exact ⟨ret_str HR.out.symm, rfl⟩
        · have e1 : ((s[0].toNat : Int) == 96) = false := ne8 (b := 96) a96
          by_cases l96 : s[s.size - 1] = 96
          · have e2 : ((s[s.size - 1].toNat : Int) == 96) = true := eq8 (b := 96) l96
            have HR : Hid (X = (⟨#[32]⟩ : ByteArray) ++ s ++ (⟨#[32]⟩ : ByteArray)) := Lib.hid (HY.out (Or.inr (Or.inl (by rw [ls, l96]))))
            clear hd ls a96 l96 HY HNo
            go_wp2_with fail
            go_ret
            exact ⟨ret_str HR.out.symm, rfl⟩
          · have e2 : ((s[s.size - 1].toNat : Int) == 96) = false := ne8 (b := 96) l96
            have hno : (oy = false ∧ s[0] = 32 ∧ s[s.size - 1] = 32) ∨ ¬ (oy = false ∧ s[0] = 32 ∧ s[s.size - 1] = 32) := Classical.em _
            rcases hno with hy | hn
            · have HR : Hid (X = (⟨#[32]⟩ : ByteArray) ++ s ++ (⟨#[32]⟩ : ByteArray)) := Lib.hid (HY.out (Or.inr (Or.inr ⟨hy.1, by rw [hd, hy.2.1], by rw [ls, hy.2.2]⟩)))
              have e3 : ((s[0].toNat : Int) == 32) = true := eq8 (b := 32) hy.2.1
              have e4 : ((s[s.size - 1].toNat : Int) == 32) = true := eq8 (b := 32) hy.2.2
              obtain ⟨rfl, _, _⟩ := hy
              clear hd ls a96 l96 HY HNo
              rename_i q1 q2
              clear q1 q2
              go_wp2_with fail
              go_ret
              exact ⟨ret_str HR.out.symm, rfl⟩
            · have HR : Hid (X = s) := Lib.hid (HNo.out (by
                rintro (h | h | ⟨h1, h2, h3⟩)
                · rw [hd] at h; exact a96 (Option.some.inj h)
                · rw [ls] at h; exact l96 (Option.some.inj h)
                · rw [hd] at h2; rw [ls] at h3; exact hn ⟨h1, Option.some.inj h2, Option.some.inj h3⟩))
              clear HY HNo hd ls a96 l96
              cases oy with
              | true =>
                clear hn
                go_wp2_with fail
                go_ret
                exact ⟨ret_str HR.out.symm, rfl⟩
              | false =>
                by_cases h32 : s[0] = 32
                · have e3 : ((s[0].toNat : Int) == 32) = true := eq8 (b := 32) h32
                  have e4 : ((s[s.size - 1].toNat : Int) == 32) = false := ne8 (b := 32) (fun h => hn ⟨rfl, h32, h⟩)
                  clear hn h32
                  go_wp2_with fail
                  go_ret
                  exact ⟨ret_str HR.out.symm, rfl⟩
                · have e3 : ((s[0].toNat : Int) == 32) = false := ne8 (b := 32) h32
                  clear hn h32
                  go_wp2_with fail
                  go_ret
                  exact ⟨ret_str HR.out.symm, rfl⟩

end Go.Proofs.YtjgmfgnfdaeelaaDoor.Sp
