/-
  What the statements ask of a name: 'plain' answers something, and makes memory alone.
-/
import Derived.Test.YtipgofglidmffaaMkHelp
import Derived.Lib.SlBytesRow
namespace Go.Proofs.Ytipgofglidmffaa.Mk
open Go.RowKit Go.Proofs.Ytipgofglidmffaa.Tk
set_option linter.unusedVariables false

theorem own_len' {w : World} {B e z n : Nat} {v : Value} {xs : List Value} (h : w.ownsRow B e z v n xs) : ∃ ao cap, v = .slice ao n cap := by
  rcases h.2 with ⟨rfl, rfl⟩ | ⟨g, cap, _, rfl, _⟩
  · exact ⟨_, _, rfl⟩
  · exact ⟨_, _, rfl⟩
theorem one_byte (w : World) (c : UInt8) :
    (convert 62 9 (.slice (some ⟨w.heap.size, 0, none⟩) 1 1)).run Try.prog (w.alloc (.cells #[.int .u8 c.toNat] 5)) = .ok (.string (S [c])) (w.alloc (.cells #[.int .u8 c.toNat] 5)) := by
  refine Lib.run_convert_whole (P := Try.prog) _ 62 5 9 Try.underlying62 Try.underlying5 Try.underlying9 w.heap.size 0 (S [c]) ?_ 1
  intro i hi
  obtain rfl : i = 0 := by have : i < 1 := hi; omega
  rw [Nat.zero_add, World.cell?_alloc_new]
  rfl

set_option maxHeartbeats 1600000 in
set_option maxRecDepth 100000 in
theorem rsplit_some (s : ByteArray) (hs : s.size ≤ 2000000) (w : World) :
    Calls Try.prog 17 #[.string s] w fun e w' => ∃ ao cap n b, e = .returned (.tuple #[.slice ao n cap, .bool b]) ∧ n ≤ 2000001 ∧ Below w.heap.size w w' := by
  obtain ⟨i0, hi, hz0, hz1, hz2⟩ := info_parts infoS
  go_enter Try.func17, Try.ntmps17
  go_wp2_with fail
  go_loopw [4, 5, 6, 7] (fun v l op i wr => ∃ (k : Nat) (line : List UInt8) (o : List (List UInt8)), k ≤ s.size ∧ o.length ≤ k ∧ line.length ≤ k ∧ i = .int .i64 k ∧ l = .string (S line) ∧ op = .bool (!line.isEmpty) ∧ wr.ownsRow w.heap.size 9 1 v o.length (o.map encStr) ∧ Below w.heap.size w wr) (fun _ _ _ i _ => s.size - (intOf i).toNat)
  case atStart => exact ⟨0, [], [], Nat.zero_le _, Nat.le_refl _, Nat.le_refl _, rfl, rfl, rfl, World.ownsRow_nil _ _ _ _, Below.refl _ _⟩
  case round =>
    obtain ⟨k, line, o, hk, ho, hl, rfl, rfl, rfl, hown, hb⟩ := hrel
    have hB := hb.size
    have hsl : (S line).size ≤ 2000000 := by rw [S_size]; omega
    by_cases hlt : k < s.size
    · by_cases h13 : s[k] = 13
      · have e1 : ((s[k].toNat : Int) == 13) = true := eq8 h13
        have e2 : ((s[k].toNat : Int) == 10) = false := ne8 (b := 10) (by rw [h13]; decide)
        by_cases hk1 : k + 1 < s.size
        · have d1 : decide ((k : Int) + 1 < (s.size : Int)) = true := decide_eq_true (by omega)
          by_cases h10 : s[k + 1] = 10
          · have e3 : ((s[k + 1].toNat : Int) == 10) = true := eq8 h10
            clear h13 h10
            go_wp2_with (at_builtin; refine wpList_append_own _ rfl _ _ 24 rfl w.heap.size 9 i0 (.string ⟨#[]⟩) 1 16 Try.underlying24 hi hz0 hz1 hz2 rfl (by decide) _ _ _ rfl (hown.alloc _) ⟨wr.heap.size, 0, none⟩ 1 1 [.string (S line)] rfl rfl news1 news2 (by unfold maxLen; omega) (by omega) (by simp; omega) ?_)
            intro v' w1 hown' hgrow _
            have R := own_push hown hb hB hown' hgrow
            have R1 := Lib.hid R.1
            have R2 := Lib.hid R.2
            clear R hown' hgrow hown hb
            go_wp2_with fail
            go_roundw
            case rel => exact ⟨k + 2, [], _, by omega, by simp; omega, by simp, by go_num, rfl, rfl, R1.out, R2.out⟩
            case measure => simp [intOf]; omega
          · have e3 : ((s[k + 1].toNat : Int) == 10) = false := ne8 h10
            clear h13 h10
            go_wp2_with (at_builtin; refine wpList_append_own _ rfl _ _ 24 rfl w.heap.size 9 i0 (.string ⟨#[]⟩) 1 16 Try.underlying24 hi hz0 hz1 hz2 rfl (by decide) _ _ _ rfl (hown.alloc _) ⟨wr.heap.size, 0, none⟩ 1 1 [.string (S line)] rfl rfl news1 news2 (by unfold maxLen; omega) (by omega) (by simp; omega) ?_)
            intro v' w1 hown' hgrow _
            have R := own_push hown hb hB hown' hgrow
            have R1 := Lib.hid R.1
            have R2 := Lib.hid R.2
            clear R hown' hgrow hown hb
            go_wp2_with fail
            go_roundw
            case rel => exact ⟨k + 1, [], _, by omega, by simp; omega, by simp, by go_num, rfl, rfl, R1.out, R2.out⟩
            case measure => simp [intOf]; omega
        · have d1 : decide ((k : Int) + 1 < (s.size : Int)) = false := decide_eq_false (by omega)
          clear h13
          go_wp2_with (at_builtin; refine wpList_append_own _ rfl _ _ 24 rfl w.heap.size 9 i0 (.string ⟨#[]⟩) 1 16 Try.underlying24 hi hz0 hz1 hz2 rfl (by decide) _ _ _ rfl (hown.alloc _) ⟨wr.heap.size, 0, none⟩ 1 1 [.string (S line)] rfl rfl news1 news2 (by unfold maxLen; omega) (by omega) (by simp; omega) ?_)
          intro v' w1 hown' hgrow _
          have R := own_push hown hb hB hown' hgrow
          have R1 := Lib.hid R.1
          have R2 := Lib.hid R.2
          clear R hown' hgrow hown hb
          go_wp2_with fail
          go_roundw
          case rel => exact ⟨k + 1, [], _, by omega, by simp; omega, by simp, by go_num, rfl, rfl, R1.out, R2.out⟩
          case measure => simp [intOf]; omega
      · have e1 : ((s[k].toNat : Int) == 13) = false := ne8 h13
        by_cases h10 : s[k] = 10
        · have e2 : ((s[k].toNat : Int) == 10) = true := eq8 h10
          clear h13 h10
          go_wp2_with (at_builtin; refine wpList_append_own _ rfl _ _ 24 rfl w.heap.size 9 i0 (.string ⟨#[]⟩) 1 16 Try.underlying24 hi hz0 hz1 hz2 rfl (by decide) _ _ _ rfl (hown.alloc _) ⟨wr.heap.size, 0, none⟩ 1 1 [.string (S line)] rfl rfl news1 news2 (by unfold maxLen; omega) (by omega) (by simp; omega) ?_)
          intro v' w1 hown' hgrow _
          have R := own_push hown hb hB hown' hgrow
          have R1 := Lib.hid R.1
          have R2 := Lib.hid R.2
          clear R hown' hgrow hown hb
          go_wp2_with fail
          go_roundw
          case rel => exact ⟨k + 1, [], _, by omega, by simp; omega, by simp, by go_num, rfl, rfl, R1.out, R2.out⟩
          case measure => simp [intOf]; omega
        · have e2 : ((s[k].toNat : Int) == 10) = false := ne8 h10
          have hob := fun w => one_byte w s[k]
          have Hb := Lib.hid (hb.alloc hB (.cells #[.int .u8 (s[k].toNat : Int)] 5))
          have Ho := Lib.hid (hown.alloc (.cells #[.int .u8 (s[k].toNat : Int)] 5))
          have Hap := Lib.hid (S_app line [s[k]])
          have hs1 : (S [s[k]]).size ≤ 1 := by rw [S_size]; exact Nat.le_refl _
          clear h13 h10 hb hown
          go_wp2_with fail
          go_roundw
          case rel => exact ⟨k + 1, line ++ [s[k]], o, by omega, by omega, by simp; omega, by go_num, by rw [Hap.out], by simp, Ho.out, Hb.out⟩
          case measure => simp [intOf]; omega
    · by_cases he : line = []
      · rw [show (!line.isEmpty) = false by rw [he]; rfl]
        have Hb := Lib.hid hb
        obtain ⟨ao, cap, rfl⟩ := own_len' hown
        clear hb hown he
        go_wp2_with fail
        go_ret2
        exact ⟨_, _, _, _, rfl, by omega, Hb.out⟩
      · rw [show (!line.isEmpty) = true by simpa using he]
        clear he
        go_wp2_with (at_builtin; refine wpList_append_own _ rfl _ _ 24 rfl w.heap.size 9 i0 (.string ⟨#[]⟩) 1 16 Try.underlying24 hi hz0 hz1 hz2 rfl (by decide) _ _ _ rfl (hown.alloc _) ⟨wr.heap.size, 0, none⟩ 1 1 [.string (S line)] rfl rfl news1 news2 (by unfold maxLen; omega) (by omega) (by simp; omega) ?_)
        intro v' w1 hown' hgrow _
        have R := own_push hown hb hB hown' hgrow
        have R2 := Lib.hid R.2
        obtain ⟨ao, cap, rfl⟩ := own_len' hown'
        clear R hown' hgrow hown hb
        go_wp2_with fail
        go_ret2
        exact ⟨_, _, _, _, rfl, by omega, R2.out⟩

theorem plain_any (s : ByteArray) (hs : s.size ≤ 2000000) (w : World) :
    Calls Try.prog 10 #[.string s] w fun e w' => ∃ b, e = .returned (.bool b) ∧ Below w.heap.size w w' := by
  have HS := Lib.hid (rsplit_some s hs w)
  go_enter Try.func10, Try.ntmps10
  go_wp2_with fail
  refine HS.out.mono ?_
  rintro e w1 ⟨ao, cap, n, b, rfl, hn, hb⟩
  have HB := Lib.hid hb
  clear hb HS
  cases h1 : (s.toList == ([] : List UInt8)) with
  | true =>
    go_wp2_with fail
    go_ret
    exact ⟨_, rfl, HB.out⟩
  | false =>
    cases h2 : ((n : Int) == 1) with
    | true =>
      go_wp2_with fail
      go_ret
      exact ⟨_, rfl, HB.out⟩
    | false =>
      go_wp2_with fail
      go_ret
      exact ⟨_, rfl, HB.out⟩

end Go.Proofs.Ytipgofglidmffaa.Mk
