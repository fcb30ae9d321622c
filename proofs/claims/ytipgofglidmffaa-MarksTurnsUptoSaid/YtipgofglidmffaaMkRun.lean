/-
  CONTRACTS of lines.Run, and of what marks asks of a line: headOf, held, markerOf.
-/
import Derived.Test.YtipgofglidmffaaMkPlain
import Derived.Test.YtipgofglidmffaaTkBase
import Derived.Test.YtipgofglidmffaaShelfM
namespace Go.Proofs.Ytipgofglidmffaa.Mk
open Go.RowKit Go.Proofs.Ytipgofglidmffaa.Tk
open Go.Proofs.Ytipgofglidmffaa.Ln (run run_yes run_no run_le)
set_option linter.unusedVariables false

theorem run_any (s : ByteArray) (hs : s.size ≤ 9223372036854775806) (c : UInt8) (w : World) :
    Calls Try.prog 16 #[.string s, .int .u8 c.toNat] w fun e w' => e = .returned (.int .i64 (run c s.data.toList)) ∧ w = w' := by
  have H0 := Lib.hid (show run c s.data.toList = 0 + run c (s.data.toList.drop 0) by simp)
  go_enter Try.func16, Try.ntmps16
  go_wp2_with fail
  go_loop [8] (fun i => ∃ k : Nat, k ≤ s.size ∧ i = .int .i64 k ∧ run c s.data.toList = k + run c (s.data.toList.drop k)) (fun i => s.size - (intOf i).toNat)
  case atStart => exact ⟨0, Nat.zero_le _, rfl, H0.out⟩
  case round =>
    clear H0
    obtain ⟨k, hk, rfl, hr⟩ := hrel
    by_cases hlt : k < s.size
    · rw [at_data s k hlt] at hr
      by_cases hc : s[k] = c
      · rw [run_yes hc] at hr
        have e1 := eq8 hc
        have Hr := Lib.hid hr
        clear hr hc
        go_wp2_with fail
        go_round
        case rel => exact ⟨k + 1, by omega, by go_num, by rw [Hr.out]; omega⟩
        case measure => simp [intOf]; omega
      · rw [run_no hc] at hr
        have e1 := ne8 hc
        have Hr := Lib.hid hr
        clear hr hc
        go_wp2_with fail
        go_ret
        exact ⟨ret_int (by rw [Hr.out]; omega), rfl⟩
    · rw [drop_all s k hlt] at hr
      have Hr := Lib.hid (show run c s.data.toList = s.size by rw [hr]; show k + 0 = _; omega)
      clear hr
      go_wp2_with fail
      go_ret
      exact ⟨ret_int (by rw [Hr.out]), rfl⟩

/-- The place in the heads of the byte that a line begins with. -/
def hd (s : Tx) : Int := match s with
  | [] => -1
  | c :: _ => if c = 60 then 0 else if c = 124 then 1 else if c = 61 then 2 else if c = 62 then 3 else -1
theorem index_heads (c : UInt8) : Lib.indexByte [60, 124, 61, 62] c = (if c = 60 then 0 else if c = 124 then 1 else if c = 61 then 2 else if c = 62 then 3 else -1) := by
  unfold Lib.indexByte Lib.indexByte Lib.indexByte Lib.indexByte Lib.indexByte
  by_cases h1 : c = 60
  · subst h1; rfl
  · by_cases h2 : c = 124
    · subst h2; rfl
    · by_cases h3 : c = 61
      · subst h3; rfl
      · by_cases h4 : c = 62
        · subst h4; rfl
        · have g1 : ((60 : UInt8) == c) = false := by rw [beq_eq_false_iff_ne]; exact fun e => h1 e.symm
          have g2 : ((124 : UInt8) == c) = false := by rw [beq_eq_false_iff_ne]; exact fun e => h2 e.symm
          have g3 : ((61 : UInt8) == c) = false := by rw [beq_eq_false_iff_ne]; exact fun e => h3 e.symm
          have g4 : ((62 : UInt8) == c) = false := by rw [beq_eq_false_iff_ne]; exact fun e => h4 e.symm
          rw [g1, g2, g3, g4, if_neg h1, if_neg h2, if_neg h3, if_neg h4]
          rfl
theorem u8_back (c : UInt8) : ((c.toNat : Int)).toNat.toUInt8 = c := by simp

theorem headOf_any (s : ByteArray) (w : World) :
    Calls Try.prog 15 #[.string s] w fun e w' => e = .returned (.int .i64 (hd s.data.toList)) ∧ w = w' := by
  by_cases h0 : s.size = 0
  · have hs : s = ⟨#[]⟩ := by
      apply ByteArray.ext
      exact Array.eq_empty_of_size_eq_zero h0
    subst hs
    go_enter Try.func15, Try.ntmps15
    go_wp2_with fail
    go_ret
    exact ⟨rfl, rfl⟩
  · have hp : 0 < s.size := by omega
    have hne : (s.toList == ([] : List UInt8)) = false := by
      rw [beq_eq_false_iff_ne, Lib.toList_data]
      intro e
      apply h0
      rw [← len_data, e]
      rfl
    have hd0 : hd s.data.toList = Lib.indexByte [60, 124, 61, 62] s[0] := by
      have := at_data s 0 hp
      rw [List.drop_zero] at this
      rw [this, index_heads]
      rfl
    have HI := Lib.hid (Try.strings_IndexByte ⟨#[60, 124, 61, 62]⟩ (s[0].toNat : Int) w)
    rw [u8_back] at HI
    have HE := Lib.hid hd0
    clear h0 hd0
    go_enter Try.func15, Try.ntmps15
    go_wp2_with fail
    refine HI.out.mono ?_
    rintro e w1 ⟨rfl, rfl⟩
    clear HI
    go_wp2_with fail
    go_ret
    exact ⟨ret_int (by rw [HE.out]), rfl⟩

theorem held_any (n : Int) (w : World) :
    Calls Try.prog 20 #[.int .i64 n] w fun e w' => e = .returned (.int .i64 (hold n)) ∧ w = w' := by
  go_enter Try.func20, Try.ntmps20
  go_wp2_with fail
  go_ret
  exact ⟨ret_int (by unfold hold; omega), rfl⟩

end Go.Proofs.Ytipgofglidmffaa.Mk
