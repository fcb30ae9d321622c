/-
  CONTRACT of utf.Fold.
-/
import Derived.Test.YtlnagfpkhojcmaaUtfFoldPlain
import Derived.Test.YtlnagfpkhojcmaaStrBuilder
import Derived.Test.YtlnagfpkhojcmaaShelf
namespace Go.Proofs.Ytlnagfpkhojcmaa.Utf
open Go.RowKit
set_option linter.unusedVariables false

theorem cells_len (l : List UInt8) : (Lib.byteCells l).length = l.length := by simp [Lib.byteCells]
theorem cells_snoc (l : List UInt8) (b : UInt8) : Lib.byteCells l ++ [Value.int .u8 b.toNat] = Lib.byteCells (l ++ [b]) := by simp [Lib.byteCells]
theorem cells_snoc32 (l : List UInt8) : Lib.byteCells l ++ [Value.int .u8 32] = Lib.byteCells (l ++ [32]) := by simp [Lib.byteCells]

set_option maxHeartbeats 400000 in
theorem fold_any (t : ByteArray) (hs : t.size ≤ 20000) (w : World) :
    Calls Try.prog 15 #[.string t] w fun e w' => e = .returned (.string ⟨(fold t.data.toList).toArray⟩) ∧ Below w.heap.size w w' := by
  have hI : Lib.IsBuilder 45 5 w.heap.size w.heap.size (Lib.byteCells (st (t.data.toList.take 0)).2) (w.alloc (.cells #[.pointer none, .slice none 0 0] 45)) := Lib.fresh_isBuilder _ _ w
  go_enter Try.func15, Try.ntmps15
  go_wp2_with fail
  go_loopw [4, 5] (fun g i wr => ∃ k : Nat, k ≤ t.size ∧ i = .int .i64 k ∧ g = .bool (st (t.data.toList.take k)).1 ∧ Lib.IsBuilder 45 5 w.heap.size w.heap.size (Lib.byteCells (st (t.data.toList.take k)).2) wr ∧ Below w.heap.size w wr) (fun _ i _ => t.size - (intOf i).toNat)
  case atStart => exact ⟨0, Nat.zero_le _, rfl, rfl, hI, (Below.refl _ _).alloc (Nat.le_refl _) _⟩
  case round =>
    clear hI
    obtain ⟨k, hk, rfl, rfl, hI, hb⟩ := hrel
    by_cases hlt : k < t.size
    · have hsn := st_snoc (t.data.toList.take k) t[k]
      rw [← take_snoc t k hlt] at hsn
      have hlen := st_len (t.data.toList.take k)
      have hlt2 : (t.data.toList.take k).length ≤ k := List.length_take_le _ _
      have hbt := t[k].toNat_lt
      generalize st (t.data.toList.take k) = s0 at *
      obtain ⟨g, out⟩ := s0
      simp only at hlen hI
      have hlen' : out.length ≤ 40000 := by omega
      clear hlen hlt2
      by_cases hg : gapB t[k] = true
      · have Hst : Hid (st (t.data.toList.take (k + 1)) = (true, out)) := Lib.hid (by rw [hsn]; unfold step; rw [if_pos hg])
        have Hg := Lib.hid hg
        have HI := Lib.hid hI
        have Hb := Lib.hid hb
        clear hsn hg hI hb
        go_wp2_with (go_at_call 24; refine (blank_any t[k] _).mono ?_; rintro e w' ⟨rfl, rfl⟩; rw [Hg.out])
        go_roundw
        case rel => exact ⟨k + 1, by omega, by go_num, by rw [Hst.out], by rw [Hst.out]; exact HI.out, Hb.out⟩
        case measure => simp [intOf]; omega
      · have hg' : gapB t[k] = false := by simpa using hg
        have Hst : Hid (st (t.data.toList.take (k + 1)) = (false, (if g && !out.isEmpty then out ++ [32] else out) ++ [lowB t[k]])) := Lib.hid (by rw [hsn]; unfold step; rw [if_neg hg])
        have Hg := Lib.hid hg'
        clear hsn hg hg'
        have hlow := (lowB t[k]).toNat_lt
        cases g with
        | false =>
          go_wp2_with fail
          refine (blank_any t[k] _).mono ?_
          rintro e w' ⟨rfl, rfl⟩
          rw [Hg.out]
          go_wp2_with fail
          refine (lower_any t[k] _).mono ?_
          rintro e w' ⟨rfl, rfl⟩
          go_wp2_with fail
          refine (Sb.write_any _ _ _ _ _ hI (by rw [cells_len]; first | omega | (simp only [List.length_append, List.length_cons, List.length_nil]; omega)) hb.size).mono ?_
          rintro e w9 ⟨rfl, hI9, hb9⟩
          rw [cells_snoc] at hI9
          have HI := Lib.hid hI9
          have Hb := Lib.hid (hb.trans hb9)
          clear hI9 hb9 hI hb
          go_wp2_with fail
          go_roundw
          case rel => exact ⟨k + 1, by omega, by go_num, by rw [Hst.out], by rw [Hst.out]; exact HI.out, Hb.out⟩
          case measure => simp [intOf]; omega
        | true =>
          by_cases ho : out = []
          · subst ho
            go_wp2_with fail
            refine (blank_any t[k] _).mono ?_
            rintro e w' ⟨rfl, rfl⟩
            rw [Hg.out]
            go_wp2_with fail
            refine (Try.Builder_Len _ _ _ _ hI).mono ?_
            rintro e w' ⟨rfl, hw⟩
            subst hw
            go_wp2_with fail
            refine (lower_any t[k] _).mono ?_
            rintro e w' ⟨rfl, rfl⟩
            go_wp2_with fail
            refine (Sb.write_any _ _ _ _ _ hI (by rw [cells_len]; first | omega | (simp only [List.length_append, List.length_cons, List.length_nil]; omega)) hb.size).mono ?_
            rintro e w9 ⟨rfl, hI9, hb9⟩
            rw [cells_snoc] at hI9
            have HI := Lib.hid hI9
            have Hb := Lib.hid (hb.trans hb9)
            clear hI9 hb9 hI hb
            go_wp2_with fail
            go_roundw
            case rel => exact ⟨k + 1, by omega, by go_num, by rw [Hst.out], by rw [Hst.out]; exact HI.out, Hb.out⟩
            case measure => simp [intOf]; omega
          · have hpos : 0 < out.length := List.length_pos_iff.2 ho
            have hie : out.isEmpty = false := by cases out with | nil => exact absurd rfl ho | cons _ _ => rfl
            have Hst2 : Hid (st (t.data.toList.take (k + 1)) = (false, (out ++ [32]) ++ [lowB t[k]])) := Lib.hid (by rw [Hst.out, hie]; rfl)
            clear Hst ho hie
            have Hst := Hst2
            clear Hst2
            go_wp2_with fail
            refine (blank_any t[k] _).mono ?_
            rintro e w' ⟨rfl, rfl⟩
            rw [Hg.out]
            go_wp2_with fail
            refine (Try.Builder_Len _ _ _ _ hI).mono ?_
            rintro e w' ⟨rfl, hw⟩
            subst hw
            rw [show (Lib.byteCells out).length = out.length by simp [Lib.byteCells]]
            have e0 : decide (0 < (out.length : Int)) = true := by simp; omega
            go_wp2_with fail
            refine (Sb.write_any _ _ _ _ _ hI (by rw [cells_len]; first | omega | (simp only [List.length_append, List.length_cons, List.length_nil]; omega)) hb.size).mono ?_
            rintro e w8 ⟨rfl, hI8, hb8⟩
            rw [cells_snoc32] at hI8
            have hb8' := hb.trans hb8
            clear hI hb hb8
            go_wp2_with fail
            refine (lower_any t[k] _).mono ?_
            rintro e w' ⟨rfl, rfl⟩
            go_wp2_with fail
            refine (Sb.write_any _ _ _ _ _ hI8 (by rw [cells_len]; first | omega | (simp only [List.length_append, List.length_cons, List.length_nil]; omega)) hb8'.size).mono ?_
            rintro e w9 ⟨rfl, hI9, hb9⟩
            rw [cells_snoc] at hI9
            have HI := Lib.hid hI9
            have Hb := Lib.hid (hb8'.trans hb9)
            clear hI9 hb9 hI8 hb8'
            go_wp2_with fail
            go_roundw
            case rel => exact ⟨k + 1, by omega, by go_num, by rw [Hst.out], by rw [Hst.out]; exact HI.out, Hb.out⟩
            case measure => simp [intOf]; omega
    · obtain rfl : k = t.size := by omega
      have Hall : Hid (st (t.data.toList.take t.size) = st t.data.toList) := Lib.hid (by rw [List.take_of_length_le (by simp)])
      rw [Hall.out] at hI
      go_wp2_with fail
      refine (Try.Builder_String_any _ _ _ _ hI hb.size).mono ?_
      rintro e w9 ⟨rfl, hb9⟩
      have Hb := Lib.hid (hb.trans hb9)
      clear hI hb hb9
      go_wp2_with fail
      go_ret
      exact ⟨rfl, Hb.out⟩
end Go.Proofs.Ytlnagfpkhojcmaa.Utf
