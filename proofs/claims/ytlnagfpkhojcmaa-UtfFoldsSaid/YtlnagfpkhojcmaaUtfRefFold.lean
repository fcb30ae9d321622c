/-
  CONTRACT of the document's Fold (emendationref01).
-/
import Derived.Test.YtlnagfpkhojcmaaUtfFoldPlain
import Derived.Laws.IdiomStrings
import Derived.Lib.SlBytesRow
import Derived.Lib.Strings
namespace Go.Proofs.Ytlnagfpkhojcmaa.Utf
open Go.RowKit
set_option linter.unusedVariables false

/-- What is written, as a string. -/
def S (l : List UInt8) : ByteArray := ⟨l.toArray⟩
theorem S_size (l : List UInt8) : (S l).size = l.length := by simp [S, ByteArray.size]
theorem S_app (l m : List UInt8) : S l ++ S m = S (l ++ m) := by
  apply ByteArray.ext
  rw [ByteArray.data_append]
  simp [S]
theorem S_list (l : List UInt8) : (S l).data.toList = l := by simp [S]
theorem S_toList (l : List UInt8) : (S l).toList = l := by rw [Lib.toList_data, S_list]
theorem S_end (out : List UInt8) (b : UInt8) : S out ++ S [b] = S (out ++ [b]) := S_app _ _
theorem S_end2 (out : List UInt8) (b : UInt8) : S out ++ ⟨#[32]⟩ ++ S [b] = S (out ++ [32] ++ [b]) := by
  rw [← S_app, ← S_app]; rfl
theorem one_byte (w : World) (c : Int) (h0 : 0 ≤ c) (h1 : c < 256) :
    (convert 25 9 (.slice (some ⟨w.heap.size, 0, none⟩) 1 1)).run Try.prog (w.alloc (.cells #[.int .u8 c] 5)) = .ok (.string (S [UInt8.ofNat c.toNat])) (w.alloc (.cells #[.int .u8 c] 5)) := by
  refine Lib.run_convert_whole (P := Try.prog) _ 25 5 9 Try.underlying25 Try.underlying5 Try.underlying9 w.heap.size 0 (S [UInt8.ofNat c.toNat]) ?_ 1
  intro i hi
  obtain rfl : i = 0 := by have : i < 1 := hi; omega
  rw [Nat.zero_add, World.cell?_alloc_new]
  show some (Value.int .u8 c) = some (Value.int .u8 ((UInt8.ofNat c.toNat).toNat : Int))
  rw [UInt8.toNat_ofNat']
  congr 2
  omega

set_option maxHeartbeats 400000 in
theorem rfold_any (t : ByteArray) (hs : t.size ≤ 20000) (w : World) :
    Calls Try.prog 19 #[.string t] w fun e w' => e = .returned (.string (S (fold t.data.toList))) ∧ Below w.heap.size w w' := by
  go_enter Try.func19, Try.ntmps19
  go_wp2_with fail
  go_loopw [3, 4, 5] (fun o g i wr => ∃ k : Nat, k ≤ t.size ∧ i = .int .i64 k ∧ g = .bool ((st (t.data.toList.take k)).1 && !(st (t.data.toList.take k)).2.isEmpty) ∧ o = .string (S (st (t.data.toList.take k)).2) ∧ Below w.heap.size w wr) (fun _ _ i _ => t.size - (intOf i).toNat)
  case atStart => exact ⟨0, Nat.zero_le _, rfl, rfl, rfl, Below.refl _ _⟩
  case round =>
    obtain ⟨k, hk, rfl, rfl, rfl, hb⟩ := hrel
    by_cases hlt : k < t.size
    · have hsn := st_snoc (t.data.toList.take k) t[k]
      rw [← take_snoc t k hlt] at hsn
      have hlen := st_len (t.data.toList.take k)
      have hlt2 : (t.data.toList.take k).length ≤ k := List.length_take_le _ _
      have hbt := t[k].toNat_lt
      generalize st (t.data.toList.take k) = s0 at *
      obtain ⟨g, out⟩ := s0
      simp only at hlen
      have hlen' : out.length ≤ 40000 := by omega
      clear hlen hlt2
      have hsz : (S out).size ≤ 40000 := by rw [S_size]; exact hlen'
      by_cases hg : gapB t[k] = true
      · have Hst : Hid (st (t.data.toList.take (k + 1)) = (true, out)) := Lib.hid (by rw [hsn]; unfold step; rw [if_pos hg])
        have Hg := Lib.hid hg
        have Hb := Lib.hid hb
        clear hsn hg hb
        go_wp2_with (go_at_call 29; refine (rgap_any t[k] _).mono ?_; rintro e w' ⟨rfl, rfl⟩; rw [Hg.out])
        go_roundw
        case rel => exact ⟨k + 1, by omega, by go_num, by rw [Hst.out, S_toList]; rfl, by rw [Hst.out], Hb.out⟩
        case measure => simp [intOf]; omega
      · have hg' : gapB t[k] = false := by simpa using hg
        have Hst : Hid (st (t.data.toList.take (k + 1)) = (false, (if g && !out.isEmpty then out ++ [32] else out) ++ [lowB t[k]])) := Lib.hid (by rw [hsn]; unfold step; rw [if_neg hg])
        have Hg := Lib.hid hg'
        clear hsn hg hg'
        have hlw := lowB_nat t[k]
        have hs1 : (S [lowB t[k]]).size ≤ 1 := by rw [S_size]; exact Nat.le_refl _
        cases hx : (g && !out.isEmpty) with
        | true =>
          rw [hx] at Hst
          replace Hst : Hid (st (t.data.toList.take (k + 1)) = (false, out ++ [32] ++ [lowB t[k]])) := Lib.hid (by rw [Hst.out]; rfl)
          have Hx := Lib.hid hx
          by_cases hu : 65 ≤ t[k].toNat ∧ t[k].toNat ≤ 90
          · rw [if_pos hu] at hlw
            obtain ⟨u1, u2⟩ := hu
            have hob : ∀ w : World, (convert 25 9 (.slice (some ⟨w.heap.size, 0, none⟩) 1 1)).run Try.prog (w.alloc (.cells #[.int .u8 ((t[k].toNat : Int) + 32)] 5)) = .ok (.string (S [lowB t[k]])) (w.alloc (.cells #[.int .u8 ((t[k].toNat : Int) + 32)] 5)) := fun w => by
              rw [one_byte w _ (by omega) (by omega), show UInt8.ofNat ((t[k].toNat : Int) + 32).toNat = lowB t[k] from UInt8.toNat_inj.1 (by rw [hlw, UInt8.toNat_ofNat']; omega)]
            have Hb := Lib.hid ((hb.alloc hb.size (.cells #[.int .u8 ((t[k].toNat : Int) + 32)] 5)))
            clear hlw hb
            go_wp2_with (go_at_call 29; refine (rgap_any t[k] _).mono ?_; rintro e w' ⟨rfl, rfl⟩; rw [Hg.out])
            go_roundw
            case rel => exact ⟨k + 1, by omega, by go_num, by rw [Hst.out]; rfl, by rw [Hst.out, S_end2], Hb.out⟩
            case measure => simp [intOf]; omega
          · rw [if_neg hu] at hlw
            have hob : ∀ w : World, (convert 25 9 (.slice (some ⟨w.heap.size, 0, none⟩) 1 1)).run Try.prog (w.alloc (.cells #[.int .u8 ((t[k].toNat : Int))] 5)) = .ok (.string (S [lowB t[k]])) (w.alloc (.cells #[.int .u8 ((t[k].toNat : Int))] 5)) := fun w => by
              rw [one_byte w _ (by omega) (by omega), show UInt8.ofNat ((t[k].toNat : Int)).toNat = lowB t[k] from UInt8.toNat_inj.1 (by rw [hlw, UInt8.toNat_ofNat']; omega)]
            have Hb := Lib.hid ((hb.alloc hb.size (.cells #[.int .u8 ((t[k].toNat : Int))] 5)))
            clear hlw hb
            have hu' : t[k].toNat < 65 ∨ 90 < t[k].toNat := by omega
            clear hu
            rcases hu' with u1 | u1
            · go_wp2_with (go_at_call 29; refine (rgap_any t[k] _).mono ?_; rintro e w' ⟨rfl, rfl⟩; rw [Hg.out])
              go_roundw
              case rel => exact ⟨k + 1, by omega, by go_num, by rw [Hst.out]; rfl, by rw [Hst.out, S_end2], Hb.out⟩
              case measure => simp [intOf]; omega
            · go_wp2_with (go_at_call 29; refine (rgap_any t[k] _).mono ?_; rintro e w' ⟨rfl, rfl⟩; rw [Hg.out])
              go_roundw
              case rel => exact ⟨k + 1, by omega, by go_num, by rw [Hst.out]; rfl, by rw [Hst.out, S_end2], Hb.out⟩
              case measure => simp [intOf]; omega
        | false =>
          rw [hx] at Hst
          replace Hst : Hid (st (t.data.toList.take (k + 1)) = (false, out ++ [lowB t[k]])) := Lib.hid (by rw [Hst.out]; rfl)
          have Hx := Lib.hid hx
          by_cases hu : 65 ≤ t[k].toNat ∧ t[k].toNat ≤ 90
          · rw [if_pos hu] at hlw
            obtain ⟨u1, u2⟩ := hu
            have hob : ∀ w : World, (convert 25 9 (.slice (some ⟨w.heap.size, 0, none⟩) 1 1)).run Try.prog (w.alloc (.cells #[.int .u8 ((t[k].toNat : Int) + 32)] 5)) = .ok (.string (S [lowB t[k]])) (w.alloc (.cells #[.int .u8 ((t[k].toNat : Int) + 32)] 5)) := fun w => by
              rw [one_byte w _ (by omega) (by omega), show UInt8.ofNat ((t[k].toNat : Int) + 32).toNat = lowB t[k] from UInt8.toNat_inj.1 (by rw [hlw, UInt8.toNat_ofNat']; omega)]
            have Hb := Lib.hid ((hb.alloc hb.size (.cells #[.int .u8 ((t[k].toNat : Int) + 32)] 5)))
            clear hlw hb
            go_wp2_with (go_at_call 29; refine (rgap_any t[k] _).mono ?_; rintro e w' ⟨rfl, rfl⟩; rw [Hg.out])
            go_roundw
            case rel => exact ⟨k + 1, by omega, by go_num, by rw [Hst.out]; rfl, by rw [Hst.out, S_end], Hb.out⟩
            case measure => simp [intOf]; omega
          · rw [if_neg hu] at hlw
            have hob : ∀ w : World, (convert 25 9 (.slice (some ⟨w.heap.size, 0, none⟩) 1 1)).run Try.prog (w.alloc (.cells #[.int .u8 ((t[k].toNat : Int))] 5)) = .ok (.string (S [lowB t[k]])) (w.alloc (.cells #[.int .u8 ((t[k].toNat : Int))] 5)) := fun w => by
              rw [one_byte w _ (by omega) (by omega), show UInt8.ofNat ((t[k].toNat : Int)).toNat = lowB t[k] from UInt8.toNat_inj.1 (by rw [hlw, UInt8.toNat_ofNat']; omega)]
            have Hb := Lib.hid ((hb.alloc hb.size (.cells #[.int .u8 ((t[k].toNat : Int))] 5)))
            clear hlw hb
            have hu' : t[k].toNat < 65 ∨ 90 < t[k].toNat := by omega
            clear hu
            rcases hu' with u1 | u1
            · go_wp2_with (go_at_call 29; refine (rgap_any t[k] _).mono ?_; rintro e w' ⟨rfl, rfl⟩; rw [Hg.out])
              go_roundw
              case rel => exact ⟨k + 1, by omega, by go_num, by rw [Hst.out]; rfl, by rw [Hst.out, S_end], Hb.out⟩
              case measure => simp [intOf]; omega
            · go_wp2_with (go_at_call 29; refine (rgap_any t[k] _).mono ?_; rintro e w' ⟨rfl, rfl⟩; rw [Hg.out])
              go_roundw
              case rel => exact ⟨k + 1, by omega, by go_num, by rw [Hst.out]; rfl, by rw [Hst.out, S_end], Hb.out⟩
              case measure => simp [intOf]; omega
    · obtain rfl : k = t.size := by omega
      have Hall : Hid (st (t.data.toList.take t.size) = st t.data.toList) := Lib.hid (by rw [List.take_of_length_le (by simp)])
      have Hb := Lib.hid hb
      clear hb
      rw [Hall.out]
      go_wp2_with fail
      go_ret
      exact ⟨rfl, Hb.out⟩
end Go.Proofs.Ytlnagfpkhojcmaa.Utf
