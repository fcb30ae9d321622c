/-
  PLAIN: CR and LF in a text, by strings.IndexAny; characters of more than a byte.
-/
import Derived.Test.YtpenjdnbnacebaaDoorPkB
import Derived.Lib.OthersKept
import Derived.Lib.DecodeN
import Derived.Laws.RangeAny
import Derived.Lib.IndexAny
namespace Go.Proofs.YtpenjdnbnacebaaDoor.Sp
open Go.RowKit
open Go.Proofs.YtpenjdnbnacebaaDoor.Tk (S S_of S_list S_size S_toList S_app ret_int eq8 ne8 at_data len_data)
open Go.Proofs.YtpenjdnbnacebaaDoor.Cm (calls_at)
set_option linter.unusedVariables false

def crL : List UInt8 := [13, 10]
theorem has_mem (c : UInt8) (s : List UInt8) : hsB c s = true ↔ c ∈ s := by
  unfold hsB
  rw [List.any_eq_true]
  constructor
  · rintro ⟨x, hx, he⟩; rw [← of_decide_eq_true he]; exact hx
  · intro h; exact ⟨c, h, decide_eq_true rfl⟩
theorem any_mem (chars : List UInt8) : ∀ s : List UInt8, Lib.containsAny s chars = true ↔ ∃ b ∈ s, chars.contains b = true
  | [] => by unfold Lib.containsAny Lib.indexAny; simp
  | b :: l => by
    have ih := any_mem chars l
    unfold Lib.containsAny at ih ⊢
    rw [decide_eq_true_iff] at ih ⊢
    rw [Lib.indexAny]
    have hge := Lib.indexAny_ge chars l
    cases hc : chars.contains b with
    | true =>
      rw [if_pos rfl]
      exact ⟨fun _ => ⟨b, List.mem_cons_self .., hc⟩, fun _ => Int.le_refl 0⟩
    | false =>
      rw [if_neg (by simp)]
      constructor
      · intro h
        by_cases hm : Lib.indexAny l chars = -1
        · rw [hm] at h; simp at h
        · obtain ⟨x, hx, hxc⟩ := ih.1 (by omega)
          exact ⟨x, List.mem_cons_of_mem _ hx, hxc⟩
      · rintro ⟨x, hx, hxc⟩
        rcases List.mem_cons.1 hx with rfl | hx
        · rw [hxc] at hc; cases hc
        · have := ih.2 ⟨x, hx, hxc⟩
          rw [if_neg (by simp; omega)]
          omega
theorem cr_any (s : List UInt8) : Lib.containsAny s crL = (hsB 10 s || hsB 13 s) := by
  rw [Bool.eq_iff_iff, any_mem, Bool.or_eq_true, has_mem, has_mem]
  constructor
  · rintro ⟨b, hb, hc⟩
    have : b = 13 ∨ b = 10 := by simpa [crL] using hc
    rcases this with rfl | rfl
    · exact Or.inr hb
    · exact Or.inl hb
  · rintro (h | h)
    · exact ⟨10, h, by decide⟩
    · exact ⟨13, h, by decide⟩

/-! A character of more than a byte. -/
theorem decN_wide (n b0 b1 b2 b3 : Nat) (hn : 1 ≤ n) (h0 : 128 ≤ b0) : 1 ≤ (Lib.decodeN n b0 b1 b2 b3).2 ∧ (Lib.decodeN n b0 b1 b2 b3).2 ≤ n ∧ (2 ≤ (Lib.decodeN n b0 b1 b2 b3).2 → 128 ≤ b1) ∧ (3 ≤ (Lib.decodeN n b0 b1 b2 b3).2 → 128 ≤ b2) ∧ (4 ≤ (Lib.decodeN n b0 b1 b2 b3).2 → 128 ≤ b3) ∧ (Lib.decodeN n b0 b1 b2 b3).2 ≤ 4 := by
  unfold Lib.decodeN
  repeat' split
  all_goals simp only []
  all_goals omega
theorem get_nat (s : ByteArray) (j : Nat) (h : j < s.size) : s.get! j = s[j] := by
  simp [ByteArray.get!, getElem!_pos, h]
  rfl
theorem wide_no {s : ByteArray} {pos : Nat} (hp : pos < s.size) (ha : 128 ≤ s[pos].toNat) (hno : Lib.NoAny s.data.toList crL pos) :
    pos + (Utf8.decode s pos).2 ≤ s.size ∧ 1 ≤ (Utf8.decode s pos).2 ∧ Lib.NoAny s.data.toList crL (pos + (Utf8.decode s pos).2) := by
  have hd := decN_wide (s.size - pos) (s.get! pos).toNat (s.get! (pos + 1)).toNat (s.get! (pos + 2)).toNat (s.get! (pos + 3)).toNat (by omega) (by rw [get_nat s pos hp]; exact ha)
  rw [← Lib.decode_at] at hd
  generalize (Utf8.decode s pos).2 = n at *
  obtain ⟨h1, h2, h3, h4, h5, h6⟩ := hd
  refine ⟨by omega, h1, fun j b hj hb => ?_⟩
  by_cases hlt : j < pos
  · exact hno j b hlt hb
  · have hjs : j < s.size := by omega
    have hbj : s[j] = b := by
      rw [Lib.data_getElem? s j hjs] at hb
      exact Option.some.inj hb
    have h128 : 128 ≤ s[j].toNat := by
      rcases (show j = pos ∨ j = pos + 1 ∨ j = pos + 2 ∨ j = pos + 3 by omega) with rfl | rfl | rfl | rfl
      · exact ha
      · have := h3 (by omega); rw [get_nat s _ hjs] at this; exact this
      · have := h4 (by omega); rw [get_nat s _ hjs] at this; exact this
      · have := h5 (by omega); rw [get_nat s _ hjs] at this; exact this
    rw [hbj] at h128
    have hne : ∀ x : UInt8, x.toNat < 128 → x ≠ b := fun x hx e => by rw [e] at hx; omega
    have a1 := hne 13 (by decide)
    have a2 := hne 10 (by decide)
    simp [crL, Ne.symm a1, Ne.symm a2]

theorem enc_wide (r : Int) (h : 128 ≤ r) (hv : Utf8.valid r = true) : ∃ t : ByteArray, Utf8.encode r = t ∧ 2 ≤ t.size ∧ t.size ≤ 4 ∧ ∃ (hl : t.size - 1 < t.size), 128 ≤ (t[t.size - 1]'hl).toNat := by
  have hr : 128 ≤ r.toNat := by omega
  unfold Utf8.encode
  simp only [hv, if_true]
  rw [if_neg (by omega)]
  have hm : ∀ n : Nat, 128 ≤ (UInt8.ofNat (0x80 + n % 64)).toNat := fun n => by rw [UInt8.toNat_ofNat']; omega
  split
  · exact ⟨_, rfl, Nat.le_refl 2, Nat.le_of_ble_eq_true rfl, Nat.le_refl 2, hm _⟩
  · split
    · exact ⟨_, rfl, Nat.le_of_ble_eq_true rfl, Nat.le_of_ble_eq_true rfl, Nat.le_refl 3, hm _⟩
    · exact ⟨_, rfl, Nat.le_of_ble_eq_true rfl, Nat.le_of_ble_eq_true rfl, Nat.le_refl 4, hm _⟩

end Go.Proofs.YtpenjdnbnacebaaDoor.Sp
