/-
  PLAIN: a character that stands in a text, written anew, is its bytes.
-/
import Derived.Test.YtlnagfpkhojcmaaUtfPlain
namespace Go.Proofs.Ytlnagfpkhojcmaa.Utf
open Go.RowKit

theorem valid_of (c : Nat) (h : c < 55296 ∨ (57343 < c ∧ c ≤ 1114111)) : Utf8.valid (c : Int) = true := by
  rw [validRune_eq]; unfold validRune; apply decide_eq_true; omega
theorem enc1 (c : Nat) (h : c ≤ 127) : Utf8.encode (c : Int) = ⟨#[UInt8.ofNat c]⟩ := by
  unfold Utf8.encode
  simp only [valid_of c (by omega), if_true, Int.toNat_natCast]
  rw [if_pos (by omega)]
theorem enc2 (c : Nat) (h : 128 ≤ c) (h1 : c ≤ 2047) : Utf8.encode (c : Int) = ⟨#[UInt8.ofNat (192 + c / 64), UInt8.ofNat (128 + c % 64)]⟩ := by
  unfold Utf8.encode
  simp only [valid_of c (by omega), if_true, Int.toNat_natCast]
  rw [if_neg (by omega), if_pos (by omega)]
theorem enc3 (c : Nat) (h : 2048 ≤ c) (h1 : c < 65536) (h2 : c < 55296 ∨ 57343 < c) : Utf8.encode (c : Int) = ⟨#[UInt8.ofNat (224 + c / 4096), UInt8.ofNat (128 + c / 64 % 64), UInt8.ofNat (128 + c % 64)]⟩ := by
  unfold Utf8.encode
  simp only [valid_of c (by omega), if_true, Int.toNat_natCast]
  rw [if_neg (by omega), if_neg (by omega), if_pos (by omega)]
theorem enc4 (c : Nat) (h : 65536 ≤ c) (h1 : c ≤ 1114111) : Utf8.encode (c : Int) = ⟨#[UInt8.ofNat (240 + c / 262144), UInt8.ofNat (128 + c / 4096 % 64), UInt8.ofNat (128 + c / 64 % 64), UInt8.ofNat (128 + c % 64)]⟩ := by
  unfold Utf8.encode
  simp only [valid_of c (by omega), if_true, Int.toNat_natCast]
  rw [if_neg (by omega), if_neg (by omega), if_neg (by omega)]

theorem ext_list (t : ByteArray) (k n : Nat) (h : k + n ≤ t.size) : (t.extract k (k + n)).data.toList = (List.range n).map fun i => UInt8.ofNat (bt t (k + i)) := by
  have hl : t.data.toList.length = t.size := by simp
  rw [ByteArray.data_extract, Array.toList_extract, List.extract_eq_take_drop]
  apply List.ext_getElem
  · simp; omega
  · intro i h1 h2
    have hi : i < n := by simpa using h2
    have hk : k + i < t.data.toList.length := by omega
    rw [List.getElem_map, List.getElem_range, List.getElem_take, List.getElem_drop]
    unfold bt
    rw [List.getD_eq_getElem?_getD, List.getElem?_eq_getElem hk]
    simp
theorem ext_eq (t : ByteArray) (k n : Nat) (l : List UInt8) (h : k + n ≤ t.size) (e : l = (List.range n).map fun i => UInt8.ofNat (bt t (k + i))) : ⟨l.toArray⟩ = t.extract k (k + n) := by
  apply ByteArray.ext
  apply Array.toList_inj.1
  rw [ext_list t k n h, ← e]

theorem nx_parts (f : Nat → Nat) (m : Nat) (h : (nx f m).2 ≠ 0) :
    nx f m = (acc f (ln (f 0) - 1), ln (f 0)) ∧ 0 < ln (f 0) ∧ ln (f 0) ≤ m ∧ conts f (ln (f 0) - 1) = true ∧ fitsB (acc f (ln (f 0) - 1)) (ln (f 0)) = true := by
  unfold nx at h ⊢
  split at h
  · exact absurd rfl h
  · rename_i h0
    split at h
    · rename_i h1
      rw [if_neg h0, if_pos h1]
      exact ⟨rfl, by omega, by omega, h1.1, h1.2⟩
    · exact absurd rfl h

theorem ln_cases (b : Nat) (h : 0 < ln b) : (ln b = 1 ∧ b ≤ 127 ∧ lc b = b) ∨ (ln b = 2 ∧ 194 ≤ b ∧ b ≤ 223 ∧ lc b = b - 192) ∨ (ln b = 3 ∧ 224 ≤ b ∧ b ≤ 239 ∧ lc b = b - 224) ∨ (ln b = 4 ∧ 240 ≤ b ∧ b ≤ 244 ∧ lc b = b - 240) := by
  by_cases h1 : b ≤ 127
  · exact Or.inl ⟨by unfold ln; rw [if_pos h1], h1, by unfold lc; rw [if_pos h1]⟩
  by_cases h2 : 194 ≤ b ∧ b ≤ 223
  · exact Or.inr (Or.inl ⟨by unfold ln; rw [if_neg h1, if_pos h2], h2.1, h2.2, by unfold lc; rw [if_neg h1, if_pos h2]⟩)
  by_cases h3 : 224 ≤ b ∧ b ≤ 239
  · exact Or.inr (Or.inr (Or.inl ⟨by unfold ln; rw [if_neg h1, if_neg h2, if_pos h3], h3.1, h3.2, by unfold lc; rw [if_neg h1, if_neg h2, if_pos h3]⟩))
  by_cases h4 : 240 ≤ b ∧ b ≤ 244
  · exact Or.inr (Or.inr (Or.inr ⟨by unfold ln; rw [if_neg h1, if_neg h2, if_neg h3, if_pos h4], h4.1, h4.2, by unfold lc; rw [if_neg h1, if_neg h2, if_neg h3, if_pos h4]⟩))
  · exfalso; unfold ln at h; rw [if_neg h1, if_neg h2, if_neg h3, if_neg h4] at h; omega
theorem fitsB3 (c : Nat) (h : fitsB c 3 = true) : 2048 ≤ c ∧ (c < 55296 ∨ 57343 < c) := by
  unfold fitsB fitsI at h
  rw [if_pos (by decide), Bool.and_eq_true, Bool.or_eq_true, decide_eq_true_eq, decide_eq_true_eq, decide_eq_true_eq] at h; omega
theorem fitsB4 (c : Nat) (h : fitsB c 4 = true) : 65536 ≤ c ∧ c ≤ 1114111 := by
  unfold fitsB fitsI at h
  rw [if_neg (by decide), if_pos (by decide), Bool.and_eq_true, decide_eq_true_eq, decide_eq_true_eq] at h; omega

theorem enc_nxt (t : ByteArray) (k : Nat) (h : (nxt t k).2 ≠ 0) : Utf8.encode ((nxt t k).1 : Nat) = t.extract k (k + (nxt t k).2) := by
  have hle := nxt_le t k
  have hp := nx_parts (fun i => bt t (k + i)) (t.size - k) h
  have hp' : nxt t k = (acc (fun i => bt t (k + i)) (ln (bt t (k + 0)) - 1), ln (bt t (k + 0))) ∧ 0 < ln (bt t (k + 0)) ∧ ln (bt t (k + 0)) ≤ t.size - k ∧ conts (fun i => bt t (k + i)) (ln (bt t (k + 0)) - 1) = true ∧ fitsB (acc (fun i => bt t (k + i)) (ln (bt t (k + 0)) - 1)) (ln (bt t (k + 0))) = true := hp
  obtain ⟨e', h0, hm, hc, hf⟩ := hp'
  rw [e']
  show Utf8.encode (acc (fun i => bt t (k + i)) (ln (bt t (k + 0)) - 1) : Nat) = t.extract k (k + ln (bt t (k + 0)))
  have hsz : k + ln (bt t (k + 0)) ≤ t.size := by omega
  clear hp e' hle h
  rcases ln_cases _ h0 with ⟨l, b1, b2⟩ | ⟨l, b1, b2, b3⟩ | ⟨l, b1, b2, b3⟩ | ⟨l, b1, b2, b3⟩
  · rw [l] at hc hf hsz ⊢
    rw [show (1 : Nat) - 1 = 0 from rfl, acc_zero, b2, enc1 _ b1]
    exact ext_eq t k 1 [_] hsz rfl
  · rw [l] at hc hf hsz ⊢
    rw [show (2 : Nat) - 1 = 0 + 1 from rfl] at hc hf ⊢
    obtain ⟨c0, c1, c2⟩ := conts_more _ _ hc
    rw [acc_succ, acc_zero, b3] at hf ⊢
    simp only [Nat.zero_add] at c1 c2 hf ⊢
    rw [enc2 _ (by omega) (by omega)]
    refine ext_eq t k 2 [_, _] hsz ?_
    show _ = [UInt8.ofNat (bt t (k + 0)), UInt8.ofNat (bt t (k + 1))]
    rw [show 192 + ((bt t (k + 0) - 192) * 64 + (bt t (k + 1) - 128)) / 64 = bt t (k + 0) by omega, show 128 + ((bt t (k + 0) - 192) * 64 + (bt t (k + 1) - 128)) % 64 = bt t (k + 1) by omega]
  · rw [l] at hc hf hsz ⊢
    rw [show (3 : Nat) - 1 = 0 + 1 + 1 from rfl] at hc hf ⊢
    obtain ⟨c0, c1, c2⟩ := conts_more _ _ hc
    obtain ⟨c3, c4, c5⟩ := conts_more _ _ c0
    rw [acc_succ, acc_succ, acc_zero, b3] at hf ⊢
    simp only [Nat.zero_add, Nat.reduceAdd] at c1 c2 c4 c5 hf ⊢
    obtain ⟨g1, g2⟩ := fitsB3 _ hf
    rw [enc3 _ g1 (by omega) g2]
    refine ext_eq t k 3 [_, _, _] hsz ?_
    show _ = [UInt8.ofNat (bt t (k + 0)), UInt8.ofNat (bt t (k + 1)), UInt8.ofNat (bt t (k + 2))]
    generalize bt t (k + 0) = x at *
    generalize bt t (k + 1) = y at *
    generalize bt t (k + 2) = z at *
    rw [show 224 + (((x - 224) * 64 + (y - 128)) * 64 + (z - 128)) / 4096 = x by omega, show 128 + (((x - 224) * 64 + (y - 128)) * 64 + (z - 128)) / 64 % 64 = y by omega, show 128 + (((x - 224) * 64 + (y - 128)) * 64 + (z - 128)) % 64 = z by omega]
  · rw [l] at hc hf hsz ⊢
    rw [show (4 : Nat) - 1 = 0 + 1 + 1 + 1 from rfl] at hc hf ⊢
    obtain ⟨c0, c1, c2⟩ := conts_more _ _ hc
    obtain ⟨c3, c4, c5⟩ := conts_more _ _ c0
    obtain ⟨c6, c7, c8⟩ := conts_more _ _ c3
    rw [acc_succ, acc_succ, acc_succ, acc_zero, b3] at hf ⊢
    simp only [Nat.zero_add, Nat.reduceAdd] at c1 c2 c4 c5 c7 c8 hf ⊢
    obtain ⟨g1, g2⟩ := fitsB4 _ hf
    rw [enc4 _ g1 g2]
    refine ext_eq t k 4 [_, _, _, _] hsz ?_
    show _ = [UInt8.ofNat (bt t (k + 0)), UInt8.ofNat (bt t (k + 1)), UInt8.ofNat (bt t (k + 2)), UInt8.ofNat (bt t (k + 3))]
    generalize bt t (k + 0) = x at *
    generalize bt t (k + 1) = y at *
    generalize bt t (k + 2) = z at *
    generalize bt t (k + 3) = u at *
    rw [show 240 + ((((x - 240) * 64 + (y - 128)) * 64 + (z - 128)) * 64 + (u - 128)) / 262144 = x by omega, show 128 + ((((x - 240) * 64 + (y - 128)) * 64 + (z - 128)) * 64 + (u - 128)) / 4096 % 64 = y by omega, show 128 + ((((x - 240) * 64 + (y - 128)) * 64 + (z - 128)) * 64 + (u - 128)) / 64 % 64 = z by omega, show 128 + ((((x - 240) * 64 + (y - 128)) * 64 + (z - 128)) * 64 + (u - 128)) % 64 = u by omega]

theorem enc_size (t : ByteArray) (k : Nat) (h : (nxt t k).2 ≠ 0) : (Utf8.encode ((nxt t k).1 : Nat)).size ≤ 4 := by
  rw [enc_nxt t k h, ByteArray.size_extract]
  have := nxt_4 t k
  omega
theorem ext_app (t : ByteArray) (k n : Nat) : t.extract 0 k ++ t.extract k (k + n) = t.extract 0 (k + n) := by
  apply ByteArray.ext
  rw [ByteArray.data_append, ByteArray.data_extract, ByteArray.data_extract, ByteArray.data_extract, Array.extract_append_extract]
  congr 1 <;> omega
theorem ext_all (t : ByteArray) : t.extract 0 t.size = t := by
  apply ByteArray.ext
  rw [ByteArray.data_extract]
  exact Array.extract_size
end Go.Proofs.Ytlnagfpkhojcmaa.Utf
