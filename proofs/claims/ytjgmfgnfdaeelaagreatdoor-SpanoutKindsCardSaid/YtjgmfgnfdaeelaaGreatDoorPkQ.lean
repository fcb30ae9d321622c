/-
  Several texts in one:
  PLAIN: a character that stands in a text, written anew, is its bytes.
  PLAIN: texts behind one another are a text; a text cut within a character isn't one.
  TEXTS (utf) as lists of bytes: a text is cut at an ASCII byte; its first character. No program.
  READING SPANS, in plain words: what is read of a clean text is in normal form. No program.
  A TEXT THAT STANDS ALONE, in normal form: just the clean ones (plain).
-/
import Derived.Test.YtjgmfgnfdaeelaaGreatDoorPkC
import Derived.Test.YtjgmfgnfdaeelaaGreatDoorPkD
import Derived.Test.YtjgmfgnfdaeelaaGreatDoorPkG
import Derived.Test.YtjgmfgnfdaeelaaGreatDoorPkE
namespace Go.Proofs.YtjgmfgnfdaeelaaGreatDoor.Utf
open Go.RowKit

theorem valid_of (c : Nat) (h : c < 55296 ∨ (57343 < c ∧ c ≤ 1114111)) : Utf8.valid (c : Int) = true := by
  rw [validRune_eq]; unfold validRune; apply decide_eq_true; omega
theorem enc1 (c : Nat) (h : c ≤ 127) : Utf8.encode (c : Int) = ⟨#[UInt8.ofNat c]⟩ := by
  unfold Utf8.encode
  simp only [valid_of c (by omega), if_true, Int.toNat_natCast]
  rw [if_pos (by omega)]
theorem enc2 (c : Nat) (h : 128 ≤ c) (h1 : c ≤ 2047) : Utf8.encode (c : Int) = ⟨#[UInt8.ofNat (192 + c / 64), UInt8.ofNat (128 + c % 64)]⟩ := by
  unfold Utf8.encode
  simp only [valid_of c (by omega), if_true, Int.toNat_natCast]
  rw [if_neg (by omega), if_pos (by omega)]
theorem enc3 (c : Nat) (h : 2048 ≤ c) (h1 : c < 65536) (h2 : c < 55296 ∨ 57343 < c) : Utf8.encode (c : Int) = ⟨#[UInt8.ofNat (224 + c / 4096), UInt8.ofNat (128 + c / 64 % 64), UInt8.ofNat (128 + c % 64)]⟩ := by
  unfold Utf8.encode
  simp only [valid_of c (by omega), if_true, Int.toNat_natCast]
  rw [if_neg (by omega), if_neg (by omega), if_pos (by omega)]
theorem enc4 (c : Nat) (h : 65536 ≤ c) (h1 : c ≤ 1114111) : Utf8.encode (c : Int) = ⟨#[UInt8.ofNat (240 + c / 262144), UInt8.ofNat (128 + c / 4096 % 64), UInt8.ofNat (128 + c / 64 % 64), UInt8.ofNat (128 + c % 64)]⟩ := by
  unfold Utf8.encode
  simp only [valid_of c (by omega), if_true, Int.toNat_natCast]
  rw [if_neg (by omega), if_neg (by omega), if_neg (by omega)]

theorem ext_list (t : ByteArray) (k n : Nat) (h : k + n ≤ t.size) : (t.extract k (k + n)).data.toList = (List.range n).map fun i => UInt8.ofNat (bt t (k + i)) := by
  have hl : t.data.toList.length = t.size := by simp
  rw [ByteArray.data_extract, Array.toList_extract, List.extract_eq_take_drop]
  apply List.ext_getElem
  · simp; omega
  · intro i h1 h2
    have hi : i < n := by simpa using h2
    have hk : k + i < t.data.toList.length := by omega
    rw [List.getElem_map, List.getElem_range, List.getElem_take, List.getElem_drop]
    unfold bt
    rw [List.getD_eq_getElem?_getD, List.getElem?_eq_getElem hk]
    simp
theorem ext_eq (t : ByteArray) (k n : Nat) (l : List UInt8) (h : k + n ≤ t.size) (e : l = (List.range n).map fun i => UInt8.ofNat (bt t (k + i))) : ⟨l.toArray⟩ = t.extract k (k + n) := by
  apply ByteArray.ext
  apply Array.toList_inj.1
  rw [ext_list t k n h, ← e]

theorem nx_parts (f : Nat → Nat) (m : Nat) (h : (nx f m).2 ≠ 0) :
    nx f m = (acc f (ln (f 0) - 1), ln (f 0)) ∧ 0 < ln (f 0) ∧ ln (f 0) ≤ m ∧ conts f (ln (f 0) - 1) = true ∧ fitsB (acc f (ln (f 0) - 1)) (ln (f 0)) = true := by
  unfold nx at h ⊢
  split at h
  · exact absurd rfl h
  · rename_i h0
    split at h
    · rename_i h1
      rw [if_neg h0, if_pos h1]
      exact ⟨rfl, by omega, by omega, h1.1, h1.2⟩
    · exact absurd rfl h

theorem ln_cases (b : Nat) (h : 0 < ln b) : (ln b = 1 ∧ b ≤ 127 ∧ lc b = b) ∨ (ln b = 2 ∧ 194 ≤ b ∧ b ≤ 223 ∧ lc b = b - 192) ∨ (ln b = 3 ∧ 224 ≤ b ∧ b ≤ 239 ∧ lc b = b - 224) ∨ (ln b = 4 ∧ 240 ≤ b ∧ b ≤ 244 ∧ lc b = b - 240) := by
  by_cases h1 : b ≤ 127
  · exact Or.inl ⟨by unfold ln; rw [if_pos h1], h1, by unfold lc; rw [if_pos h1]⟩
  by_cases h2 : 194 ≤ b ∧ b ≤ 223
  · exact Or.inr (Or.inl ⟨by unfold ln; rw [if_neg h1, if_pos h2], h2.1, h2.2, by unfold lc; rw [if_neg h1, if_pos h2]⟩)
  by_cases h3 : 224 ≤ b ∧ b ≤ 239
  · exact Or.inr (Or.inr (Or.inl ⟨by unfold ln; rw [if_neg h1, if_neg h2, if_pos h3], h3.1, h3.2, by unfold lc; rw [if_neg h1, if_neg h2, if_pos h3]⟩))
  by_cases h4 : 240 ≤ b ∧ b ≤ 244
  · exact Or.inr (Or.inr (Or.inr ⟨by unfold ln; rw [if_neg h1, if_neg h2, if_neg h3, if_pos h4], h4.1, h4.2, by unfold lc; rw [if_neg h1, if_neg h2, if_neg h3, if_pos h4]⟩))
  · exfalso; unfold ln at h; rw [if_neg h1, if_neg h2, if_neg h3, if_neg h4] at h; omega
theorem fitsB3 (c : Nat) (h : fitsB c 3 = true) : 2048 ≤ c ∧ (c < 55296 ∨ 57343 < c) := by
  unfold fitsB fitsI at h
  rw [if_pos (by decide), Bool.and_eq_true, Bool.or_eq_true, decide_eq_true_eq, decide_eq_true_eq, decide_eq_true_eq] at h; omega
theorem fitsB4 (c : Nat) (h : fitsB c 4 = true) : 65536 ≤ c ∧ c ≤ 1114111 := by
  unfold fitsB fitsI at h
  rw [if_neg (by decide), if_pos (by decide), Bool.and_eq_true, decide_eq_true_eq, decide_eq_true_eq] at h; omega

theorem enc_nxt (t : ByteArray) (k : Nat) (h : (nxt t k).2 ≠ 0) : Utf8.encode ((nxt t k).1 : Nat) = t.extract k (k + (nxt t k).2) := by
  have hle := nxt_le t k
  have hp := nx_parts (fun i => bt t (k + i)) (t.size - k) h
  have hp' : nxt t k = (acc (fun i => bt t (k + i)) (ln (bt t (k + 0)) - 1), ln (bt t (k + 0))) ∧ 0 < ln (bt t (k + 0)) ∧ ln (bt t (k + 0)) ≤ t.size - k ∧ conts (fun i => bt t (k + i)) (ln (bt t (k + 0)) - 1) = true ∧ fitsB (acc (fun i => bt t (k + i)) (ln (bt t (k + 0)) - 1)) (ln (bt t (k + 0))) = true := hp
  obtain ⟨e', h0, hm, hc, hf⟩ := hp'
  rw [e']
  show Utf8.encode (acc (fun i => bt t (k + i)) (ln (bt t (k + 0)) - 1) : Nat) = t.extract k (k + ln (bt t (k + 0)))
  have hsz : k + ln (bt t (k + 0)) ≤ t.size := by omega
  clear hp e' hle h
  rcases ln_cases _ h0 with ⟨l, b1, b2⟩ | ⟨l, b1, b2, b3⟩ | ⟨l, b1, b2, b3⟩ | ⟨l, b1, b2, b3⟩
  · rw [l] at hc hf hsz ⊢
    rw [show (1 : Nat) - 1 = 0 from rfl, acc_zero, b2, enc1 _ b1]
    exact ext_eq t k 1 [_] hsz rfl
  · rw [l] at hc hf hsz ⊢
    rw [show (2 : Nat) - 1 = 0 + 1 from rfl] at hc hf ⊢
    obtain ⟨c0, c1, c2⟩ := conts_more _ _ hc
    rw [acc_succ, acc_zero, b3] at hf ⊢
    simp only [Nat.zero_add] at c1 c2 hf ⊢
    rw [enc2 _ (by omega) (by omega)]
    refine ext_eq t k 2 [_, _] hsz ?_
    show _ = [UInt8.ofNat (bt t (k + 0)), UInt8.ofNat (bt t (k + 1))]
    rw [show 192 + ((bt t (k + 0) - 192) * 64 + (bt t (k + 1) - 128)) / 64 = bt t (k + 0) by omega, show 128 + ((bt t (k + 0) - 192) * 64 + (bt t (k + 1) - 128)) % 64 = bt t (k + 1) by omega]
  · rw [l] at hc hf hsz ⊢
    rw [show (3 : Nat) - 1 = 0 + 1 + 1 from rfl] at hc hf ⊢
    obtain ⟨c0, c1, c2⟩ := conts_more _ _ hc
    obtain ⟨c3, c4, c5⟩ := conts_more _ _ c0
    rw [acc_succ, acc_succ, acc_zero, b3] at hf ⊢
    simp only [Nat.zero_add, Nat.reduceAdd] at c1 c2 c4 c5 hf ⊢
    obtain ⟨g1, g2⟩ := fitsB3 _ hf
    rw [enc3 _ g1 (by omega) g2]
    refine ext_eq t k 3 [_, _, _] hsz ?_
    show _ = [UInt8.ofNat (bt t (k + 0)), UInt8.ofNat (bt t (k + 1)), UInt8.ofNat (bt t (k + 2))]
    generalize bt t (k + 0) = x at *
    generalize bt t (k + 1) = y at *
    generalize bt t (k + 2) = z at *
    rw [show 224 + (((x - 224) * 64 + (y - 128)) * 64 + (z - 128)) / 4096 = x by omega, show 128 + (((x - 224) * 64 + (y - 128)) * 64 + (z - 128)) / 64 % 64 = y by omega, show 128 + (((x - 224) * 64 + (y - 128)) * 64 + (z - 128)) % 64 = z by omega]
  · rw [l] at hc hf hsz ⊢
    rw [show (4 : Nat) - 1 = 0 + 1 + 1 + 1 from rfl] at hc hf ⊢
    obtain ⟨c0, c1, c2⟩ := conts_more _ _ hc
    obtain ⟨c3, c4, c5⟩ := conts_more _ _ c0
    obtain ⟨c6, c7, c8⟩ := conts_more _ _ c3
    rw [acc_succ, acc_succ, acc_succ, acc_zero, b3] at hf ⊢
    simp only [Nat.zero_add, Nat.reduceAdd] at c1 c2 c4 c5 c7 c8 hf ⊢
    obtain ⟨g1, g2⟩ := fitsB4 _ hf
    rw [enc4 _ g1 g2]
    refine ext_eq t k 4 [_, _, _, _] hsz ?_
    show _ = [UInt8.ofNat (bt t (k + 0)), UInt8.ofNat (bt t (k + 1)), UInt8.ofNat (bt t (k + 2)), UInt8.ofNat (bt t (k + 3))]
    generalize bt t (k + 0) = x at *
    generalize bt t (k + 1) = y at *
    generalize bt t (k + 2) = z at *
    generalize bt t (k + 3) = u at *
    rw [show 240 + ((((x - 240) * 64 + (y - 128)) * 64 + (z - 128)) * 64 + (u - 128)) / 262144 = x by omega, show 128 + ((((x - 240) * 64 + (y - 128)) * 64 + (z - 128)) * 64 + (u - 128)) / 4096 % 64 = y by omega, show 128 + ((((x - 240) * 64 + (y - 128)) * 64 + (z - 128)) * 64 + (u - 128)) / 64 % 64 = z by omega, show 128 + ((((x - 240) * 64 + (y - 128)) * 64 + (z - 128)) * 64 + (u - 128)) % 64 = u by omega]

theorem enc_size (t : ByteArray) (k : Nat) (h : (nxt t k).2 ≠ 0) : (Utf8.encode ((nxt t k).1 : Nat)).size ≤ 4 := by
  rw [enc_nxt t k h, ByteArray.size_extract]
  have := nxt_4 t k
  omega
theorem ext_app (t : ByteArray) (k n : Nat) : t.extract 0 k ++ t.extract k (k + n) = t.extract 0 (k + n) := by
  apply ByteArray.ext
  rw [ByteArray.data_append, ByteArray.data_extract, ByteArray.data_extract, ByteArray.data_extract, Array.extract_append_extract]
  congr 1 <;> omega
theorem ext_all (t : ByteArray) : t.extract 0 t.size = t := by
  apply ByteArray.ext
  rw [ByteArray.data_extract]
  exact Array.extract_size
end Go.Proofs.YtjgmfgnfdaeelaaGreatDoor.Utf

namespace Go.Proofs.YtjgmfgnfdaeelaaGreatDoor.Utf
open Go.RowKit
set_option linter.unusedVariables false

theorem conts_congr (f g : Nat → Nat) (j : Nat) (h : ∀ i, i ≤ j → g i = f i) : conts g j = conts f j ∧ acc g j = acc f j := by
  induction j with
  | zero => exact ⟨rfl, by rw [acc_zero, acc_zero, h 0 (Nat.le_refl _)]⟩
  | succ j ih =>
    obtain ⟨h1, h2⟩ := ih (fun i hi => h i (by omega))
    exact ⟨by rw [conts_succ, conts_succ, h1, h (j + 1) (Nat.le_refl _)], by rw [acc_succ, acc_succ, h2, h (j + 1) (Nat.le_refl _)]⟩
theorem nx_congr (f g : Nat → Nat) (m m' : Nat) (h : (nx f m).2 ≠ 0) (hg : ∀ i, i < (nx f m).2 → g i = f i) (hm : (nx f m).2 ≤ m') : nx g m' = nx f m := by
  obtain ⟨e, h0, h1, h2, h3⟩ := nx_parts f m h
  rw [e] at hg hm ⊢
  have hg' : ∀ i, i < ln (f 0) → g i = f i := hg
  have hm' : ln (f 0) ≤ m' := hm
  have e0 : g 0 = f 0 := hg' 0 h0
  obtain ⟨c1, c2⟩ := conts_congr f g (ln (f 0) - 1) (fun i hi => hg' i (by omega))
  rw [← e0] at h0 hm' h2 h3 c1 c2 ⊢
  rw [nx_yes g m' h0 hm' (by rw [c1]; exact h2) (by rw [c2]; exact h3), c2]
theorem conts_at (f : Nat → Nat) (i j : Nat) (h : conts f j = true) (h1 : 1 ≤ i) (h2 : i ≤ j) : 128 ≤ f i ∧ f i ≤ 191 := by
  obtain ⟨i', rfl⟩ : ∃ i', i = i' + 1 := ⟨i - 1, by omega⟩
  exact (conts_more f i' (conts_le f (i' + 1) j h h2)).2

theorem bt_out (t : ByteArray) (k : Nat) (h : t.size ≤ k) : bt t k = 0 := by
  unfold bt
  rw [List.getD_eq_getElem?_getD, List.getElem?_eq_none (by simpa using h)]
  rfl
theorem bt_append_right (a b : ByteArray) (k : Nat) : bt (a ++ b) (a.size + k) = bt b k := by
  unfold bt
  rw [List.getD_eq_getElem?_getD, List.getD_eq_getElem?_getD, ByteArray.data_append, Array.toList_append, List.getElem?_append_right (by simp)]
  congr 3
  simp
theorem bt_append_left (a b : ByteArray) (k : Nat) (h : k < a.size) : bt (a ++ b) k = bt a k := by
  unfold bt
  rw [List.getD_eq_getElem?_getD, List.getD_eq_getElem?_getD, ByteArray.data_append, Array.toList_append, List.getElem?_append_left (by simpa using h)]
theorem bt_extract (t : ByteArray) (i m k : Nat) (hm : m ≤ t.size) (h : i + k < m) : bt (t.extract i m) k = bt t (i + k) := by
  unfold bt
  rw [List.getD_eq_getElem?_getD, List.getD_eq_getElem?_getD, ByteArray.data_extract, Array.toList_extract, List.extract_eq_take_drop, List.getElem?_take_of_lt (by omega), List.getElem?_drop]
theorem bt_suffix (t : ByteArray) (i k : Nat) : bt (t.extract i t.size) k = bt t (i + k) := by
  by_cases h : i + k < t.size
  · exact bt_extract t i t.size k (Nat.le_refl _) h
  · rw [bt_out t (i + k) (by omega), bt_out _ _ (by rw [ByteArray.size_extract]; omega)]

theorem nxt_suffix (t : ByteArray) (i k : Nat) : nxt (t.extract i t.size) k = nxt t (i + k) := by
  unfold nxt
  rw [ByteArray.size_extract]
  have e1 : (fun j => bt (t.extract i t.size) (k + j)) = fun j => bt t (i + k + j) := by
    funext j; rw [bt_suffix, Nat.add_assoc]
  rw [e1, show min t.size t.size - i - k = t.size - (i + k) by omega]
theorem nxt_append_right (a b : ByteArray) (k : Nat) : nxt (a ++ b) (a.size + k) = nxt b k := by
  unfold nxt
  have e1 : (fun j => bt (a ++ b) (a.size + k + j)) = fun j => bt b (k + j) := by
    funext j; rw [Nat.add_assoc, bt_append_right]
  rw [e1, ByteArray.size_append, show a.size + b.size - (a.size + k) = b.size - k by omega]
theorem nxt_append_left (a b : ByteArray) (k : Nat) (h : (nxt a k).2 ≠ 0) : nxt (a ++ b) k = nxt a k := by
  have hle := nxt_le a k
  refine nx_congr (fun i => bt a (k + i)) _ (a.size - k) _ h (fun i hi => ?_) ?_
  · have hi' : i < (nxt a k).2 := hi
    exact bt_append_left a b (k + i) (by omega)
  · show (nxt a k).2 ≤ _
    rw [ByteArray.size_append]; omega
theorem nxt_front (t : ByteArray) (m k : Nat) (hm : m ≤ t.size) (h : (nxt t k).2 ≠ 0) (hk : k + (nxt t k).2 ≤ m) : nxt (t.extract 0 m) k = nxt t k := by
  refine nx_congr (fun i => bt t (k + i)) _ (t.size - k) _ h (fun i hi => ?_) ?_
  · have hi' : i < (nxt t k).2 := hi
    show bt (t.extract 0 m) (k + i) = bt t (k + i)
    rw [bt_extract t 0 m (k + i) hm (by omega), Nat.zero_add]
  · show (nxt t k).2 ≤ _
    rw [ByteArray.size_extract]; omega
theorem nxt_parts (t : ByteArray) (k : Nat) (h : (nxt t k).2 ≠ 0) : (nxt t k).2 = ln (bt t k) ∧ conts (fun i => bt t (k + i)) (ln (bt t k) - 1) = true := by
  obtain ⟨e, h0, h1, h2, h3⟩ := nx_parts (fun i => bt t (k + i)) (t.size - k) h
  exact ⟨congrArg Prod.snd e, h2⟩
theorem nxt_cut (t : ByteArray) (m k : Nat) (hm : m ≤ t.size) (h : (nxt t k).2 ≠ 0) (h1 : k < m) (h2 : m < k + (nxt t k).2) : (nxt (t.extract 0 m) k).2 = 0 := by
  have e := (nxt_parts t k h).1
  have : nxt (t.extract 0 m) k = (0, 0) := nx_none _ _ (Or.inr (Or.inr (by
    show (t.extract 0 m).size - k < ln (bt (t.extract 0 m) k)
    rw [bt_extract t 0 m k hm (by omega), Nat.zero_add, ← e, ByteArray.size_extract]; omega)))
  rw [this]
theorem nxt_within (t : ByteArray) (m k : Nat) (h : (nxt t k).2 ≠ 0) (h1 : k < m) (h2 : m < k + (nxt t k).2) : (nxt t m).2 = 0 := by
  obtain ⟨e, hc⟩ := nxt_parts t k h
  have h3 := conts_at _ (m - k) _ hc (by omega) (by omega)
  have h4 : 128 ≤ bt t m ∧ bt t m ≤ 191 := by
    have e5 : k + (m - k) = m := by omega
    simp only [e5] at h3
    exact h3
  have e6 : ln (bt t m) = 0 := by unfold ln; (repeat' split) <;> omega
  have : nxt t m = (0, 0) := nx_none _ _ (Or.inr (Or.inl e6))
  rw [this]

theorem goesAt_suffix (t : ByteArray) (i k : Nat) : goesAt (t.extract i t.size) k = goesAt t (i + k) := by
  have hsz : (t.extract i t.size).size = t.size - i := by rw [ByteArray.size_extract]; omega
  obtain ⟨m, hm⟩ : ∃ m, t.size - (i + k) = m := ⟨_, rfl⟩
  induction m using Nat.strongRecOn generalizing k with
  | ind m ih =>
    by_cases h : t.size ≤ i + k
    · rw [goesAt_end _ _ h, goesAt_end _ _ (by omega)]
    · have e := nxt_suffix t i k
      by_cases h0 : (nxt t (i + k)).2 = 0
      · rw [goesAt_bad t _ (by omega) h0, goesAt_bad _ k (by omega) (by rw [e]; exact h0)]
      · rw [← goesAt_step t _ (by omega) h0, ← goesAt_step _ k (by omega) (by rw [e]; exact h0), e, Nat.add_assoc]
        exact ih _ (by omega) _ rfl
theorem goesAt_append_right (a b : ByteArray) (k : Nat) : goesAt (a ++ b) (a.size + k) = goesAt b k := by
  have hsz := ByteArray.size_append (a := a) (b := b)
  obtain ⟨m, hm⟩ : ∃ m, b.size - k = m := ⟨_, rfl⟩
  induction m using Nat.strongRecOn generalizing k with
  | ind m ih =>
    by_cases h : b.size ≤ k
    · rw [goesAt_end _ _ h, goesAt_end _ _ (by omega)]
    · have e := nxt_append_right a b k
      by_cases h0 : (nxt b k).2 = 0
      · rw [goesAt_bad b _ (by omega) h0, goesAt_bad _ _ (by omega) (by rw [e]; exact h0)]
      · rw [← goesAt_step b _ (by omega) h0, ← goesAt_step _ _ (by omega) (by rw [e]; exact h0), e, Nat.add_assoc]
        exact ih _ (by omega) _ rfl
theorem goesAt_append_left (a b : ByteArray) (k : Nat) (hk : k ≤ a.size) (h : goesAt a k = true) : goesAt (a ++ b) k = goesAt (a ++ b) a.size := by
  have hsz := ByteArray.size_append (a := a) (b := b)
  obtain ⟨m, hm⟩ : ∃ m, a.size - k = m := ⟨_, rfl⟩
  induction m using Nat.strongRecOn generalizing k with
  | ind m ih =>
    by_cases h1 : k = a.size
    · rw [h1]
    · have h0 : (nxt a k).2 ≠ 0 := fun h0 => by rw [goesAt_bad a k (by omega) h0] at h; cases h
      have e := nxt_append_left a b k h0
      have hle := nxt_le a k
      rw [← goesAt_step _ k (by omega) (by rw [e]; exact h0), e]
      exact ih _ (by omega) _ (by omega) (by rw [goesAt_step a k (by omega) h0]; exact h) rfl
theorem goes_join (a b : ByteArray) (ha : goesAt a 0 = true) (hb : goesAt b 0 = true) : goesAt (a ++ b) 0 = true := by
  rw [goesAt_append_left a b 0 (Nat.zero_le _) ha, ← hb]
  exact goesAt_append_right a b 0

/-- p is where a character begins, or the end; each part that goes so far is gone through by p. -/
def Bnd (t : ByteArray) (p : Nat) : Prop := goesAt t p = true ∧ p ≤ t.size ∧ ∀ m, p ≤ m → m ≤ t.size → goesAt (t.extract 0 m) 0 = goesAt (t.extract 0 m) p
def Cut (t : ByteArray) (k : Nat) : Prop := ∃ q, Bnd t q ∧ q < k ∧ k < q + (nxt t q).2
theorem Bnd.start (t : ByteArray) (h : goesAt t 0 = true) : Bnd t 0 := ⟨h, Nat.zero_le _, fun _ _ _ => rfl⟩
theorem Bnd.nonzero {t : ByteArray} {p : Nat} (h : Bnd t p) (hp : p < t.size) : (nxt t p).2 ≠ 0 := fun h0 => by
  have h1 := h.1
  rw [goesAt_bad t p hp h0] at h1; cases h1
theorem Bnd.step {t : ByteArray} {p : Nat} (h : Bnd t p) (hp : p < t.size) : Bnd t (p + (nxt t p).2) := by
  have h0 := h.nonzero hp
  have hle := nxt_le t p
  refine ⟨by rw [goesAt_step t p hp h0]; exact h.1, by omega, fun m h1 h2 => ?_⟩
  have e := nxt_front t m p h2 h0 h1
  have hs : (t.extract 0 m).size = m := by rw [ByteArray.size_extract]; omega
  rw [h.2.2 m (by omega) h2, ← goesAt_step (t.extract 0 m) p (by omega) (by rw [e]; exact h0), e]
theorem Bnd.parts {t : ByteArray} {k : Nat} (h : Bnd t k) : goesAt (t.extract 0 k) 0 = true ∧ goesAt (t.extract k t.size) 0 = true := by
  have hs : (t.extract 0 k).size = k := by rw [ByteArray.size_extract]; have := h.2.1; omega
  exact ⟨by rw [h.2.2 k (Nat.le_refl _) h.2.1]; exact goesAt_end _ _ (by omega), by rw [goesAt_suffix, Nat.add_zero]; exact h.1⟩
theorem Cut.parts {t : ByteArray} {k : Nat} (h : Cut t k) (hk : k ≤ t.size) : goesAt (t.extract 0 k) 0 = false ∧ goesAt (t.extract k t.size) 0 = false := by
  obtain ⟨q, hq, h1, h2⟩ := h
  have hle := nxt_le t q
  have h0 := hq.nonzero (by omega)
  have hs : (t.extract 0 k).size = k := by rw [ByteArray.size_extract]; omega
  refine ⟨?_, ?_⟩
  · rw [hq.2.2 k (by omega) hk]
    exact goesAt_bad _ _ (by omega) (nxt_cut t k q hk h0 h1 h2)
  · rw [goesAt_suffix, Nat.add_zero]
    exact goesAt_bad _ _ (by omega) (nxt_within t k q h0 h1 h2)

theorem chk_zero_iff (t : ByteArray) : chk t = 0 ↔ ¬ 1048576 < (t.size : Int) ∧ zeroB t = false ∧ goesAt t 0 = true := by
  unfold chk
  split
  · rename_i h; exact ⟨fun h1 => by omega, fun h1 => absurd h h1.1⟩
  · rename_i h
    split
    · rename_i h2; exact ⟨fun h1 => by omega, fun h1 => by rw [h2] at h1; cases h1.2.1⟩
    · rename_i h2
      split
      · rename_i h3; exact ⟨fun _ => ⟨h, by simpa using h2, h3⟩, fun _ => rfl⟩
      · rename_i h3; exact ⟨fun h1 => by omega, fun h1 => absurd h1.2.2 h3⟩
theorem zero_join (a b : ByteArray) (ha : zeroB a = false) (hb : zeroB b = false) : zeroB (a ++ b) = false := by
  unfold zeroB at *
  rw [decide_eq_false_iff_not] at *
  rw [ByteArray.data_append, Array.toList_append, List.mem_append]
  exact fun h => h.elim ha hb
theorem zero_part (t : ByteArray) (i m : Nat) (h : zeroB t = false) : zeroB (t.extract i m) = false := by
  unfold zeroB at *
  rw [decide_eq_false_iff_not] at *
  exact fun h1 => h (mem_extract h1)
theorem chk_parts {t : ByteArray} {k : Nat} {whole : Bool} (hs : t.size ≤ 5000) (hz : zeroB t = false) (h : goesAt (t.extract 0 k) 0 = whole ∧ goesAt (t.extract k t.size) 0 = whole) :
    (chk (t.extract 0 k) == 0) = whole ∧ (chk (t.extract k t.size) == 0) = whole := by
  have key : ∀ i m, goesAt (t.extract i m) 0 = whole → (chk (t.extract i m) == 0) = whole := fun i m hg => by
    have h2 := chk_zero_iff (t.extract i m)
    have h3 : ¬ 1048576 < ((t.extract i m).size : Int) := by rw [ByteArray.size_extract]; omega
    rw [hg, zero_part t i m hz] at h2
    cases whole with
    | true => simpa using h2.2 ⟨h3, rfl, rfl⟩
    | false =>
      have : ¬ chk (t.extract i m) = 0 := fun h4 => by have := (h2.1 h4).2.2; cases this
      simpa using this
  exact ⟨key 0 k h.1, key k t.size h.2⟩
end Go.Proofs.YtjgmfgnfdaeelaaGreatDoor.Utf

namespace Go.Proofs.YtjgmfgnfdaeelaaGreatDoor.Sp
open Go.Proofs.YtjgmfgnfdaeelaaGreatDoor.Tk (S S_of S_list S_size S_toList S_app at_data len_data)
open Go.Proofs.YtjgmfgnfdaeelaaGreatDoor.Utf (chk goesAt goesAt_end nxt nxt_parts nxt_le bt bt_eq ln conts conts_at Bnd goes_join chk_zero_iff zeroB)
set_option linter.unusedVariables false

theorem nxt_one (t : ByteArray) (k : Nat) (h : k < t.size) (hb : t[k].toNat ≤ 127) : (nxt t k).2 = 1 := by
  have h0 : bt t (k + 0) ≤ 127 := by rw [Nat.add_zero, bt_eq t k h]; exact hb
  have hl : ln (bt t (k + 0)) = 1 := by unfold ln; rw [if_pos h0]
  unfold nxt Go.Proofs.YtjgmfgnfdaeelaaGreatDoor.Utf.nx
  simp only []
  rw [hl]
  rw [if_neg (by omega), if_pos ⟨rfl, rfl⟩]
theorem goes_one_ascii (t : ByteArray) (h : ∀ k (hk : k < t.size), t[k].toNat ≤ 127) : ∀ n k, t.size - k ≤ n → goesAt t k = true
  | 0, k, hn => goesAt_end t k (by omega)
  | n + 1, k, hn => by
    by_cases hk : k < t.size
    · have h1 := nxt_one t k hk (h k hk)
      have h2 := Go.Proofs.YtjgmfgnfdaeelaaGreatDoor.Utf.goesAt_step t k hk (by omega)
      rw [h1] at h2
      rw [← h2]
      exact goes_one_ascii t h n (k + 1) (by omega)
    · exact goesAt_end t k (by omega)
def V (l : List UInt8) : Prop := goesAt (S l) 0 = true
theorem V_nil : V [] := goesAt_end _ _ (by rw [S_size]; exact Nat.le_refl _)
theorem V_app {a b : List UInt8} (ha : V a) (hb : V b) : V (a ++ b) := by
  unfold V at *
  rw [← S_app]
  exact goes_join _ _ ha hb
theorem S_extractV (l : List UInt8) (a b : Nat) : (S l).extract a b = S ((l.drop a).take (b - a)) := by
  rw [← S_of ((S l).extract a b), ext_list, S_list]
theorem V_first {c : UInt8} {r : List UInt8} (h : V (c :: r)) : ∃ u r0, c :: r = u ++ r0 ∧ V u ∧ V r0 ∧ ((u = [c] ∧ c.toNat ≤ 127) ∨ (u ≠ [] ∧ ∀ x ∈ u, 128 ≤ x.toNat)) := by
  have hsz : (S (c :: r)).size = r.length + 1 := by rw [S_size]; rfl
  have hB := Bnd.start (S (c :: r)) h
  have h0 := hB.nonzero (by omega)
  have hst := hB.step (by omega)
  rw [Nat.zero_add] at hst
  have hpt := hst.parts
  have hp := nxt_parts (S (c :: r)) 0 h0
  have hle := nxt_le (S (c :: r)) 0
  generalize (nxt (S (c :: r)) 0).2 = n at *
  have hb0 : bt (S (c :: r)) 0 = c.toNat := by
    rw [bt_eq _ 0 (by omega)]
    have := at_data (S (c :: r)) 0 (by omega)
    rw [S_list, List.drop_zero] at this
    exact (congrArg UInt8.toNat (List.cons.inj this).1).symm
  rw [hb0] at hp
  rw [S_extractV, S_extractV, hsz, Nat.sub_zero, List.drop_zero] at hpt
  have hr0 : ((c :: r).drop n).take (r.length + 1 - n) = (c :: r).drop n := List.take_of_length_le (by rw [List.length_drop, List.length_cons]; omega)
  rw [hr0] at hpt
  refine ⟨(c :: r).take n, (c :: r).drop n, (List.take_append_drop _ _).symm, hpt.1, hpt.2, ?_⟩
  by_cases hc : c.toNat ≤ 127
  · have hl : ln c.toNat = 1 := by unfold ln; rw [if_pos hc]
    rw [hl] at hp
    rw [hp.1]
    exact Or.inl ⟨rfl, hc⟩
  · refine Or.inr ⟨?_, fun x hx => ?_⟩
    · intro e
      have := congrArg List.length e
      rw [List.length_take, List.length_cons, List.length_nil] at this
      omega
    · obtain ⟨i, hi, hxi⟩ := List.getElem_of_mem hx
      rw [List.length_take, List.length_cons] at hi
      have hbi : bt (S (c :: r)) i = x.toNat := by
        rw [bt_eq _ i (by omega), ← hxi]
        rw [List.getElem_take]
        have h1 := at_data (S (c :: r)) i (by omega)
        rw [S_list] at h1
        have h2 := List.drop_eq_getElem_cons (l := c :: r) (i := i) (by rw [List.length_cons]; omega)
        rw [h2] at h1
        rw [(List.cons.inj h1).1]
      rcases Nat.eq_zero_or_pos i with rfl | hi0
      · rw [← hbi, hb0]; omega
      · have := conts_at _ i _ hp.2 hi0 (by omega)
        rw [Nat.zero_add, hbi] at this
        exact this.1
theorem V_one {c : UInt8} (hc : c.toNat ≤ 127) : V [c] := by
  unfold V
  refine goes_one_ascii (S [c]) (fun k hk => ?_) 1 0 (by rw [S_size]; exact Nat.le_refl _)
  have hk0 : k = 0 := by rw [S_size] at hk; simp at hk; exact hk
  subst hk0
  exact hc
theorem V_tail {c : UInt8} {r : List UInt8} (hc : c.toNat ≤ 127) (h : V (c :: r)) : V r := by
  obtain ⟨u, r0, he, hu, hr, h1 | h1⟩ := V_first h
  · rw [h1.1] at he
    have := (List.cons.inj he).2
    rw [this]; exact hr
  · exfalso
    cases u with
    | nil => exact h1.1 rfl
    | cons x u =>
      have hx := (List.cons.inj he).1
      have := h1.2 x (List.mem_cons_self ..)
      rw [← hx] at this
      omega
theorem V_cut {c : UInt8} (hc : c.toNat ≤ 127) : ∀ (n : Nat) (a b : List UInt8), a.length ≤ n → V (a ++ c :: b) → V a ∧ V b
  | n, [], b, _, h => ⟨V_nil, V_tail hc h⟩
  | 0, x :: a, b, hn, _ => by simp at hn
  | n + 1, x :: a, b, hn, h => by
    rw [List.length_cons] at hn
    obtain ⟨u, r0, he, hu, hr, h1 | h1⟩ := V_first (c := x) (r := a ++ c :: b) h
    · rw [h1.1] at he
      have he2 : a ++ c :: b = r0 := (List.cons.inj he).2
      rw [← he2] at hr
      obtain ⟨ha, hb⟩ := V_cut hc n a b (by omega) hr
      exact ⟨V_app (V_one h1.2) ha, hb⟩
    · have he' : (x :: a) ++ c :: b = u ++ r0 := he
      rcases List.append_eq_append_iff.1 he' with ⟨p, h2, h3⟩ | ⟨p, h2, h3⟩
      · cases p with
        | nil =>
          rw [List.append_nil] at h2
          rw [List.nil_append] at h3
          rw [← h2] at *
          rw [← h3] at hr
          exact ⟨hu, V_tail hc hr⟩
        | cons y p =>
          exfalso
          have hy := (List.cons.inj h3).1
          have := h1.2 y (by rw [h2]; simp)
          rw [← hy] at this
          omega
      · rw [h3] at hr
        have hul : 0 < u.length := List.length_pos_iff.2 h1.1
        have hpl := congrArg List.length h2
        rw [List.length_append, List.length_cons] at hpl
        obtain ⟨ha, hb⟩ := V_cut hc n p b (by omega) hr
        rw [h2]
        exact ⟨V_app hu ha, hb⟩

end Go.Proofs.YtjgmfgnfdaeelaaGreatDoor.Sp

namespace Go.Proofs.YtjgmfgnfdaeelaaGreatDoor.Sp
open Go.Proofs.YtjgmfgnfdaeelaaGreatDoor.Tk (S S_of S_list S_size S_toList S_app cls at_data len_data)
set_option linter.unusedVariables false

/-! Texts without 0 and CR. -/
def Wt (l : List UInt8) : Prop := V l ∧ (0 : UInt8) ∉ l ∧ (13 : UInt8) ∉ l
theorem Wt_nil : Wt [] := ⟨V_nil, by simp, by simp⟩
theorem Wt_app {a b : List UInt8} (ha : Wt a) (hb : Wt b) : Wt (a ++ b) :=
  ⟨V_app ha.1 hb.1, fun h => (List.mem_append.1 h).elim ha.2.1 hb.2.1, fun h => (List.mem_append.1 h).elim ha.2.2 hb.2.2⟩
theorem Wt_tail {c : UInt8} {r : List UInt8} (hc : c.toNat ≤ 127) (h : Wt (c :: r)) : Wt r :=
  ⟨V_tail hc h.1, fun hm => h.2.1 (List.mem_cons_of_mem _ hm), fun hm => h.2.2 (List.mem_cons_of_mem _ hm)⟩
theorem Wt_one {c : UInt8} {r : List UInt8} (hc : c.toNat ≤ 127) (h : Wt (c :: r)) : Wt [c] :=
  ⟨V_one hc, fun hm => h.2.1 (by rw [List.mem_singleton] at hm; rw [hm]; exact List.mem_cons_self ..), fun hm => h.2.2 (by rw [List.mem_singleton] at hm; rw [hm]; exact List.mem_cons_self ..)⟩
theorem Wt_cut {c : UInt8} (hc : c.toNat ≤ 127) {a b : List UInt8} (h : Wt (a ++ c :: b)) : Wt a ∧ Wt b := by
  obtain ⟨h1, h2⟩ := V_cut hc a.length a b (Nat.le_refl _) h.1
  exact ⟨⟨h1, fun hm => h.2.1 (List.mem_append_left _ hm), fun hm => h.2.2 (List.mem_append_left _ hm)⟩,
    ⟨h2, fun hm => h.2.1 (List.mem_append_right _ (List.mem_cons_of_mem _ hm)), fun hm => h.2.2 (List.mem_append_right _ (List.mem_cons_of_mem _ hm))⟩⟩
theorem Wt_96 : ∀ n : Nat, Wt (List.replicate n 96)
  | 0 => Wt_nil
  | n + 1 => by
    rw [List.replicate_succ]
    exact Wt_app (a := [96]) ⟨V_one (by decide), by decide, by decide⟩ (Wt_96 n)
theorem Wt_drop96 : ∀ (n : Nat) {t : List UInt8}, Wt (List.replicate n 96 ++ t) → Wt t
  | 0, t, h => h
  | n + 1, t, h => by
    rw [List.replicate_succ, List.cons_append] at h
    exact Wt_drop96 n (Wt_tail (by decide) h)

/-! Neighbours. -/
def prB (a b : UInt8) : Bool := (decide (a = 10) && (spB b || decide (b = 10))) || (decide (b = 10) && spB a)
theorem txB_pr (a b : UInt8) (r : List UInt8) : txB (a :: b :: r) = (!prB a b && txB (b :: r)) := txB_two a b r
theorem pr_left {a b : UInt8} (h : edB a = false) : prB a b = false := by
  unfold edB at h
  rw [Bool.or_eq_false_iff] at h
  unfold prB
  rw [h.1, h.2]
  simp
theorem pr_right {a b : UInt8} (h : edB b = false) : prB a b = false := by
  unfold edB at h
  rw [Bool.or_eq_false_iff] at h
  unfold prB
  rw [h.1, h.2]
  simp
theorem txB_tail {c : UInt8} {r : List UInt8} (h : txB (c :: r) = true) : txB r = true := by
  cases r with
  | nil => rfl
  | cons d r => rw [txB_pr, Bool.and_eq_true] at h; exact h.2
theorem txB_drop : ∀ (p : List UInt8) {t : List UInt8}, txB (p ++ t) = true → txB t = true
  | [], t, h => h
  | c :: p, t, h => txB_drop p (txB_tail h)
theorem txB_app : ∀ (a b : List UInt8), txB a = true → txB b = true → (∀ x y, a.getLast? = some x → b.head? = some y → prB x y = false) → txB (a ++ b) = true
  | [], b, _, hb, _ => hb
  | [x], [], _, _, _ => rfl
  | [x], y :: b, _, hb, h => by
    rw [show [x] ++ y :: b = x :: y :: b from rfl, txB_pr, h x y rfl rfl, hb]
    rfl
  | x :: z :: a, b, ha, hb, h => by
    rw [txB_pr, Bool.and_eq_true] at ha
    have ih := txB_app (z :: a) b ha.2 hb (fun x y h1 h2 => h x y (by rw [List.getLast?_cons_cons]; exact h1) h2)
    rw [List.cons_append] at ih
    rw [List.cons_append, List.cons_append, txB_pr, ih, Bool.and_true]
    exact ha.1
theorem txB_hard : ∀ a : List UInt8, (∀ x ∈ a, edB x = false) → txB a = true
  | [], _ => rfl
  | [_], _ => rfl
  | x :: y :: a, h => by
    rw [txB_pr, pr_left (h x (List.mem_cons_self ..)), txB_hard (y :: a) (fun z hz => h z (List.mem_cons_of_mem _ hz))]
    rfl
theorem hard96 : edB 96 = false := by decide
theorem hard_big {x : UInt8} (h : 128 ≤ x.toNat) : edB x = false := by
  unfold edB spB
  have e : ∀ c : UInt8, c.toNat < 128 → x ≠ c := fun c hc he => by rw [he] at h; omega
  rw [decide_eq_false (e 32 (by decide)), decide_eq_false (e 9 (by decide)), decide_eq_false (e 10 (by decide))]
  rfl
theorem hard_cls {d : UInt8} (h : cls d = 4) : edB d = false ∧ d.toNat ≤ 127 := by
  unfold cls at h
  split at h
  · cases h
  · split at h
    · cases h
    · split at h
      · rename_i h10 h9 hr
        refine ⟨?_, ?_⟩
        · unfold edB spB
          rw [decide_eq_false (fun e => h9 (Or.inr e)), decide_eq_false (fun e => h9 (Or.inl e)), decide_eq_false (fun e => h10 (Or.inl e))]
          rfl
        · simp only [UInt8.le_iff_toNat_le] at hr
          have k47 : (47 : UInt8).toNat = 47 := rfl
          have k64 : (64 : UInt8).toNat = 64 := rfl
          have k96 : (96 : UInt8).toNat = 96 := rfl
          have k126 : (126 : UInt8).toNat = 126 := rfl
          omega
      · cases h

/-! All texts of spans, however deep. -/
mutual
def nmOne : Sp → Prop
  | .mk q s l => Wt s ∧ (q = 1 → txB s = true) ∧ nmAll l
def nmAll : List Sp → Prop
  | [] => True
  | x :: r => nmOne x ∧ nmAll r
end
theorem nmOne_mk (q : Int) (s : List UInt8) (l : List Sp) : nmOne (.mk q s l) ↔ Wt s ∧ (q = 1 → txB s = true) ∧ nmAll l := by rw [nmOne]
theorem nmAll_cons (x : Sp) (r : List Sp) : nmAll (x :: r) ↔ nmOne x ∧ nmAll r := by rw [nmAll]
theorem nmAll_nil : nmAll [] := by rw [nmAll]; trivial
/-- How the first Text begins. -/
def Hd (t : List UInt8) (L : List Sp) : Prop := ∀ s kids R b, L = .mk 1 s kids :: R → s.head? = some b → t.head? = some b ∨ edB b = false
theorem nm_consT {a : List UInt8} (ha : Wt a) (hx : txB a = true) : ∀ {R : List Sp}, nmAll R → (∀ x s kids R' b, a.getLast? = some x → R = .mk 1 s kids :: R' → s.head? = some b → prB x b = false) → nmAll (consT a R)
  | [], _, _ => by rw [consT, nmAll_cons, nmOne_mk]; exact ⟨⟨ha, fun _ => hx, nmAll_nil⟩, nmAll_nil⟩
  | .mk k t kids :: r, h, hb => by
    have h' := h
    rw [nmAll_cons, nmOne_mk] at h
    show nmAll (if k = 1 then .mk 1 (a ++ t) kids :: r else .mk 1 a [] :: .mk k t kids :: r)
    split
    · rename_i hk
      subst hk
      rw [nmAll_cons, nmOne_mk]
      exact ⟨⟨Wt_app ha h.1.1, fun _ => txB_app a t hx (h.1.2.1 rfl) (fun x y h1 h2 => hb x t kids r y h1 rfl h2), h.1.2.2⟩, h.2⟩
    · rw [nmAll_cons, nmOne_mk]
      exact ⟨⟨ha, fun _ => hx, nmAll_nil⟩, h'⟩
theorem hd_consT {a : List UInt8} {t : List UInt8} (ha : ∀ b, a.head? = some b → t.head? = some b ∨ edB b = false) (hne : a ≠ []) (R : List Sp) : Hd t (consT a R) := by
  intro s kids R' b h hb
  obtain ⟨c, a', rfl⟩ := List.exists_cons_of_ne_nil hne
  have : s.head? = some c := by
    cases R with
    | nil => simp [consT] at h; rw [← h.1.1]; rfl
    | cons x l =>
      obtain ⟨k, t', kids'⟩ := x
      have h' : (if k = 1 then .mk 1 ((c :: a') ++ t') kids' :: l else .mk 1 (c :: a') [] :: .mk k t' kids' :: l) = Sp.mk 1 s kids :: R' := h
      split at h'
      · simp at h'; rw [← h'.1.1]; rfl
      · simp at h'; rw [← h'.1.1]; rfl
  rw [this] at hb
  have hcb : c = b := by simpa using hb
  exact ha b (by rw [← hcb]; rfl)
/-- Bytes of characters of more than a byte are read as they are. -/
theorem Rdr_big (e l : Bool) : ∀ (u r : List UInt8), u ≠ [] → (∀ x ∈ u, 128 ≤ x.toNat) → Rdr e l (u ++ r) = (consT u (Rdr e l r).1, (Rdr e l r).2)
  | [], r, h, _ => absurd rfl h
  | x :: u, r, _, hx => by
    have hb := hx x (List.mem_cons_self ..)
    have e1 : ∀ c : UInt8, c.toNat < 128 → x ≠ c := fun c hc he => by rw [he] at hb; omega
    have hs : stp e l x (u ++ r) = .text [x] (u ++ r) := by
      unfold stp stepOf
      rw [if_neg (by rintro (⟨h, _⟩ | ⟨h, _⟩); exact e1 42 (by decide) h; exact e1 93 (by decide) h), if_neg (fun h => e1 92 (by decide) h.1), if_neg (e1 96 (by decide)), if_neg (e1 42 (by decide)), if_neg (fun h => e1 91 (by decide) h.1)]
    rw [List.cons_append, Rdr_cons, hs]
    show (consT [x] (Rdr e l (u ++ r)).1, (Rdr e l (u ++ r)).2) = _
    by_cases hu : u = []
    · subst hu; rfl
    · rw [Rdr_big e l u r hu (fun y hy => hx y (List.mem_cons_of_mem _ hy)), consT_consT]
      rfl

theorem Wt_strip {x : List UInt8} (h : Wt x) : Wt (strip x) := by
  unfold strip
  split
  · rename_i hc
    obtain ⟨h1, h2, h3⟩ := hc
    cases x with
    | nil => cases h2
    | cons a x =>
      have ha : a = 32 := by simpa using h2
      subst ha
      rcases List.eq_nil_or_concat x with rfl | ⟨m, z, rfl⟩
      · exfalso; simp [onlySp] at h1
      · rw [List.concat_eq_append] at h h3 ⊢
        have hz : z = 32 := by
          rw [← List.cons_append, List.getLast?_append] at h3
          simpa using h3
        subst hz
        have h4 := Wt_tail (c := 32) (by decide) h
        have h5 := (Wt_cut (c := 32) (by decide) (a := m) (b := []) h4).1
        show Wt ((m ++ [32]).dropLast)
        rw [List.dropLast_concat]
        exact h5
  · exact h
def Nrm (e l : Bool) (t : List UInt8) : Prop := nmAll (Rdr e l t).1 ∧ Wt (Rdr e l t).2 ∧ txB (Rdr e l t).2 = true ∧ Hd t (Rdr e l t).1
theorem stp_norm (e l : Bool) (c : UInt8) (r : List UInt8) (hc : c.toNat ≤ 127) (hW : Wt (c :: r)) (hX : txB (c :: r) = true) (ih : ∀ e l, Nrm e l r) :
    (∀ a t', stp e l c r = .text a t' → Wt a ∧ txB a = true ∧ Wt t' ∧ txB t' = true ∧ a ≠ [] ∧ (∀ b, a.head? = some b → (c :: r).head? = some b ∨ edB b = false) ∧ (∀ x y, a.getLast? = some x → t'.head? = some y ∨ edB y = false → prB x y = false)) ∧
    (∀ x t', stp e l c r = .span x t' → nmOne x ∧ Wt t' ∧ txB t' = true ∧ x.kind ≠ 1) := by
  have hr := Wt_tail hc hW
  have hxr := txB_tail hX
  have hplain : (∀ a t', (Stp.text [c] r) = .text a t' → Wt a ∧ txB a = true ∧ Wt t' ∧ txB t' = true ∧ a ≠ [] ∧ (∀ b, a.head? = some b → (c :: r).head? = some b ∨ edB b = false) ∧ (∀ x y, a.getLast? = some x → t'.head? = some y ∨ edB y = false → prB x y = false)) ∧
      (∀ x t', (Stp.text [c] r) = .span x t' → nmOne x ∧ Wt t' ∧ txB t' = true ∧ x.kind ≠ 1) := by
    refine ⟨fun a t' h => ?_, fun x t' h => (by cases h)⟩
    simp only [Stp.text.injEq] at h
    obtain ⟨rfl, rfl⟩ := h
    refine ⟨Wt_one hc hW, rfl, hr, hxr, by simp, fun b hb => Or.inl hb, fun x y hx hy => ?_⟩
    have hx' : c = x := by simpa using hx
    subst hx'
    rcases hy with hy | hy
    · cases r with
      | nil => cases hy
      | cons d r =>
        have hd : d = y := by simpa using hy
        subst hd
        rw [txB_pr, Bool.and_eq_true, Bool.not_eq_true'] at hX
        exact hX.1
    · exact pr_right hy
  unfold stp stepOf
  split
  · exact ⟨fun a t' h => (by cases h), fun x t' h => (by cases h)⟩
  · split
    · rename_i hn he
      refine ⟨fun a t' h => ?_, fun x t' h => (by cases h)⟩
      simp only [Stp.text.injEq] at h
      obtain ⟨rfl, rfl⟩ := h
      cases r with
      | nil => simp at he
      | cons d r =>
        have h4 : cls d = 4 := by simpa using he.2
        obtain ⟨hd1, hd2⟩ := hard_cls h4
        refine ⟨Wt_one hd2 hr, rfl, Wt_tail hd2 hr, txB_tail hxr, by simp, fun b hb => ?_, fun x y hx hy => ?_⟩
        · have : d = b := by simpa using hb
          exact Or.inr (by rw [← this]; exact hd1)
        · have : d = x := by simpa using hx
          rw [← this]
          exact pr_left hd1
    · split
      · rename_i hc96
        subst hc96
        have hp := ticks_pos (r := r) rfl
        have htk := List.take_append_drop (ticks (96 :: r)) (96 :: r)
        rw [ticks_take] at htk
        have hWd : Wt ((96 :: r).drop (ticks (96 :: r))) := Wt_drop96 (ticks (96 :: r)) (by rw [htk]; exact hW)
        have hXd : txB ((96 :: r).drop (ticks (96 :: r))) = true := txB_drop (List.replicate (ticks (96 :: r)) 96) (by rw [htk]; exact hX)
        cases hcode : code (ticks (96 :: r)) (96 :: r).length [] ((96 :: r).drop (ticks (96 :: r))) with
        | none =>
          refine ⟨fun a t' h => ?_, fun x t' h => (by cases h)⟩
          simp only [Stp.text.injEq] at h
          obtain ⟨rfl, rfl⟩ := h
          have h96 : ∀ x ∈ List.replicate (ticks (96 :: r)) (96 : UInt8), edB x = false := fun x hx => by rw [List.eq_of_mem_replicate hx]; exact hard96
          refine ⟨Wt_96 _, txB_hard _ h96, hWd, hXd, ?_, fun b hb => Or.inr (h96 b (List.mem_of_head? hb)), fun x y hx _ => pr_left (h96 x (List.mem_of_getLast? hx))⟩
          intro e0
          have := congrArg List.length e0
          rw [List.length_replicate, List.length_nil] at this
          omega
        | some q =>
          obtain ⟨x, t1⟩ := q
          refine ⟨fun a t' h => (by cases h), fun y t' h => ?_⟩
          simp only [Stp.span.injEq] at h
          obtain ⟨rfl, rfl⟩ := h
          obtain ⟨_, _, y, h3, h4, _⟩ := code_some _ hp _ _ _ _ _ hcode
          rw [List.nil_append] at h3
          subst h3
          obtain ⟨n, hn⟩ : ∃ n, ticks (96 :: r) = n + 1 := ⟨ticks (96 :: r) - 1, by omega⟩
          have hsp : (96 :: r).drop (ticks (96 :: r)) = x ++ 96 :: (List.replicate n 96 ++ t1) := by
            rw [h4, hn, List.replicate_succ]
            simp
          rw [hsp] at hWd hXd
          obtain ⟨w1, w2⟩ := Wt_cut (c := 96) (by decide) hWd
          refine ⟨?_, Wt_drop96 n w2, txB_drop (x ++ 96 :: List.replicate n 96) (by simpa using hXd), by show (2 : Int) ≠ 1; decide⟩
          rw [nmOne_mk]
          exact ⟨Wt_strip w1, fun h => absurd h (by decide), nmAll_nil⟩
      · split
        · split
          · rename_i k kids t1 hrd
            obtain ⟨i1, i2, i3, _⟩ := ih true l
            rw [hrd] at i1 i2 i3
            refine ⟨fun a t' h => (by cases h), fun y t' h => ?_⟩
            simp only [Stp.span.injEq] at h
            obtain ⟨rfl, rfl⟩ := h
            refine ⟨?_, Wt_tail (c := 42) (by decide) i2, txB_tail i3, by show (3 : Int) ≠ 1; decide⟩
            rw [nmOne_mk]
            exact ⟨Wt_nil, fun h => absurd h (by decide), i1⟩
          · exact hplain
        · split
          · split
            · rename_i k kids t1 hrd
              obtain ⟨i1, i2, i3, _⟩ := ih e true
              rw [hrd] at i1 i2 i3
              cases hd : dest t1 with
              | none => exact hplain
              | some q =>
                obtain ⟨d, t2⟩ := q
                obtain ⟨d1, d2, d3⟩ := dest_some hd
                refine ⟨fun a t' h => (by cases h), fun y t' h => ?_⟩
                simp only [Stp.span.injEq] at h
                obtain ⟨rfl, rfl⟩ := h
                have w1 := Wt_tail (c := 93) (by decide) i2
                rw [d3] at w1
                have w2 := Wt_tail (c := 40) (by decide) w1
                obtain ⟨w3, w4⟩ := Wt_cut (c := 41) (by decide) w2
                have x1 := txB_tail i3
                rw [d3] at x1
                refine ⟨?_, w4, txB_drop (40 :: (d ++ [41])) (by simpa using x1), by show (4 : Int) ≠ 1; decide⟩
                rw [nmOne_mk]
                exact ⟨w3, fun h => absurd h (by decide), i1⟩
            · exact hplain
          · exact hplain
theorem Rdr_norm : ∀ (n : Nat) (e l : Bool) (t : List UInt8), t.length ≤ n → Wt t → txB t = true → Nrm e l t
  | n, e, l, [], _, hW, hX => ⟨nmAll_nil, hW, hX, fun s kids R b h => by cases h⟩
  | 0, e, l, c :: r, h, _, _ => by simp at h
  | n + 1, e, l, c :: r, h, hW, hX => by
    rw [List.length_cons] at h
    obtain ⟨u, r0, he, hu, hr0, h1 | h1⟩ := V_first hW.1
    · have hc := h1.2
      have ih := fun e l => Rdr_norm n e l r (by omega) (Wt_tail hc hW) (txB_tail hX)
      have hl := stp_len e l c r
      have hs := stp_norm e l c r hc hW hX ih
      unfold Nrm
      rw [Rdr_cons]
      cases hst : stp e l c r with
      | stop => exact ⟨nmAll_nil, hW, hX, fun s kids R b h => by cases h⟩
      | text a t' =>
        obtain ⟨a1, a2, a3, a4, a5, a6, a7⟩ := hs.1 a t' hst
        have hlt := (hl.1 a t' hst).1
        obtain ⟨i1, i2, i3, i4⟩ := Rdr_norm n e l t' (by omega) a3 a4
        refine ⟨?_, i2, i3, hd_consT a6 a5 _⟩
        exact nm_consT a1 a2 i1 (fun x s kids R' b hx hR hb => a7 x b hx (i4 s kids R' b hR hb))
      | span x t' =>
        obtain ⟨a1, a2, a3, a4⟩ := hs.2 x t' hst
        have hlt := (hl.2 x t' hst).1
        obtain ⟨i1, i2, i3, i4⟩ := Rdr_norm n e l t' (by omega) a2 a3
        refine ⟨?_, i2, i3, ?_⟩
        · show nmAll (x :: (Rdr e l t').1)
          rw [nmAll_cons]
          exact ⟨a1, i1⟩
        · intro s kids R b hh hb
          have h5 : x = .mk 1 s kids := (List.cons.inj hh).1
          exact absurd (by rw [h5]; rfl) a4
    · have hul : 0 < u.length := List.length_pos_iff.2 h1.1
      have hlen := congrArg List.length he
      rw [List.length_cons, List.length_append] at hlen
      have hWr : Wt r0 := ⟨hr0, fun hm => hW.2.1 (by rw [he]; exact List.mem_append_right _ hm), fun hm => hW.2.2 (by rw [he]; exact List.mem_append_right _ hm)⟩
      have hWu : Wt u := ⟨hu, fun hm => hW.2.1 (by rw [he]; exact List.mem_append_left _ hm), fun hm => hW.2.2 (by rw [he]; exact List.mem_append_left _ hm)⟩
      rw [he] at hX
      obtain ⟨i1, i2, i3, i4⟩ := Rdr_norm n e l r0 (by omega) hWr (txB_drop u hX)
      have hhard : ∀ x ∈ u, edB x = false := fun x hx => hard_big (h1.2 x hx)
      rw [he]
      unfold Nrm
      rw [Rdr_big e l u r0 h1.1 h1.2]
      refine ⟨nm_consT hWu (txB_hard u hhard) i1 (fun x s kids R' b hx _ _ => pr_left (hhard x (List.mem_of_getLast? hx))), i2, i3, hd_consT (fun b hb => Or.inr (hhard b (List.mem_of_head? hb))) h1.1 _⟩

end Go.Proofs.YtjgmfgnfdaeelaaGreatDoor.Sp

namespace Go.Proofs.YtjgmfgnfdaeelaaGreatDoor.Sp
open Go.RowKit
open Go.Proofs.YtjgmfgnfdaeelaaGreatDoor.Tk (S S_of S_list S_size S_toList S_app ret_int eq8 ne8 at_data len_data drop_all)
set_option linter.unusedVariables false

theorem c1_pair (a b : UInt8) : ((b == 10 && edB a) || (a == 10 && edB b)) = prB a b := by
  have e : ∀ a : UInt8, (a == 10) = decide (a = 10) := fun a => by rw [Bool.eq_iff_iff, beq_iff_eq, decide_eq_true_iff]
  rw [e, e]
  unfold prB edB
  generalize spB a = sa at *
  generalize spB b = sb at *
  generalize decide (a = 10) = da at *
  generalize decide (b = 10) = db at *
  revert sa sb da db
  decide
theorem c1_txB (s : ByteArray) : ∀ n k : Nat, s.size - k ≤ n → (txB (s.data.toList.drop k) = true ↔ ∀ j (h0 : 0 < j) (h : j < s.size), k < j → prB (s[j - 1]'(by omega)) s[j] = false)
  | 0, k, hn => by
    rw [drop_all s k (by omega)]
    exact ⟨fun _ j h0 h hk => by omega, fun _ => rfl⟩
  | n + 1, k, hn => by
    by_cases hk : k + 1 < s.size
    · have ih := c1_txB s n (k + 1) (by omega)
      rw [at_data s (k + 1) hk] at ih
      rw [at_data s k (by omega), at_data s (k + 1) hk, txB_pr, Bool.and_eq_true, ih, Bool.not_eq_true']
      constructor
      · rintro ⟨h1, h2⟩ j h0 h hkj
        by_cases e : j = k + 1
        · subst e
          simpa using h1
        · exact h2 j h0 h (by omega)
      · intro h
        refine ⟨?_, fun j h0 hj hkj => h j h0 hj (by omega)⟩
        have := h (k + 1) (by omega) hk (by omega)
        simpa using this
    · by_cases hk0 : k < s.size
      · rw [at_data s k hk0, drop_all s (k + 1) hk]
        exact ⟨fun _ j h0 h hkj => by omega, fun _ => rfl⟩
      · rw [drop_all s k hk0]
        exact ⟨fun _ j h0 h hkj => by omega, fun _ => rfl⟩
theorem c1_has (s : ByteArray) : hsB 13 s.data.toList = false ↔ ∀ j (h : j < s.size), s[j] ≠ 13 := by
  unfold hsB
  rw [List.any_eq_false]
  constructor
  · intro h j hj e
    have hm : s[j] ∈ s.data.toList := List.mem_of_mem_drop (i := j) (by rw [at_data s j hj]; exact List.mem_cons_self ..)
    exact h _ hm (by rw [e]; rfl)
  · intro h x hx e
    obtain ⟨j, hj, he⟩ := List.getElem_of_mem hx
    rw [len_data] at hj
    refine h j hj ?_
    have : s[j] = s.data.toList[j]'(by rw [len_data]; exact hj) := rfl
    rw [this, he]
    exact of_decide_eq_true e
theorem c1_bad (s : ByteArray) : (∀ k (hk : k < s.size), badI s k = false) ↔
    (∀ j (h : j < s.size), s[j] ≠ 13) ∧ (∀ j (h : j < s.size), j = 0 ∨ j = s.size - 1 → edB s[j] = false) ∧ (∀ j (h0 : 0 < j) (h : j < s.size), 0 < j → prB (s[j - 1]'(by omega)) s[j] = false) := by
  have key : ∀ k (hk : k < s.size), (badI s k = false ↔ s[k] ≠ 13 ∧ ((k = 0 ∨ k = s.size - 1) → edB s[k] = false) ∧ (∀ h0 : 0 < k, prB (s[k - 1]'(by omega)) s[k] = false)) := by
    intro k hk
    unfold badI
    rw [dif_pos hk, Bool.or_eq_false_iff, Bool.or_eq_false_iff, c1_pair, beq_eq_false_iff_ne, Bool.and_eq_false_iff, Bool.and_eq_false_iff, Bool.or_eq_false_iff, beq_eq_false_iff_ne, beq_eq_false_iff_ne, decide_eq_false_iff_not]
    constructor
    · rintro ⟨⟨h1, h2⟩, h3⟩
      refine ⟨h1, fun he => ?_, fun h0 => ?_⟩
      · rcases h2 with h2 | h2
        · rcases he with he | he
          · exact absurd he h2.1
          · exact absurd he h2.2
        · exact h2
      · rcases h3 with h3 | h3
        · exact absurd h0 h3
        · exact h3
    · rintro ⟨h1, h2, h3⟩
      refine ⟨⟨h1, ?_⟩, ?_⟩
      · by_cases hk0 : k = 0
        · exact Or.inr (h2 (Or.inl hk0))
        · by_cases hk1 : k = s.size - 1
          · exact Or.inr (h2 (Or.inr hk1))
          · exact Or.inl ⟨hk0, hk1⟩
      · by_cases h0 : 0 < k
        · exact Or.inr (h3 h0)
        · exact Or.inl h0
  constructor
  · intro h
    exact ⟨fun j hj => ((key j hj).1 (h j hj)).1, fun j hj => ((key j hj).1 (h j hj)).2.1, fun j h0 hj _ => ((key j hj).1 (h j hj)).2.2 h0⟩
  · rintro ⟨h1, h2, h3⟩ k hk
    exact (key k hk).2 ⟨h1 k hk, h2 k hk, fun h0 => h3 k h0 hk h0⟩

theorem cln_right (s : ByteArray) (hne : s.size ≠ 0) : rtB [.mk 1 s.data.toList []] = clnB s := by
  have hp : 0 < s.size := by omega
  have hl : s.size - 1 < s.size := by omega
  have e1 : rtB [.mk 1 s.data.toList []] = ((decide (Utf.chk s = 0) && (txB s.data.toList && (!s.data.toList.isEmpty && !hsB 13 s.data.toList))) && (!edB (s.data.toList.headD 0) && !edB (s.data.toList.getLastD 0))) := by
    unfold rtB
    rw [okAll_cons, okAll, okOne_eq]
    unfold endB hdB ltB ckB ttB
    simp only [Sp.kind, Sp.s, Sp.kids, S_of]
    simp
  have hh : s.data.toList.headD 0 = s[0] := by
    rw [List.headD_eq_head?_getD, head_data s hp]
    rfl
  have hla : s.data.toList.getLastD 0 = s[s.size - 1] := by
    have := last_data s hl
    rw [List.getLastD_eq_getLast?, this]
    rfl
  have hem : s.data.toList.isEmpty = false := by
    rw [List.isEmpty_eq_false_iff]
    intro e
    have := congrArg List.length e
    rw [len_data, List.length_nil] at this
    omega
  rw [e1, hh, hla, hem]
  unfold clnB
  rw [Bool.eq_iff_iff, Bool.and_eq_true, Bool.and_eq_true, Bool.and_eq_true, Bool.and_eq_true, Bool.and_eq_true, Bool.and_eq_true, List.all_eq_true]
  have hx := c1_txB s s.size 0 (by omega)
  rw [List.drop_zero] at hx
  have hb : (∀ x ∈ List.range s.size, (!badI s x) = true) ↔ ∀ k (hk : k < s.size), badI s k = false :=
    ⟨fun h k hk => by simpa using h k (List.mem_range.2 hk), fun h x hx => by rw [h x (List.mem_range.1 hx)]; rfl⟩
  rw [hb, c1_bad, hx, Bool.not_eq_true', Bool.not_eq_true', Bool.not_eq_true', Bool.not_eq_true', c1_has]
  constructor
  · rintro ⟨⟨h1, h2, _, h3⟩, h4, h5⟩
    refine ⟨h1, h3, fun j hj he => ?_, h2⟩
    rcases he with rfl | rfl
    · exact h4
    · exact h5
  · rintro ⟨h1, h2, h3, h4⟩
    exact ⟨⟨h1, h4, rfl, h2⟩, h3 0 hp (Or.inl rfl), h3 _ hl (Or.inr rfl)⟩
end Go.Proofs.YtjgmfgnfdaeelaaGreatDoor.Sp
