/-
  PLAIN: texts behind one another are a text; a text cut within a character isn't one.
-/
import Derived.Test.YtlnagfpkhojcmaaUtfEnc
namespace Go.Proofs.Ytlnagfpkhojcmaa.Utf
open Go.RowKit
set_option linter.unusedVariables false

theorem conts_congr (f g : Nat → Nat) (j : Nat) (h : ∀ i, i ≤ j → g i = f i) : conts g j = conts f j ∧ acc g j = acc f j := by
  induction j with
  | zero => exact ⟨rfl, by rw [acc_zero, acc_zero, h 0 (Nat.le_refl _)]⟩
  | succ j ih =>
    obtain ⟨h1, h2⟩ := ih (fun i hi => h i (by omega))
    exact ⟨by rw [conts_succ, conts_succ, h1, h (j + 1) (Nat.le_refl _)], by rw [acc_succ, acc_succ, h2, h (j + 1) (Nat.le_refl _)]⟩
theorem nx_congr (f g : Nat → Nat) (m m' : Nat) (h : (nx f m).2 ≠ 0) (hg : ∀ i, i < (nx f m).2 → g i = f i) (hm : (nx f m).2 ≤ m') : nx g m' = nx f m := by
  obtain ⟨e, h0, h1, h2, h3⟩ := nx_parts f m h
  rw [e] at hg hm ⊢
  have hg' : ∀ i, i < ln (f 0) → g i = f i := hg
  have hm' : ln (f 0) ≤ m' := hm
  have e0 : g 0 = f 0 := hg' 0 h0
  obtain ⟨c1, c2⟩ := conts_congr f g (ln (f 0) - 1) (fun i hi => hg' i (by omega))
  rw [← e0] at h0 hm' h2 h3 c1 c2 ⊢
  rw [nx_yes g m' h0 hm' (by rw [c1]; exact h2) (by rw [c2]; exact h3), c2]
theorem conts_at (f : Nat → Nat) (i j : Nat) (h : conts f j = true) (h1 : 1 ≤ i) (h2 : i ≤ j) : 128 ≤ f i ∧ f i ≤ 191 := by
  obtain ⟨i', rfl⟩ : ∃ i', i = i' + 1 := ⟨i - 1, by omega⟩
  exact (conts_more f i' (conts_le f (i' + 1) j h h2)).2

theorem bt_out (t : ByteArray) (k : Nat) (h : t.size ≤ k) : bt t k = 0 := by
  unfold bt
  rw [List.getD_eq_getElem?_getD, List.getElem?_eq_none (by simpa using h)]
  rfl
theorem bt_append_right (a b : ByteArray) (k : Nat) : bt (a ++ b) (a.size + k) = bt b k := by
  unfold bt
  rw [List.getD_eq_getElem?_getD, List.getD_eq_getElem?_getD, ByteArray.data_append, Array.toList_append, List.getElem?_append_right (by simp)]
  congr 3
  simp
theorem bt_append_left (a b : ByteArray) (k : Nat) (h : k < a.size) : bt (a ++ b) k = bt a k := by
  unfold bt
  rw [List.getD_eq_getElem?_getD, List.getD_eq_getElem?_getD, ByteArray.data_append, Array.toList_append, List.getElem?_append_left (by simpa using h)]
theorem bt_extract (t : ByteArray) (i m k : Nat) (hm : m ≤ t.size) (h : i + k < m) : bt (t.extract i m) k = bt t (i + k) := by
  unfold bt
  rw [List.getD_eq_getElem?_getD, List.getD_eq_getElem?_getD, ByteArray.data_extract, Array.toList_extract, List.extract_eq_take_drop, List.getElem?_take_of_lt (by omega), List.getElem?_drop]
theorem bt_suffix (t : ByteArray) (i k : Nat) : bt (t.extract i t.size) k = bt t (i + k) := by
  by_cases h : i + k < t.size
  · exact bt_extract t i t.size k (Nat.le_refl _) h
  · rw [bt_out t (i + k) (by omega), bt_out _ _ (by rw [ByteArray.size_extract]; omega)]

theorem nxt_suffix (t : ByteArray) (i k : Nat) : nxt (t.extract i t.size) k = nxt t (i + k) := by
  unfold nxt
  rw [ByteArray.size_extract]
  have e1 : (fun j => bt (t.extract i t.size) (k + j)) = fun j => bt t (i + k + j) := by
    funext j; rw [bt_suffix, Nat.add_assoc]
  rw [e1, show min t.size t.size - i - k = t.size - (i + k) by omega]
theorem nxt_append_right (a b : ByteArray) (k : Nat) : nxt (a ++ b) (a.size + k) = nxt b k := by
  unfold nxt
  have e1 : (fun j => bt (a ++ b) (a.size + k + j)) = fun j => bt b (k + j) := by
    funext j; rw [Nat.add_assoc, bt_append_right]
  rw [e1, ByteArray.size_append, show a.size + b.size - (a.size + k) = b.size - k by omega]
theorem nxt_append_left (a b : ByteArray) (k : Nat) (h : (nxt a k).2 ≠ 0) : nxt (a ++ b) k = nxt a k := by
  have hle := nxt_le a k
  refine nx_congr (fun i => bt a (k + i)) _ (a.size - k) _ h (fun i hi => ?_) ?_
  · have hi' : i < (nxt a k).2 := hi
    exact bt_append_left a b (k + i) (by omega)
  · show (nxt a k).2 ≤ _
    rw [ByteArray.size_append]; omega
theorem nxt_front (t : ByteArray) (m k : Nat) (hm : m ≤ t.size) (h : (nxt t k).2 ≠ 0) (hk : k + (nxt t k).2 ≤ m) : nxt (t.extract 0 m) k = nxt t k := by
  refine nx_congr (fun i => bt t (k + i)) _ (t.size - k) _ h (fun i hi => ?_) ?_
  · have hi' : i < (nxt t k).2 := hi
    show bt (t.extract 0 m) (k + i) = bt t (k + i)
    rw [bt_extract t 0 m (k + i) hm (by omega), Nat.zero_add]
  · show (nxt t k).2 ≤ _
    rw [ByteArray.size_extract]; omega
theorem nxt_parts (t : ByteArray) (k : Nat) (h : (nxt t k).2 ≠ 0) : (nxt t k).2 = ln (bt t k) ∧ conts (fun i => bt t (k + i)) (ln (bt t k) - 1) = true := by
  obtain ⟨e, h0, h1, h2, h3⟩ := nx_parts (fun i => bt t (k + i)) (t.size - k) h
  exact ⟨congrArg Prod.snd e, h2⟩
theorem nxt_cut (t : ByteArray) (m k : Nat) (hm : m ≤ t.size) (h : (nxt t k).2 ≠ 0) (h1 : k < m) (h2 : m < k + (nxt t k).2) : (nxt (t.extract 0 m) k).2 = 0 := by
  have e := (nxt_parts t k h).1
  have : nxt (t.extract 0 m) k = (0, 0) := nx_none _ _ (Or.inr (Or.inr (by
    show (t.extract 0 m).size - k < ln (bt (t.extract 0 m) k)
    rw [bt_extract t 0 m k hm (by omega), Nat.zero_add, ← e, ByteArray.size_extract]; omega)))
  rw [this]
theorem nxt_within (t : ByteArray) (m k : Nat) (h : (nxt t k).2 ≠ 0) (h1 : k < m) (h2 : m < k + (nxt t k).2) : (nxt t m).2 = 0 := by
  obtain ⟨e, hc⟩ := nxt_parts t k h
  have h3 := conts_at _ (m - k) _ hc (by omega) (by omega)
  have h4 : 128 ≤ bt t m ∧ bt t m ≤ 191 := by
    have e5 : k + (m - k) = m := by omega
    simp only [e5] at h3
    exact h3
  have e6 : ln (bt t m) = 0 := by unfold ln; (repeat' split) <;> omega
  have : nxt t m = (0, 0) := nx_none _ _ (Or.inr (Or.inl e6))
  rw [this]

theorem goesAt_suffix (t : ByteArray) (i k : Nat) : goesAt (t.extract i t.size) k = goesAt t (i + k) := by
  have hsz : (t.extract i t.size).size = t.size - i := by rw [ByteArray.size_extract]; omega
  obtain ⟨m, hm⟩ : ∃ m, t.size - (i + k) = m := ⟨_, rfl⟩
  induction m using Nat.strongRecOn generalizing k with
  | ind m ih =>
    by_cases h : t.size ≤ i + k
    · rw [goesAt_end _ _ h, goesAt_end _ _ (by omega)]
    · have e := nxt_suffix t i k
      by_cases h0 : (nxt t (i + k)).2 = 0
      · rw [goesAt_bad t _ (by omega) h0, goesAt_bad _ k (by omega) (by rw [e]; exact h0)]
      · rw [← goesAt_step t _ (by omega) h0, ← goesAt_step _ k (by omega) (by rw [e]; exact h0), e, Nat.add_assoc]
        exact ih _ (by omega) _ rfl
theorem goesAt_append_right (a b : ByteArray) (k : Nat) : goesAt (a ++ b) (a.size + k) = goesAt b k := by
  have hsz := ByteArray.size_append (a := a) (b := b)
  obtain ⟨m, hm⟩ : ∃ m, b.size - k = m := ⟨_, rfl⟩
  induction m using Nat.strongRecOn generalizing k with
  | ind m ih =>
    by_cases h : b.size ≤ k
    · rw [goesAt_end _ _ h, goesAt_end _ _ (by omega)]
    · have e := nxt_append_right a b k
      by_cases h0 : (nxt b k).2 = 0
      · rw [goesAt_bad b _ (by omega) h0, goesAt_bad _ _ (by omega) (by rw [e]; exact h0)]
      · rw [← goesAt_step b _ (by omega) h0, ← goesAt_step _ _ (by omega) (by rw [e]; exact h0), e, Nat.add_assoc]
        exact ih _ (by omega) _ rfl
theorem goesAt_append_left (a b : ByteArray) (k : Nat) (hk : k ≤ a.size) (h : goesAt a k = true) : goesAt (a ++ b) k = goesAt (a ++ b) a.size := by
  have hsz := ByteArray.size_append (a := a) (b := b)
  obtain ⟨m, hm⟩ : ∃ m, a.size - k = m := ⟨_, rfl⟩
  induction m using Nat.strongRecOn generalizing k with
  | ind m ih =>
    by_cases h1 : k = a.size
    · rw [h1]
    · have h0 : (nxt a k).2 ≠ 0 := fun h0 => by rw [goesAt_bad a k (by omega) h0] at h; cases h
      have e := nxt_append_left a b k h0
      have hle := nxt_le a k
      rw [← goesAt_step _ k (by omega) (by rw [e]; exact h0), e]
      exact ih _ (by omega) _ (by omega) (by rw [goesAt_step a k (by omega) h0]; exact h) rfl
theorem goes_join (a b : ByteArray) (ha : goesAt a 0 = true) (hb : goesAt b 0 = true) : goesAt (a ++ b) 0 = true := by
  rw [goesAt_append_left a b 0 (Nat.zero_le _) ha, ← hb]
  exact goesAt_append_right a b 0

/-- p is where a character begins, or the end; each part that goes so far is gone through by p. -/
def Bnd (t : ByteArray) (p : Nat) : Prop := goesAt t p = true ∧ p ≤ t.size ∧ ∀ m, p ≤ m → m ≤ t.size → goesAt (t.extract 0 m) 0 = goesAt (t.extract 0 m) p
def Cut (t : ByteArray) (k : Nat) : Prop := ∃ q, Bnd t q ∧ q < k ∧ k < q + (nxt t q).2
theorem Bnd.start (t : ByteArray) (h : goesAt t 0 = true) : Bnd t 0 := ⟨h, Nat.zero_le _, fun _ _ _ => rfl⟩
theorem Bnd.nonzero {t : ByteArray} {p : Nat} (h : Bnd t p) (hp : p < t.size) : (nxt t p).2 ≠ 0 := fun h0 => by
  have h1 := h.1
  rw [goesAt_bad t p hp h0] at h1; cases h1
theorem Bnd.step {t : ByteArray} {p : Nat} (h : Bnd t p) (hp : p < t.size) : Bnd t (p + (nxt t p).2) := by
  have h0 := h.nonzero hp
  have hle := nxt_le t p
  refine ⟨by rw [goesAt_step t p hp h0]; exact h.1, by omega, fun m h1 h2 => ?_⟩
  have e := nxt_front t m p h2 h0 h1
  have hs : (t.extract 0 m).size = m := by rw [ByteArray.size_extract]; omega
  rw [h.2.2 m (by omega) h2, ← goesAt_step (t.extract 0 m) p (by omega) (by rw [e]; exact h0), e]
theorem Bnd.parts {t : ByteArray} {k : Nat} (h : Bnd t k) : goesAt (t.extract 0 k) 0 = true ∧ goesAt (t.extract k t.size) 0 = true := by
  have hs : (t.extract 0 k).size = k := by rw [ByteArray.size_extract]; have := h.2.1; omega
  exact ⟨by rw [h.2.2 k (Nat.le_refl _) h.2.1]; exact goesAt_end _ _ (by omega), by rw [goesAt_suffix, Nat.add_zero]; exact h.1⟩
theorem Cut.parts {t : ByteArray} {k : Nat} (h : Cut t k) (hk : k ≤ t.size) : goesAt (t.extract 0 k) 0 = false ∧ goesAt (t.extract k t.size) 0 = false := by
  obtain ⟨q, hq, h1, h2⟩ := h
  have hle := nxt_le t q
  have h0 := hq.nonzero (by omega)
  have hs : (t.extract 0 k).size = k := by rw [ByteArray.size_extract]; omega
  refine ⟨?_, ?_⟩
  · rw [hq.2.2 k (by omega) hk]
    exact goesAt_bad _ _ (by omega) (nxt_cut t k q hk h0 h1 h2)
  · rw [goesAt_suffix, Nat.add_zero]
    exact goesAt_bad _ _ (by omega) (nxt_within t k q h0 h1 h2)

theorem chk_zero_iff (t : ByteArray) : chk t = 0 ↔ ¬ 1048576 < (t.size : Int) ∧ zeroB t = false ∧ goesAt t 0 = true := by
  unfold chk
  split
  · rename_i h; exact ⟨fun h1 => by omega, fun h1 => absurd h h1.1⟩
  · rename_i h
    split
    · rename_i h2; exact ⟨fun h1 => by omega, fun h1 => by rw [h2] at h1; cases h1.2.1⟩
    · rename_i h2
      split
      · rename_i h3; exact ⟨fun _ => ⟨h, by simpa using h2, h3⟩, fun _ => rfl⟩
      · rename_i h3; exact ⟨fun h1 => by omega, fun h1 => absurd h1.2.2 h3⟩
theorem zero_join (a b : ByteArray) (ha : zeroB a = false) (hb : zeroB b = false) : zeroB (a ++ b) = false := by
  unfold zeroB at *
  rw [decide_eq_false_iff_not] at *
  rw [ByteArray.data_append, Array.toList_append, List.mem_append]
  exact fun h => h.elim ha hb
theorem zero_part (t : ByteArray) (i m : Nat) (h : zeroB t = false) : zeroB (t.extract i m) = false := by
  unfold zeroB at *
  rw [decide_eq_false_iff_not] at *
  exact fun h1 => h (mem_extract h1)
theorem chk_parts {t : ByteArray} {k : Nat} {whole : Bool} (hs : t.size ≤ 5000) (hz : zeroB t = false) (h : goesAt (t.extract 0 k) 0 = whole ∧ goesAt (t.extract k t.size) 0 = whole) :
    (chk (t.extract 0 k) == 0) = whole ∧ (chk (t.extract k t.size) == 0) = whole := by
  have key : ∀ i m, goesAt (t.extract i m) 0 = whole → (chk (t.extract i m) == 0) = whole := fun i m hg => by
    have h2 := chk_zero_iff (t.extract i m)
    have h3 : ¬ 1048576 < ((t.extract i m).size : Int) := by rw [ByteArray.size_extract]; omega
    rw [hg, zero_part t i m hz] at h2
    cases whole with
    | true => simpa using h2.2 ⟨h3, rfl, rfl⟩
    | false =>
      have : ¬ chk (t.extract i m) = 0 := fun h4 => by have := (h2.1 h4).2.2; cases this
      simpa using this
  exact ⟨key 0 k h.1, key k t.size h.2⟩
end Go.Proofs.Ytlnagfpkhojcmaa.Utf
