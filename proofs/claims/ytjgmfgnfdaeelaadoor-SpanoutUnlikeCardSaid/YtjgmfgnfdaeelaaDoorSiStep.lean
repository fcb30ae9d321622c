/-
  READING SPANS, in plain words: the steps at a place of a text.
-/
import Derived.Test.YtjgmfgnfdaeelaaDoorSiPlain
import Derived.Test.YtjgmfgnfdaeelaaDoorSiCode
namespace Go.Proofs.YtjgmfgnfdaeelaaDoor.Sp
open Go.Proofs.YtjgmfgnfdaeelaaDoor.Tk (cls at_data len_data)
set_option linter.unusedVariables false

/-- What a step leaves is an end of what there was. -/
theorem stepOf_suf (rec : Bool → Bool → List UInt8 → List Sp × List UInt8) (hrec : ∀ e l t, ∃ p, t = p ++ (rec e l t).2) (e l : Bool) (c : UInt8) (r : List UInt8) :
    (∀ a t', stepOf rec e l c r = .text a t' → ∃ p, c :: r = p ++ t') ∧ (∀ x t', stepOf rec e l c r = .span x t' → ∃ p, c :: r = p ++ t') := by
  unfold stepOf
  split
  · exact ⟨fun a t' h => (by cases h), fun x t' h => (by cases h)⟩
  · split
    · refine ⟨fun a t' h => ?_, fun x t' h => (by cases h)⟩
      simp only [Stp.text.injEq] at h
      obtain ⟨rfl, rfl⟩ := h
      exact ⟨c :: r.take 1, by rw [List.cons_append, ← List.drop_one, List.take_append_drop]⟩
    · split
      · rename_i hc
        subst hc
        have hp := ticks_pos (r := r) rfl
        cases hcode : code (ticks (96 :: r)) (96 :: r).length [] ((96 :: r).drop (ticks (96 :: r))) with
        | none =>
          refine ⟨fun a t' h => ?_, fun x t' h => (by cases h)⟩
          simp only [Stp.text.injEq] at h
          obtain ⟨rfl, rfl⟩ := h
          exact ⟨(96 :: r).take (ticks (96 :: r)), (List.take_append_drop _ _).symm⟩
        | some q =>
          obtain ⟨x, t1⟩ := q
          refine ⟨fun a t' h => (by cases h), fun y t' h => ?_⟩
          simp only [Stp.span.injEq] at h
          obtain ⟨rfl, rfl⟩ := h
          obtain ⟨h1, h2, y, h3, h4, h5⟩ := code_some _ hp _ _ _ _ _ hcode
          exact ⟨(96 :: r).take (ticks (96 :: r)) ++ (y ++ List.replicate (ticks (96 :: r)) 96), by
            conv => lhs; rw [← List.take_append_drop (ticks (96 :: r)) (96 :: r), h4]
            simp only [List.append_assoc]⟩
      · have hplain : (∀ a t', (Stp.text [c] r) = .text a t' → ∃ p, c :: r = p ++ t') ∧ (∀ x t', (Stp.text [c] r) = .span x t' → ∃ p, c :: r = p ++ t') := by
          refine ⟨fun a t' h => ?_, fun x t' h => (by cases h)⟩
          simp only [Stp.text.injEq] at h
          obtain ⟨rfl, rfl⟩ := h
          exact ⟨[c], rfl⟩
        split
        · split
          · rename_i k kids t1 hr
            obtain ⟨p, h1⟩ := hrec true l r
            rw [hr] at h1
            refine ⟨fun a t' h => (by cases h), fun y t' h => ?_⟩
            simp only [Stp.span.injEq] at h
            obtain ⟨rfl, rfl⟩ := h
            exact ⟨c :: (p ++ [42]), by rw [h1]; simp⟩
          · exact hplain
        · split
          · split
            · rename_i k kids t1 hr
              obtain ⟨p, h1⟩ := hrec e true r
              rw [hr] at h1
              cases hd : dest t1 with
              | none => exact hplain
              | some q =>
                obtain ⟨d, t2⟩ := q
                obtain ⟨d1, d2, d3⟩ := dest_some hd
                refine ⟨fun a t' h => (by cases h), fun y t' h => ?_⟩
                simp only [Stp.span.injEq] at h
                obtain ⟨rfl, rfl⟩ := h
                exact ⟨c :: (p ++ (93 :: 40 :: (d ++ [41]))), by rw [h1, d3]; simp⟩
            · exact hplain
          · exact hplain
theorem read_suf : ∀ (f : Nat) (e l : Bool) (t : List UInt8), ∃ p, t = p ++ (read f e l t).2
  | 0, e, l, t => ⟨[], rfl⟩
  | f + 1, e, l, [] => ⟨[], rfl⟩
  | f + 1, e, l, c :: r => by
    have hl := stepOf_suf (read f) (read_suf f) e l c r
    rw [read_step]
    cases hs : stepOf (read f) e l c r with
    | stop => exact ⟨[], rfl⟩
    | text a t' =>
      obtain ⟨p, h1⟩ := hl.1 a t' hs
      obtain ⟨q, h2⟩ := read_suf f e l t'
      exact ⟨p ++ q, by rw [List.append_assoc, h1]; exact congrArg _ h2⟩
    | span x t' =>
      obtain ⟨p, h1⟩ := hl.2 x t' hs
      obtain ⟨q, h2⟩ := read_suf f e l t'
      exact ⟨p ++ q, by rw [List.append_assoc, h1]; exact congrArg _ h2⟩
theorem Rdr_suf (e l : Bool) (t : List UInt8) : ∃ p, t = p ++ (Rdr e l t).2 := read_suf _ e l t
/-- An end of a text is what stands from a place on. -/
theorem suf_drop {T p t' : List UInt8} {j : Nat} (h : T.drop j = p ++ t') (hj : j ≤ T.length) : t' = T.drop (T.length - t'.length) := by
  have h1 := congrArg List.length h
  rw [List.length_drop, List.length_append] at h1
  have h2 : T.length - t'.length = j + p.length := by omega
  rw [h2, ← List.drop_drop, h, List.drop_left]

variable {e l : Bool} {L : List Sp}
theorem st_stop {s : ByteArray} {j : Nat} (h : j < s.size) (hc : (s[j] = 42 ∧ e = true) ∨ (s[j] = 93 ∧ l = true)) : gl e l L (s.data.toList.drop j) = (L, s.data.toList.drop j) := by
  rw [at_data s j h]
  apply gl_stop
  unfold stp stepOf
  rw [if_pos hc]
theorem st_esc {s : ByteArray} {j : Nat} (h : j + 1 < s.size) (hn : ¬ ((s[j] = 42 ∧ e = true) ∨ (s[j] = 93 ∧ l = true))) (h92 : s[j] = 92) (h4 : cls s[j + 1] = 4) :
    gl e l L (s.data.toList.drop j) = gl e l (snocT L [s[j + 1]]) (s.data.toList.drop (j + 2)) := by
  rw [at_data s j (by omega), at_data s (j + 1) h]
  apply gl_text
  unfold stp stepOf
  rw [if_neg hn, if_pos ⟨h92, by simp [h4]⟩]
  rfl
theorem tk_drop (s : ByteArray) (j n : Nat) : (s.data.toList.drop j).drop n = s.data.toList.drop (j + n) := by rw [List.drop_drop]
theorem st_fuel (s : ByteArray) (j n : Nat) (hn : 1 ≤ n) (hj : j < s.size) : code n (s.data.toList.drop j).length [] (s.data.toList.drop (j + n)) = codeAt s.data.toList (j + n) n [] := by
  unfold codeAt
  have h1 := len_data s
  refine code_fuel n s.size _ _ _ _ ?_ ?_ ?_ <;> simp only [List.length_drop, h1] <;> omega
theorem tk_pos {s : ByteArray} {j : Nat} (h : j < s.size) (h96 : s[j] = 96) : 1 ≤ ticks (s.data.toList.drop j) := by
  rw [at_data s j h]
  exact ticks_pos h96
theorem st_ticks {s : ByteArray} {j : Nat} (h : j < s.size) (h96 : s[j] = 96) (hcode : codeAt s.data.toList (j + ticks (s.data.toList.drop j)) (ticks (s.data.toList.drop j)) [] = none) :
    gl e l L (s.data.toList.drop j) = gl e l (snocT L ((s.data.toList.drop j).take (ticks (s.data.toList.drop j)))) (s.data.toList.drop (j + ticks (s.data.toList.drop j))) := by
  rw [← st_fuel s j _ (tk_pos h h96) h] at hcode
  rw [ticks_take, ← tk_drop s j]
  rw [← tk_drop s j] at hcode
  rw [at_data s j h] at hcode ⊢
  apply gl_text
  unfold stp stepOf
  rw [if_neg (by rw [h96]; simp), if_neg (by rw [h96]; simp), if_pos h96, hcode]
theorem st_code {s : ByteArray} {j : Nat} (h : j < s.size) (h96 : s[j] = 96) {x t' : List UInt8} (hcode : codeAt s.data.toList (j + ticks (s.data.toList.drop j)) (ticks (s.data.toList.drop j)) [] = some (x, t')) :
    gl e l L (s.data.toList.drop j) = gl e l (L ++ [.mk 2 (strip x) []]) (s.data.toList.drop (s.size - t'.length)) ∧ t'.length < s.size - j ∧ (strip x).length ≤ s.size - t'.length - j := by
  rw [← st_fuel s j _ (tk_pos h h96) h, ← tk_drop s j] at hcode
  have hd := at_data s j h
  have hst : stp e l s[j] (s.data.toList.drop (j + 1)) = .span (.mk 2 (strip x) []) t' := by
    unfold stp stepOf
    rw [hd] at hcode
    rw [if_neg (by rw [h96]; simp), if_neg (by rw [h96]; simp), if_pos h96, hcode]
  have hl := (stp_len e l s[j] (s.data.toList.drop (j + 1))).2 _ _ hst
  obtain ⟨p, hp⟩ := (stepOf_suf Rdr Rdr_suf e l s[j] (s.data.toList.drop (j + 1))).2 _ _ hst
  rw [← hd] at hp
  have hsf := suf_drop hp (by rw [len_data]; omega)
  rw [len_data] at hsf
  have h1 := gl_span (L := L) hst
  rw [← hd] at h1
  have hl1 := hl.1
  have hl2 := hl.2.1
  rw [List.length_drop, len_data] at hl1
  rw [List.length_cons, List.length_drop, len_data] at hl2
  have hxl : (Sp.mk 2 (strip x) []).s = strip x := rfl
  rw [hxl] at hl2
  refine ⟨by rw [h1, ← hsf], by omega, by omega⟩
theorem st_plain {s : ByteArray} {j : Nat} (h : j < s.size) (hn : ¬ ((s[j] = 42 ∧ e = true) ∨ (s[j] = 93 ∧ l = true))) (h92 : ¬ (s[j] = 92 ∧ ∃ h' : j + 1 < s.size, cls s[j + 1] = 4)) (h96 : s[j] ≠ 96) (h42 : s[j] ≠ 42) (h91 : ¬ (s[j] = 91 ∧ l = false)) :
    gl e l L (s.data.toList.drop j) = gl e l (snocT L [s[j]]) (s.data.toList.drop (j + 1)) := by
  rw [at_data s j h]
  apply gl_text
  unfold stp stepOf
  rw [if_neg hn, if_neg (fun hc => h92 ⟨hc.1, ?_⟩), if_neg h96, if_neg h42, if_neg h91]
  by_cases h1 : j + 1 < s.size
  · rw [at_data s (j + 1) h1] at hc
    exact ⟨h1, by simpa using hc.2⟩
  · rw [drop_all s (j + 1) h1] at hc
    simp at hc
/-- At a star, in no emphasis. -/
theorem st_emph {s : ByteArray} {j : Nat} (h : j < s.size) (h42 : s[j] = 42) (he : e = false) {K : List Sp} {R : List UInt8} (hr : Rdr true l (s.data.toList.drop (j + 1)) = (K, R)) (hK : K ≠ []) {k : Nat} (hk : k = s.size - R.length) (hks : k < s.size) (hc : s[k] = 42) (hRl : R.length ≤ s.size - (j + 1)) :
    gl e l L (s.data.toList.drop j) = gl e l (L ++ [.mk 3 [] K]) (s.data.toList.drop (k + 1)) := by
  obtain ⟨p, hp⟩ := Rdr_suf true l (s.data.toList.drop (j + 1))
  rw [hr] at hp
  have hsf := suf_drop hp (by rw [len_data]; omega)
  simp only [len_data] at hsf
  rw [← hk, at_data s k hks, hc] at hsf
  rw [at_data s j h]
  apply gl_span
  unfold stp stepOf
  rw [if_neg (by rw [h42, he]; simp), if_neg (by rw [h42]; simp), if_neg (by rw [h42]; decide), if_pos h42, hr]
  cases K with
  | nil => exact absurd rfl hK
  | cons a b =>
    rw [hsf]
    rfl
theorem st_star {s : ByteArray} {j : Nat} (h : j < s.size) (h42 : s[j] = 42) (he : e = false) {K : List Sp} {R : List UInt8} (hr : Rdr true l (s.data.toList.drop (j + 1)) = (K, R)) {k : Nat} (hk : k = s.size - R.length) (hRl : R.length ≤ s.size - (j + 1)) (hno : ¬ (K ≠ [] ∧ ∃ hks : k < s.size, s[k] = 42)) :
    gl e l L (s.data.toList.drop j) = gl e l (snocT L [s[j]]) (s.data.toList.drop (j + 1)) := by
  obtain ⟨p, hp⟩ := Rdr_suf true l (s.data.toList.drop (j + 1))
  rw [hr] at hp
  have hsf := suf_drop hp (by rw [len_data]; omega)
  simp only [len_data] at hsf
  rw [← hk] at hsf
  rw [at_data s j h]
  apply gl_text
  unfold stp stepOf
  rw [if_neg (by rw [h42, he]; simp), if_neg (by rw [h42]; simp), if_neg (by rw [h42]; decide), if_pos h42, hr]
  split
  · rename_i a b t' heq
    simp only [Prod.mk.injEq] at heq
    obtain ⟨rfl, rfl⟩ := heq
    exfalso
    apply hno
    refine ⟨by simp, ?_⟩
    by_cases hks : k < s.size
    · rw [at_data s k hks] at hsf
      simp at hsf
      exact ⟨hks, hsf.1.symm⟩
    · rw [drop_all s k hks] at hsf
      cases hsf
  · rfl
/-- At a [, in no link. -/
theorem st_link {s : ByteArray} {j : Nat} (h : j < s.size) (h91 : s[j] = 91) (hl : l = false) {K : List Sp} {R : List UInt8} (hr : Rdr e true (s.data.toList.drop (j + 1)) = (K, R)) (hK : K ≠ []) {k : Nat} (hk : k = s.size - R.length) (hks : k < s.size) (hc : s[k] = 93) (hRl : R.length ≤ s.size - (j + 1)) {d t' : List UInt8} (hd : dest (s.data.toList.drop (k + 1)) = some (d, t')) :
    gl e l L (s.data.toList.drop j) = gl e l (L ++ [.mk 4 d K]) (s.data.toList.drop (s.size - t'.length)) ∧ t'.length < s.size - k ∧ d.length ≤ s.size - t'.length - k := by
  obtain ⟨p, hp⟩ := Rdr_suf e true (s.data.toList.drop (j + 1))
  rw [hr] at hp
  have hsf := suf_drop hp (by rw [len_data]; omega)
  simp only [len_data] at hsf
  rw [← hk, at_data s k hks, hc] at hsf
  obtain ⟨d1, d2, d3⟩ := dest_some hd
  have hd' := suf_drop (p := 40 :: (d ++ [41])) (t' := t') (by rw [d3]; simp) (show k + 1 ≤ s.data.toList.length by rw [len_data]; omega)
  rw [len_data] at hd'
  have hlen := congrArg List.length d3
  simp only [List.length_drop, len_data, List.length_cons, List.length_append] at hlen
  refine ⟨?_, by omega, by omega⟩
  rw [← hd', at_data s j h]
  apply gl_span
  unfold stp stepOf
  rw [if_neg (by rw [h91]; simp), if_neg (by rw [h91]; simp), if_neg (by rw [h91]; decide), if_neg (by rw [h91]; decide), if_pos ⟨h91, hl⟩, hr]
  cases K with
  | nil => exact absurd rfl hK
  | cons a b =>
    rw [hsf]
    simp only
    rw [hd]
theorem st_open {s : ByteArray} {j : Nat} (h : j < s.size) (h91 : s[j] = 91) (hl : l = false) {K : List Sp} {R : List UInt8} (hr : Rdr e true (s.data.toList.drop (j + 1)) = (K, R)) {k : Nat} (hk : k = s.size - R.length) (hRl : R.length ≤ s.size - (j + 1)) (hno : ¬ (K ≠ [] ∧ (∃ hks : k < s.size, s[k] = 93) ∧ dest (s.data.toList.drop (k + 1)) ≠ none)) :
    gl e l L (s.data.toList.drop j) = gl e l (snocT L [s[j]]) (s.data.toList.drop (j + 1)) := by
  obtain ⟨p, hp⟩ := Rdr_suf e true (s.data.toList.drop (j + 1))
  rw [hr] at hp
  have hsf := suf_drop hp (by rw [len_data]; omega)
  simp only [len_data] at hsf
  rw [← hk] at hsf
  rw [at_data s j h]
  apply gl_text
  unfold stp stepOf
  rw [if_neg (by rw [h91]; simp), if_neg (by rw [h91]; simp), if_neg (by rw [h91]; decide), if_neg (by rw [h91]; decide), if_pos ⟨h91, hl⟩, hr]
  split
  · rename_i a b t' heq
    simp only [Prod.mk.injEq] at heq
    obtain ⟨rfl, rfl⟩ := heq
    by_cases hks : k < s.size
    · rw [at_data s k hks] at hsf
      simp at hsf
      obtain ⟨hc, ht⟩ := hsf
      rw [ht]
      cases hd : dest (s.data.toList.drop (k + 1)) with
      | none => rfl
      | some q => exact absurd ⟨by simp, ⟨hks, hc.symm⟩, by rw [hd]; simp⟩ hno
    · rw [drop_all s k hks] at hsf
      cases hsf
  · rfl

end Go.Proofs.YtjgmfgnfdaeelaaDoor.Sp
