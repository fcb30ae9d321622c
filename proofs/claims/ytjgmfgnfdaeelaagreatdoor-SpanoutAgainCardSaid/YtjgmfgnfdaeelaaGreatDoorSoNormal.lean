/-
  READING SPANS, in plain words: what is read of a clean text is in normal form, at its ends too. No program.
-/
import Derived.Test.YtjgmfgnfdaeelaaGreatDoorPkQ
import Derived.Test.YtjgmfgnfdaeelaaGreatDoorPkG
namespace Go.Proofs.YtjgmfgnfdaeelaaGreatDoor.Sp
open Go.Proofs.YtjgmfgnfdaeelaaGreatDoor.Tk (S S_of S_list S_size S_toList S_app cls at_data len_data)
open Go.Proofs.YtjgmfgnfdaeelaaGreatDoor.Utf (chk chk_zero_iff zeroB)
set_option linter.unusedVariables false

def psB (s : ByteArray) : List Sp := (Rdr false false s.data.toList).1
/-! In normal form, but for the ends. -/
theorem hs_no {c : UInt8} {s : List UInt8} (h : c ∉ s) : hsB c s = false := by
  cases hh : hsB c s with
  | false => rfl
  | true =>
    unfold hsB at hh
    rw [List.any_eq_true] at hh
    obtain ⟨x, hx, he⟩ := hh
    rw [of_decide_eq_true he] at hx
    exact absurd hx h
theorem ck_of {s : List UInt8} (h : Wt s) (hl : s.length ≤ 1000) : ckB s = true := by
  unfold ckB
  refine decide_eq_true ((chk_zero_iff (S s)).2 ⟨by rw [S_size]; omega, ?_, h.1⟩)
  unfold zeroB
  rw [S_list]
  exact decide_eq_false h.2.1
theorem emp_no {α : Type} {l : List α} (h : l ≠ []) : l.isEmpty = false := by
  cases l with
  | nil => exact absurd rfl h
  | cons a r => rfl
mutual
theorem okOne_of (e k : Bool) : ∀ x : Sp, fit1 e k x → nmOne x → totOne x ≤ 1000 → okOne e k x = true
  | .mk q s l, hf, hn, ht => by
    rw [nmOne_mk] at hn
    rw [totOne_mk] at ht
    obtain ⟨hW, hX, hK⟩ := hn
    have hck := ck_of hW (by omega)
    have h13 := hs_no hW.2.2
    have ih := fun e k p h => okAll_of e k p l h hK (by omega)
    rw [okOne, hck, Bool.true_and]
    rw [fit1] at hf
    rcases hf with ⟨h1, h2, h3⟩ | ⟨h1, h2, h3, h4⟩ | ⟨h1, h2, h3, h4, h5⟩ | ⟨h1, h2, h3, h4, h5, h6⟩
    · rw [if_pos h1, h2]
      unfold ttB
      rw [hX h1, emp_no h3, h13]
      rfl
    · subst h1
      rw [if_neg (by decide), if_pos rfl, h2, emp_no h3, hs_no h4, h13]
      rfl
    · subst h1
      rw [if_neg (by decide), if_neg (by decide), if_pos rfl, h2, emp_no h3, h4, ih true k 0 h5]
      rfl
    · subst h1
      rw [if_neg (by decide), if_neg (by decide), if_neg (by decide), if_pos rfl, emp_no h4, h5, ih e true 0 h6]
      have hd : dsB s = true := by
        unfold dsB
        rw [emp_no h2, Bool.and_eq_true]
        exact ⟨List.all_eq_true.2 (fun c hc => by rw [← dcB_eq]; exact h3 c hc), rfl⟩
      rw [hd]
      rfl
theorem okAll_of (e k : Bool) (p : Int) : ∀ L : List Sp, fits e k p L → nmAll L → totAll L ≤ 1000 → okAll e k p L = true
  | [], _, _, _ => by unfold okAll; rfl
  | .mk q s l :: r, hf, hn, ht => by
    rw [nmAll_cons] at hn
    rw [totAll_cons] at ht
    rw [fits] at hf
    rw [okAll_cons, okOne_of e k (.mk q s l) hf.1 hn.1 (by omega), Bool.true_and]
    have h1 : (decide ((Sp.mk q s l).kind = p) && decide ((Sp.mk q s l).kind ≤ 2)) = false := by
      cases hd : (decide ((Sp.mk q s l).kind = p) && decide ((Sp.mk q s l).kind ≤ 2)) with
      | false => rfl
      | true =>
        rw [Bool.and_eq_true, decide_eq_true_iff, decide_eq_true_iff] at hd
        exact absurd hd hf.2.1
    rw [h1, Bool.not_false, Bool.true_and]
    exact okAll_of e k q r hf.2.2 hn.2 (by omega)
end

/-! The last one. -/
theorem last_suf {t p t' : List UInt8} (h : t = p ++ t') (hne : t' ≠ []) : t'.getLast? = t.getLast? := by
  rw [h, List.getLast?_append]
  cases hl : t'.getLast? with
  | none => exact absurd (List.getLast?_eq_none_iff.1 hl) hne
  | some x => rfl
theorem stp_last (c : UInt8) (r : List UInt8) : stp false false c r ≠ .stop ∧
    (∀ a, stp false false c r = .text a [] → ∀ b, a.getLast? = some b → (c :: r).getLast? = some b ∨ edB b = false) ∧ (∀ a t', stp false false c r = .text a t' → a ≠ []) := by
  have hplain : (Stp.text [c] r) ≠ .stop ∧ (∀ a, (Stp.text [c] r) = .text a [] → ∀ b, a.getLast? = some b → (c :: r).getLast? = some b ∨ edB b = false) ∧ (∀ a t', (Stp.text [c] r) = .text a t' → a ≠ []) := by
    refine ⟨by simp, fun a h b hb => ?_, fun a t' h => ?_⟩
    · simp only [Stp.text.injEq] at h
      obtain ⟨rfl, rfl⟩ := h
      exact Or.inl hb
    · simp only [Stp.text.injEq] at h
      rw [← h.1]; simp
  unfold stp stepOf
  split
  · rename_i h; simp at h
  · split
    · rename_i hn he
      cases r with
      | nil => simp at he
      | cons d r =>
        have h4 : cls d = 4 := by simpa using he.2
        refine ⟨by simp, fun a h b hb => ?_, fun a t' h => ?_⟩
        · simp only [Stp.text.injEq] at h
          obtain ⟨rfl, _⟩ := h
          have : d = b := by simpa using hb
          exact Or.inr (by rw [← this]; exact (hard_cls h4).1)
        · simp only [Stp.text.injEq] at h
          rw [← h.1]; simp
    · split
      · rename_i hc96
        subst hc96
        have hp := ticks_pos (r := r) rfl
        cases hcode : code (ticks (96 :: r)) (96 :: r).length [] ((96 :: r).drop (ticks (96 :: r))) with
        | none =>
          refine ⟨by simp, fun a h b hb => ?_, fun a t' h => ?_⟩
          · simp only [Stp.text.injEq] at h
            obtain ⟨rfl, _⟩ := h
            exact Or.inr (by rw [List.eq_of_mem_replicate (List.mem_of_getLast? hb)]; exact hard96)
          · simp only [Stp.text.injEq] at h
            rw [← h.1]
            intro e0
            have := congrArg List.length e0
            rw [List.length_replicate, List.length_nil] at this
            omega
        | some q => exact ⟨by simp, fun a h => (by cases h), fun a t' h => (by cases h)⟩
      · split
        · split
          · exact ⟨by simp, fun a h => (by cases h), fun a t' h => (by cases h)⟩
          · exact hplain
        · split
          · split
            · rename_i k kids t1 hrd
              cases hd : dest t1 with
              | none => exact hplain
              | some q => exact ⟨by simp, fun a h => (by cases h), fun a t' h => (by cases h)⟩
            · exact hplain
          · exact hplain
theorem stp_suf (e l : Bool) (c : UInt8) (r : List UInt8) :
    (∀ a t', stp e l c r = .text a t' → ∃ p, c :: r = p ++ t') ∧ (∀ x t', stp e l c r = .span x t' → ∃ p, c :: r = p ++ t') := stepOf_suf Rdr Rdr_suf e l c r
theorem consT_ne (a : List UInt8) (R : List Sp) : consT a R ≠ [] := by
  cases R with
  | nil => simp [consT]
  | cons x l =>
    obtain ⟨k, t, kids⟩ := x
    show (if k = 1 then .mk 1 (a ++ t) kids :: l else .mk 1 a [] :: .mk k t kids :: l) ≠ []
    split <;> simp
theorem last_consT {a : List UInt8} {R : List Sp} (hR : R ≠ []) {x : Sp} (h : (consT a R).getLast? = some x) : R.getLast? = some x ∨ ∃ s kids, R = [.mk 1 s kids] ∧ x = .mk 1 (a ++ s) kids := by
  cases R with
  | nil => exact absurd rfl hR
  | cons y l =>
    obtain ⟨k, t, kids⟩ := y
    have h' : (if k = 1 then .mk 1 (a ++ t) kids :: l else .mk 1 a [] :: .mk k t kids :: l : List Sp).getLast? = some x := h
    split at h'
    · rename_i hk
      subst hk
      cases l with
      | nil => exact Or.inr ⟨t, kids, rfl, by simpa using h'.symm⟩
      | cons z l =>
        rw [List.getLast?_cons_cons] at h'
        exact Or.inl (by rw [List.getLast?_cons_cons]; exact h')
    · rw [List.getLast?_cons_cons] at h'
      exact Or.inl h'
theorem Rdr_last : ∀ (n : Nat) (t : List UInt8), t.length ≤ n → (t ≠ [] → (Rdr false false t).1 ≠ []) ∧
    ∀ x b, (Rdr false false t).1.getLast? = some x → x.kind = 1 → x.s.getLast? = some b → t.getLast? = some b ∨ edB b = false
  | n, [], _ => ⟨fun h => absurd rfl h, fun x b h => by simp [Rdr_nil] at h⟩
  | 0, c :: r, h => by simp at h
  | n + 1, c :: r, h => by
    rw [List.length_cons] at h
    have hl := stp_len false false c r
    obtain ⟨h1, h2, h3⟩ := stp_last c r
    have hsf := stp_suf false false c r
    rw [Rdr_cons]
    cases hst : stp false false c r with
    | stop => exact absurd hst h1
    | text a t' =>
      have ih := Rdr_last n t' (by have := (hl.1 a t' hst).1; omega)
      refine ⟨fun _ => consT_ne a _, fun x b hx hk hb => ?_⟩
      have hx' : (consT a (Rdr false false t').1).getLast? = some x := hx
      by_cases ht : t' = []
      · subst ht
        have : x = .mk 1 a [] := by simpa [Rdr_nil, consT] using hx'.symm
        rw [this] at hb
        exact h2 a hst b hb
      · obtain ⟨p, hp⟩ := hsf.1 a t' hst
        have hle := last_suf hp ht
        rcases last_consT (ih.1 ht) hx' with h4 | ⟨s, kids, h4, h5⟩
        · rcases ih.2 x b h4 hk hb with h6 | h6
          · exact Or.inl (hle ▸ h6)
          · exact Or.inr h6
        · have hfit := (read_fits t'.length false false t').1
          have hR : (read t'.length false false t').1 = [.mk 1 s kids] := h4
          rw [hR, fits, fit1] at hfit
          have hs : s ≠ [] := by
            rcases hfit.1 with h7 | h7 | h7 | h7
            · exact h7.2.2
            · exact absurd h7.1 (by decide)
            · exact absurd h7.1 (by decide)
            · exact absurd h7.1 (by decide)
          rw [h5] at hb
          have hb' : (a ++ s).getLast? = some b := hb
          rw [← last_suf rfl hs] at hb'
          rcases ih.2 (.mk 1 s kids) b (by rw [h4]; rfl) rfl hb' with h6 | h6
          · exact Or.inl (hle ▸ h6)
          · exact Or.inr h6
    | span y t' =>
      have ih := Rdr_last n t' (by have := (hl.2 y t' hst).1; omega)
      refine ⟨fun _ => by show y :: _ ≠ []; simp, fun x b hx hk hb => ?_⟩
      have hx' : (y :: (Rdr false false t').1).getLast? = some x := hx
      cases hR : (Rdr false false t').1 with
      | nil =>
        rw [hR] at hx'
        have : y = x := by simpa using hx'
        rw [← this] at hk
        exact absurd hk (hl.2 y t' hst).2.2
      | cons z R =>
        rw [hR, List.getLast?_cons_cons, ← hR] at hx'
        have ht : t' ≠ [] := fun h0 => by rw [h0, Rdr_nil] at hR; cases hR
        obtain ⟨p, hp⟩ := hsf.2 y t' hst
        have hle := last_suf hp ht
        rcases ih.2 x b hx' hk hb with h6 | h6
        · exact Or.inl (hle ▸ h6)
        · exact Or.inr h6

/-! Of a clean text. -/
theorem cln_bad {s : ByteArray} (h : clnB s = true) : chk s = 0 ∧ ∀ k (hk : k < s.size), badI s k = false := by
  unfold clnB at h
  rw [Bool.and_eq_true, decide_eq_true_iff, List.all_eq_true] at h
  exact ⟨h.1, fun k hk => by simpa using h.2 k (List.mem_range.2 hk)⟩
theorem bad_parts {s : ByteArray} {k : Nat} (hk : k < s.size) (h : badI s k = false) :
    s[k] ≠ 13 ∧ ((k = 0 ∨ k = s.size - 1) → edB s[k] = false) ∧ ∀ h0 : 0 < k, prB (s[k - 1]'(by omega)) s[k] = false := by
  unfold badI at h
  rw [dif_pos hk, Bool.or_eq_false_iff, Bool.or_eq_false_iff] at h
  obtain ⟨⟨h1, h2⟩, h3⟩ := h
  refine ⟨beq_eq_false_iff_ne.1 h1, fun he => ?_, fun h0 => ?_⟩
  · rw [Bool.and_eq_false_iff] at h2
    rcases h2 with h2 | h2
    · exfalso
      rw [Bool.or_eq_false_iff] at h2
      rcases he with he | he
      · exact (beq_eq_false_iff_ne.1 h2.1) he
      · exact (beq_eq_false_iff_ne.1 h2.2) he
    · exact h2
  · rw [decide_eq_true h0, Bool.true_and, Bool.or_eq_false_iff] at h3
    obtain ⟨h4, h5⟩ := h3
    unfold prB
    have e : ∀ a : UInt8, (a == 10) = decide (a = 10) := fun a => by rw [Bool.eq_iff_iff, beq_iff_eq, decide_eq_true_iff]
    rw [e] at h4 h5
    have h5' : (decide (s[k - 1] = 10) && (spB s[k] || decide (s[k] = 10))) = false := h5
    rw [h5', Bool.false_or]
    unfold edB at h4
    rw [Bool.and_eq_false_iff, Bool.or_eq_false_iff] at h4
    rcases h4 with h4 | h4
    · rw [h4]; rfl
    · rw [h4.1]; simp
theorem cln_tx {s : ByteArray} (h : ∀ k (hk : k < s.size), badI s k = false) : ∀ n k : Nat, s.size - k ≤ n → txB (s.data.toList.drop k) = true
  | 0, k, hn => by rw [drop_all s k (by omega)]; rfl
  | n + 1, k, hn => by
    by_cases hk : k + 1 < s.size
    · have ih := cln_tx h n (k + 1) (by omega)
      rw [at_data s (k + 1) hk] at ih
      rw [at_data s k (by omega), at_data s (k + 1) hk, txB_pr, ih, Bool.and_true]
      have := (bad_parts hk (h (k + 1) hk)).2.2 (Nat.succ_pos k)
      simp only [Nat.add_sub_cancel] at this
      rw [this]
      rfl
    · by_cases hk0 : k < s.size
      · rw [at_data s k hk0, drop_all s (k + 1) hk]; rfl
      · rw [drop_all s k hk0]; rfl
theorem parse_nil {s : ByteArray} : psB s = [] ↔ s.size = 0 := by
  have hl := Rdr_last s.data.toList.length s.data.toList (Nat.le_refl _)
  constructor
  · intro h
    rcases Nat.eq_zero_or_pos s.size with h0 | h0
    · exact h0
    · exfalso
      refine hl.1 (fun e => ?_) h
      have := congrArg List.length e
      rw [len_data, List.length_nil] at this
      omega
  · intro h
    have : s.data.toList = [] := List.eq_nil_of_length_eq_zero (by rw [len_data]; exact h)
    unfold psB
    rw [this, Rdr_nil]
theorem parse_normal {s : ByteArray} (hs : s.size ≤ 300) (h : clnB s = true) : rtB (psB s) = true := by
  obtain ⟨hck, hbad⟩ := cln_bad h
  have hz := (chk_zero_iff s).1 hck
  have hT : totAll (psB s) ≤ 1000 := by
    have := Rdr_tot false false s.data.toList
    rw [len_data] at this
    unfold psB
    omega
  have hmem : ∀ x ∈ s.data.toList, ∃ k, ∃ hk : k < s.size, s[k] = x := fun x hx => by
    obtain ⟨k, hk, he⟩ := List.getElem_of_mem hx
    exact ⟨k, by rw [len_data] at hk; exact hk, he⟩
  have hW : Wt s.data.toList := by
    refine ⟨by unfold V; rw [S_of]; exact hz.2.2, ?_, fun hm => ?_⟩
    · have := hz.2.1
      unfold zeroB at this
      exact of_decide_eq_false this
    · obtain ⟨k, hk, he⟩ := hmem 13 hm
      exact (bad_parts hk (hbad k hk)).1 he
  have hX : txB s.data.toList = true := by
    have := cln_tx hbad s.size 0 (by omega)
    rwa [List.drop_zero] at this
  obtain ⟨n1, _, _, n4⟩ := Rdr_norm s.data.toList.length false false s.data.toList (Nat.le_refl _) hW hX
  have hf := (read_fits s.data.toList.length false false s.data.toList).1
  have hok := okAll_of false false 0 (psB s) hf n1 hT
  have hlast := (Rdr_last s.data.toList.length s.data.toList (Nat.le_refl _)).2
  unfold rtB
  rw [hok, Bool.true_and]
  have hok1 : ∀ x ∈ psB s, x.kind = 1 → x.s ≠ [] := fun x hx hk => okOne_text (okAll_mem hok x hx) hk
  unfold endB
  rw [Bool.and_eq_true]
  constructor
  · cases hh : (psB s).head? with
    | none => rfl
    | some x =>
      show hdB x = true
      unfold hdB
      by_cases hk : x.kind = 1
      · have hxm := List.mem_of_head? hh
        have hne := hok1 x hxm hk
        obtain ⟨q, xs, kids⟩ := x
        simp only [Sp.kind] at hk
        subst hk
        obtain ⟨b, xs', hxs⟩ := List.exists_cons_of_ne_nil hne
        simp only [Sp.s] at hxs hne
        have hL : ∃ R, (Rdr false false s.data.toList).1 = .mk 1 xs kids :: R := by
          have hh' : (Rdr false false s.data.toList).1.head? = some (.mk 1 xs kids) := hh
          cases hr : (Rdr false false s.data.toList).1 with
          | nil => rw [hr] at hh'; cases hh'
          | cons y R => rw [hr] at hh'; exact ⟨R, by simpa using hh'⟩
        obtain ⟨R, hR⟩ := hL
        have hed : edB b = false := by
          rcases n4 xs kids R b hR (by rw [hxs]; rfl) with h5 | h5
          · have hpos : 0 < s.size := by
              rcases Nat.eq_zero_or_pos s.size with h0 | h0
              · exfalso
                rw [List.eq_nil_of_length_eq_zero (show s.data.toList.length = 0 by rw [len_data]; exact h0)] at h5
                cases h5
              · exact h0
            rw [head_data s hpos] at h5
            have := (bad_parts hpos (hbad 0 hpos)).2.1 (Or.inl rfl)
            rw [← Option.some.inj h5]
            exact this
          · exact h5
        simp only [Sp.s, hxs, List.headD_cons, hed]
        simp
      · rw [decide_eq_false hk]; rfl
  · cases hh : (psB s).getLast? with
    | none => rfl
    | some x =>
      show ltB x = true
      unfold ltB
      by_cases hk : x.kind = 1
      · have hne := hok1 x (List.mem_of_getLast? hh) hk
        obtain ⟨b, hb⟩ : ∃ b, x.s.getLast? = some b := by
          cases hl : x.s.getLast? with
          | none => exact absurd (List.getLast?_eq_none_iff.1 hl) hne
          | some b => exact ⟨b, rfl⟩
        have hed : edB b = false := by
          rcases hlast x b hh hk hb with h5 | h5
          · have hpos : 0 < s.size := by
              rcases Nat.eq_zero_or_pos s.size with h0 | h0
              · exfalso
                rw [List.eq_nil_of_length_eq_zero (show s.data.toList.length = 0 by rw [len_data]; exact h0)] at h5
                cases h5
              · exact h0
            rw [last_data s (by omega)] at h5
            have := (bad_parts (k := s.size - 1) (by omega) (hbad _ (by omega))).2.1 (Or.inr rfl)
            rw [← Option.some.inj h5]
            exact this
          · exact h5
        rw [List.getLastD_eq_getLast?, hb]
        simp [hed]
      · rw [decide_eq_false hk]; rfl

mutual
theorem fo_of {R : Nat} (hR : 1000 ≤ R) (e k : Bool) : ∀ x : Sp, fit1 e k x → totOne x ≤ 1000 → fitOne R x
  | .mk q s l, hf, ht => by
    rw [totOne_mk] at ht
    have hk := fit_kind hf
    have ih := fun e k p h => fa_of hR e k p l h (by omega)
    rw [fit1] at hf
    unfold fitOne
    refine ⟨by omega, by omega, ?_⟩
    rcases hf with h | h | h | h
    · rw [h.2.1]; unfold fitAll; trivial
    · rw [h.2.1]; unfold fitAll; trivial
    · exact ih true k 0 h.2.2.2.2
    · exact ih e true 0 h.2.2.2.2.2
theorem fa_of {R : Nat} (hR : 1000 ≤ R) (e k : Bool) (p : Int) : ∀ L : List Sp, fits e k p L → totAll L ≤ 1000 → fitAll R L
  | [], _, _ => by unfold fitAll; trivial
  | .mk q s l :: r, hf, ht => by
    rw [totAll_cons] at ht
    rw [fits] at hf
    unfold fitAll
    exact ⟨fo_of hR e k (.mk q s l) hf.1 (by omega), fa_of hR e k q r hf.2.2 (by omega)⟩
end
theorem parse_fit (s : ByteArray) (hs : s.size ≤ 300) : totAll (psB s) ≤ 1000 ∧ fitAll 140737488355328 (psB s) := by
  have hT : totAll (psB s) ≤ 1000 := by
    have := Rdr_tot false false s.data.toList
    rw [len_data] at this
    unfold psB
    omega
  exact ⟨hT, fa_of (by decide) false false 0 (psB s) (read_fits s.data.toList.length false false s.data.toList).1 hT⟩


end Go.Proofs.YtjgmfgnfdaeelaaGreatDoor.Sp
