/-
  A DEFINITION's HALVES, in plain words: a label has no ], so that it ends at the first one. No program.
-/
import Derived.Test.YtpenjdnbnacebaaDoorKdPlain
import Derived.Test.YtpenjdnbnacebaaDoorKdRef
import Derived.Test.YtpenjdnbnacebaaDoorBtLineP
import Derived.Lib.IndexLaws
import Derived.Lib.Strings
namespace Go.Proofs.YtpenjdnbnacebaaDoor.Kd
open Go.Proofs.YtpenjdnbnacebaaDoor.Tk (S S_list S_size)
open Go.Proofs.YtpenjdnbnacebaaDoor.Sp (hsB dsB)
open Go.Proofs.YtpenjdnbnacebaaDoor.Bt (labB)
open Go.Proofs.YtpenjdnbnacebaaDoor.Bk (Tx label isDest df define)
open Go.Proofs.YtpenjdnbnacebaaDoor.Ln (run mx trim)
set_option linter.unusedVariables false

/-- What stands ahead of the first ], behind it, and whether there is one. -/
def cuB (t : Tx) : Tx × Tx × Bool := if 0 ≤ Lib.indexByte t 93 then (t.take (Lib.indexByte t 93).toNat, t.drop ((Lib.indexByte t 93).toNat + 1), true) else (t, [], false)
/-- A line's halves. -/
def halB (l : Tx) : Tx × Tx := if Lib.hasPrefix l [91] then (if Lib.hasPrefix (cuB (l.drop 1)).2.1 [58, 32] then ((cuB (l.drop 1)).1, (cuB (l.drop 1)).2.1.drop 2) else ([], [])) else ([], [])
theorem pre_one (l : Tx) (c : UInt8) : Lib.hasPrefix l [c] = decide (l.head? = some c) := by
  cases l with
  | nil => rfl
  | cons b r =>
    show ((c == b) && true) = _
    rw [Bool.and_true, List.head?_cons, Bool.eq_iff_iff, beq_iff_eq, decide_eq_true_iff, Option.some.injEq]
    exact eq_comm
theorem pre_two (l : Tx) (c d : UInt8) : Lib.hasPrefix l [c, d] = decide (l.take 2 = [c, d]) := by
  cases l with
  | nil => rfl
  | cons b r =>
    cases r with
    | nil =>
      show ((c == b) && false) = _
      rw [Bool.and_false]
      exact (decide_eq_false (by simp)).symm
    | cons b2 r =>
      show ((c == b) && ((d == b2) && true)) = _
      rw [Bool.and_true, Bool.eq_iff_iff, Bool.and_eq_true, beq_iff_eq, beq_iff_eq, decide_eq_true_iff]
      constructor
      · rintro ⟨rfl, rfl⟩; rfl
      · intro h
        have h' : b :: b2 :: [] = [c, d] := h
        injection h' with h1 h2
        injection h2 with h2 h3
        exact ⟨h1.symm, h2.symm⟩
theorem lab_has (a : Tx) (h : 93 ∈ a) : labB a = false := by
  unfold labB
  have : hsB 93 a = true := by unfold hsB; rw [List.any_eq_true]; exact ⟨93, h, by decide⟩
  rw [this]
  simp
theorem df_has : ∀ (t acc : Tx), 93 ∈ acc → df E0 acc t = none
  | [], acc, _ => by rw [df]
  | c :: t, acc, h => by
    have ih := df_has t (acc ++ [c]) (List.mem_append_left _ h)
    by_cases hx : ∃ d, c = 93 ∧ t = 58 :: 32 :: d
    · obtain ⟨d, rfl, rfl⟩ := hx
      rw [df_here, lab_eq, lab_has acc h, Bool.false_and, if_neg (by decide)]
      exact ih
    · rw [df_skip acc c t hx]
      exact ih
theorem df_go : ∀ (a acc r : Tx), 93 ∉ a → df E0 acc (a ++ r) = df E0 (acc ++ a) r
  | [], acc, r, _ => by rw [List.nil_append, List.append_nil]
  | c :: a, acc, r, h => by
    have hc : c ≠ 93 := fun e => h (by rw [e]; exact List.mem_cons_self)
    have ha : 93 ∉ a := fun e => h (List.mem_cons_of_mem _ e)
    rw [List.cons_append, df_skip acc c (a ++ r) (by rintro ⟨d, e, _⟩; exact hc e), df_go a _ r ha, List.append_assoc]
    rfl
theorem idx_split (t : Tx) (h : 0 ≤ Lib.indexByte t 93) : t = t.take (Lib.indexByte t 93).toNat ++ 93 :: t.drop ((Lib.indexByte t 93).toNat + 1) ∧ 93 ∉ t.take (Lib.indexByte t 93).toNat := by
  obtain ⟨o, ho⟩ : ∃ o : Nat, Lib.indexByte t 93 = o := ⟨(Lib.indexByte t 93).toNat, by omega⟩
  obtain ⟨h1, h2⟩ := Lib.indexByte_some ho
  rw [ho, Int.toNat_natCast]
  have hl : o < t.length := by
    rcases Nat.lt_or_ge o t.length with h | h
    · exact h
    · rw [List.getElem?_eq_none h] at h1; exact absurd h1 (by simp)
  have hg : t[o] = 93 := by rw [List.getElem?_eq_getElem hl] at h1; exact Option.some.inj h1
  refine ⟨?_, ?_⟩
  · conv => lhs; rw [← List.take_append_drop o t, List.drop_eq_getElem_cons hl, hg]
  · intro hm
    obtain ⟨k, hk, he⟩ := List.mem_iff_getElem.1 hm
    rw [List.length_take] at hk
    rw [List.getElem_take] at he
    exact h2 k (by omega) (by rw [List.getElem?_eq_getElem (by omega), he])
theorem idx_none (t : Tx) (h : ¬ 0 ≤ Lib.indexByte t 93) : 93 ∉ t := by
  have h0 := Lib.indexByte_ge t 93
  have h1 : Lib.indexByte t 93 = -1 := by omega
  intro hm
  obtain ⟨k, hk, he⟩ := List.mem_iff_getElem.1 hm
  exact Lib.indexByte_none h1 k (by rw [List.getElem?_eq_getElem hk, he])
theorem lab_nil : labB [] = false := rfl
theorem hal_yes (t : Tx) : halB (91 :: t) = if (cuB t).2.1.take 2 = [58, 32] then ((cuB t).1, (cuB t).2.1.drop 2) else ([], []) := by
  unfold halB
  rw [pre_one, pre_two, List.drop_one, List.tail_cons]
  have h : decide ((91 :: t : Tx).head? = some 91) = true := decide_eq_true rfl
  rw [if_pos h]
  simp only [decide_eq_true_eq]
theorem hal_no (l : Tx) (h : l.head? ≠ some 91) : halB l = ([], []) := by
  unfold halB
  rw [pre_one, decide_eq_false h]
  rfl
/-- The document's definition is the line's halves, where they are right. -/
theorem define_hal (l : Tx) : define E0 l = if labB (halB l).1 && dsB (halB l).2 then some (halB l) else none := by
  have hno : ∀ l : Tx, halB l = ([], []) → (if labB (halB l).1 && dsB (halB l).2 then some (halB l) else none) = none := fun l h => by
    rw [h, if_neg]
    rw [lab_nil]
    simp
  by_cases hc : l.head? = some 91
  · obtain ⟨t, rfl⟩ : ∃ t, l = 91 :: t := by
      cases l with
      | nil => simp at hc
      | cons c t => exact ⟨t, by rw [List.head?_cons, Option.some.injEq] at hc; rw [hc]⟩
    show df E0 [] t = _
    by_cases hi : 0 ≤ Lib.indexByte t 93
    · obtain ⟨h1, h2⟩ := idx_split t hi
      have hcu : cuB t = (t.take (Lib.indexByte t 93).toNat, t.drop ((Lib.indexByte t 93).toNat + 1), true) := by unfold cuB; rw [if_pos hi]
      have hy := hal_yes t
      rw [hcu] at hy
      generalize t.take (Lib.indexByte t 93).toNat = a at *
      generalize t.drop ((Lib.indexByte t 93).toNat + 1) = r at *
      have hd : df E0 [] t = df E0 a (93 :: r) := by rw [h1, df_go a [] _ h2, List.nil_append]
      rw [hd]
      by_cases hr : r.take 2 = [58, 32]
      · have hy' : halB (91 :: t) = (a, r.drop 2) := by rw [hy]; exact if_pos hr
        rw [hy']
        have hr2 : r = 58 :: 32 :: r.drop 2 := by
          conv => lhs; rw [← List.take_append_drop 2 r, hr]
          rfl
        generalize r.drop 2 = d at *
        rw [hr2, df_here, lab_eq, dest_eq, df_has _ _ (by simp)]
      · have hy' : halB (91 :: t) = ([], []) := by rw [hy]; exact if_neg hr
        rw [hno _ hy', df_skip, df_has _ _ (by simp)]
        rintro ⟨d, _, rfl⟩
        exact hr rfl
    · have hcu : cuB t = (t, [], false) := by unfold cuB; rw [if_neg hi]
      have hy' : halB (91 :: t) = ([], []) := by rw [hal_yes, hcu]; rfl
      rw [hno _ hy']
      have := df_go t [] [] (idx_none t hi)
      rw [List.append_nil] at this
      rw [this]
      show df E0 _ [] = _
      rw [df]
  · rw [hno _ (hal_no l hc), dfAt_one]
    unfold dfAt
    rw [if_neg hc]
theorem define_some (l : Tx) : (define E0 l).isSome = (labB (halB l).1 && dsB (halB l).2) := by
  rw [define_hal]
  cases labB (halB l).1 && dsB (halB l).2 <;> rfl

/-! The tests, as the program asks them. -/
def esB (l : Tx) : Bool := l.isEmpty || decide (l.head? = some 32)
theorem es_T2 (l : Tx) : T2 l = (decide (1 ≤ run 35 l) && decide (run 35 l ≤ 6) && esB (l.drop (run 35 l))) := by
  unfold T2 esB
  have h := Go.Proofs.YtpenjdnbnacebaaDoor.Ln.run_le 35 l
  rw [Bool.eq_iff_iff, decide_eq_true_iff, Bool.and_eq_true, Bool.and_eq_true, Bool.or_eq_true, decide_eq_true_iff, decide_eq_true_iff, decide_eq_true_iff, List.head?_drop, List.isEmpty_iff, List.drop_eq_nil_iff]
  constructor
  · rintro ⟨⟨h1, h2⟩, h3⟩
    exact ⟨⟨h1, h2⟩, h3.imp (fun e => by omega) id⟩
  · rintro ⟨⟨h1, h2⟩, h3⟩
    exact ⟨⟨h1, h2⟩, h3.imp (fun e => by omega) id⟩
theorem es_T3 (l : Tx) : T3 l = (decide (3 ≤ l.length) && decide (run 45 l = l.length)) := by
  unfold T3
  rw [Bool.eq_iff_iff, decide_eq_true_iff, Bool.and_eq_true, decide_eq_true_iff, decide_eq_true_iff]
  constructor
  · rintro ⟨h1, h2⟩; exact ⟨by omega, h2⟩
  · rintro ⟨h1, h2⟩; exact ⟨by omega, h2⟩
theorem es_T4 (l : Tx) : T4 l = (decide (3 ≤ run 96 l) && decide (Lib.indexByte (l.drop (run 96 l)) 96 < 0)) := by
  unfold T4
  rw [Bt.idx_has, Bool.eq_iff_iff, decide_eq_true_iff, Bool.and_eq_true, decide_eq_true_iff, Bool.not_eq_true', ← Bool.not_eq_true, Sp.has_mem]
  exact and_congr_right fun _ => ⟨Go.Proofs.YtpenjdnbnacebaaDoor.Ln.mx_zero 96 _, Go.Proofs.YtpenjdnbnacebaaDoor.Ln.mx_none 96 _⟩
theorem es_T6 (l : Tx) : T6 l = (Lib.hasPrefix l [45] && esB (l.drop 1)) := by
  unfold T6 esB
  rw [pre_one]
  cases l with
  | nil => decide
  | cons c t =>
    cases t with
    | nil =>
      rw [Bool.eq_iff_iff, decide_eq_true_iff, Bool.and_eq_true, decide_eq_true_iff]
      simp
    | cons d r =>
      rw [Bool.eq_iff_iff, decide_eq_true_iff, Bool.and_eq_true, decide_eq_true_iff]
      simp

end Go.Proofs.YtpenjdnbnacebaaDoor.Kd
