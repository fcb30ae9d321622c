/-
  KINDS OF LINES, in plain words: labels, places and definitions as the document asks for them; what is true of lines with marks ahead. No program.
-/
import Derived.Test.YtpenjdnbnacebaaDoorBkLines
import Derived.Test.YtpenjdnbnacebaaDoorBtLabel
namespace Go.Proofs.YtpenjdnbnacebaaDoor.Kd
open Go.Proofs.YtpenjdnbnacebaaDoor.Tk (S S_list S_size)
open Go.Proofs.YtpenjdnbnacebaaDoor.Sp (hsB spB dsB dcB destB alB marksL)
open Go.Proofs.YtpenjdnbnacebaaDoor.Bt (ckB lineB tgB labB)
open Go.Proofs.YtpenjdnbnacebaaDoor.Bk (Tx Env label isDest df define kindOf closes unquote unitem inner)
open Go.Proofs.YtpenjdnbnacebaaDoor.Ln (run mx trim dl dr gapB)
set_option linter.unusedVariables false

/-- What a text is, as layer 1 says. -/
def E0 : Env := ⟨ckB⟩
theorem hs_con (c : UInt8) (s : Tx) : s.contains c = hsB c s := by
  rw [Bool.eq_iff_iff]
  unfold hsB
  simp
theorem gap_sp (b : UInt8) : Bk.gapB b = spB b := by
  unfold Bk.gapB spB
  rw [Bool.eq_iff_iff]
  simp
theorem gap_ln (b : UInt8) : Bk.gapB b = gapB b := rfl
theorem tight_tg (s : Tx) : Bk.tight s = tgB s := by
  cases s with
  | nil => rfl
  | cons b r =>
    unfold Bk.tight tgB
    rw [List.isEmpty_cons, Bool.false_or, List.headD_cons, List.getLastD_eq_getLast?, List.head?_cons]
    cases hc : (b :: r).getLast? with
    | none => simp at hc
    | some c =>
      have ha : (r.all fun _ => true) = true := by rw [List.all_eq_true]; exact fun _ _ => rfl
      simp [gap_sp, ha]
theorem lab_eq (s : Tx) : label E0 s = labB s := by
  unfold label labB lineB
  rw [tight_tg, hs_con, hs_con, hs_con, hs_con, hs_con]
  have e : decide (s ≠ []) = !s.isEmpty := by cases s <;> simp
  rw [e]
  show (ckB s && _ && _ && _ && _ && _ && _ && _) = _
  generalize ckB s = a
  generalize (!s.isEmpty) = b
  generalize tgB s = c
  generalize hsB 10 s = d
  generalize hsB 13 s = f
  generalize hsB 91 s = g
  generalize hsB 93 s = h
  generalize hsB 92 s = i
  revert a b c d f g h i
  decide
theorem dest_dc (c : UInt8) : destB c = dcB c := by
  unfold destB dcB alB
  have h : ∀ n : Nat, n < 256 → (decide (UInt8.ofNat n ≤ c) = decide ((n : Int) ≤ (c.toNat : Int))) ∧ (decide (c ≤ UInt8.ofNat n) = decide ((c.toNat : Int) ≤ (n : Int))) := fun n hn => by
    have e : (UInt8.ofNat n).toNat = n := by rw [UInt8.toNat_ofNat']; omega
    constructor
    · apply decide_eq_decide.2
      rw [UInt8.le_iff_toNat_le, e]
      omega
    · apply decide_eq_decide.2
      rw [UInt8.le_iff_toNat_le, e]
      omega
  have m : [46, 47, 95, 45, 35, 63, 38, 58, 37].contains c = marksL.any (fun b => decide (c = b)) := by
    rw [Bool.eq_iff_iff, List.contains_iff_mem, List.any_eq_true]
    constructor
    · intro hm; exact ⟨c, hm, by simp⟩
    · rintro ⟨x, hx, he⟩
      have e : c = x := by simpa using he
      rw [e]; exact hx
  rw [m]
  have a1 := (h 97 (by omega)).1
  have a2 := (h 122 (by omega)).2
  have a3 := (h 65 (by omega)).1
  have a4 := (h 90 (by omega)).2
  have a5 := (h 48 (by omega)).1
  have a6 := (h 57 (by omega)).2
  have o97 : (UInt8.ofNat 97) = 97 := rfl
  have o122 : (UInt8.ofNat 122) = 122 := rfl
  have o65 : (UInt8.ofNat 65) = 65 := rfl
  have o90 : (UInt8.ofNat 90) = 90 := rfl
  have o48 : (UInt8.ofNat 48) = 48 := rfl
  have o57 : (UInt8.ofNat 57) = 57 := rfl
  rw [o97] at a1
  rw [o122] at a2
  rw [o65] at a3
  rw [o90] at a4
  rw [o48] at a5
  rw [o57] at a6
  rw [a1, a2, a3, a4, a5, a6]
  rfl
def dsAns (N : Nat) : Option (List UInt8 × List UInt8) → List UInt8 × Int
  | some (x, t) => (x, ((N - t.length : Nat) : Int))
  | none => ([], -1)
/-- .. behind the ( and what has been read of it. -/
def destOn (tw t : List UInt8) : Option (List UInt8 × List UInt8) :=
  match t.dropWhile destB with
  | 41 :: r => if tw ++ t.takeWhile destB = [] then none else some (tw ++ t.takeWhile destB, r)
  | _ => none
theorem dest_eq (s : Tx) : isDest s = dsB s := by
  unfold isDest dsB
  have e : decide (s ≠ []) = !s.isEmpty := by cases s <;> simp
  rw [e, Bool.and_comm]
  congr 1
  have : destB = dcB := funext dest_dc
  rw [this]

/-! Definitions, gone through from the left. -/
theorem df_short : ∀ (t acc : Tx), t.length ≤ 3 → df E0 acc t = none
  | [], acc, _ => rfl
  | c :: t, acc, h => by
    have ih := df_short t (acc ++ [c]) (by simp at h; omega)
    by_cases hx : ∃ d, c = 93 ∧ t = 58 :: 32 :: d
    · obtain ⟨d, rfl, rfl⟩ := hx
      have hl : (93 :: 58 :: 32 :: d : Tx).length = d.length + 3 := rfl
      have hd : d = [] := List.eq_nil_of_length_eq_zero (by omega)
      subst hd
      rw [df]
      have : isDest [] = false := by decide
      rw [this, Bool.and_false, if_neg (by decide)]
      exact ih
    · rw [df]
      · exact ih
      · intro d h1 h2; exact hx ⟨d, h1, h2⟩
theorem df_skip (acc : Tx) (c : UInt8) (t : Tx) (h : ¬ ∃ d, c = 93 ∧ t = 58 :: 32 :: d) : df E0 acc (c :: t) = df E0 (acc ++ [c]) t := by
  rw [df]
  intro d h1 h2
  exact h ⟨d, h1, h2⟩
theorem df_here (acc d : Tx) : df E0 acc (93 :: 58 :: 32 :: d) = if label E0 acc && isDest d then some (acc, d) else df E0 (acc ++ [93]) (58 :: 32 :: d) := by rw [df]
/-- What stands behind the first bracket, from a place on. -/
def dfAt (s : Tx) (i : Nat) : Option (Tx × Tx) := if s.head? = some 91 then df E0 ((s.drop 1).take (i - 1)) (s.drop i) else none
theorem dfAt_one (s : Tx) : define E0 s = dfAt s 1 := by
  unfold define dfAt
  cases s with
  | nil => rfl
  | cons c t =>
    by_cases h : c = 91
    · subst h; simp
    · have : ¬ (c :: t).head? = some 91 := by simpa using h
      rw [if_neg this]
      split
      · rename_i he; simp at he; exact absurd he.1 h
      · rfl
theorem dfAt_end (s : Tx) (i : Nat) (h : s.length ≤ i + 3) : dfAt s i = none := by
  unfold dfAt
  split
  · exact df_short _ _ (by rw [List.length_drop]; omega)
  · rfl
theorem take_one (s : Tx) (i : Nat) (h1 : 1 ≤ i) (h : i < s.length) : (s.drop 1).take (i - 1) ++ [s[i]] = (s.drop 1).take (i + 1 - 1) := by
  have e : i + 1 - 1 = (i - 1) + 1 := by omega
  rw [e, List.take_succ_eq_append_getElem (by rw [List.length_drop]; omega)]
  congr 2
  rw [List.getElem_drop]
  congr 1
  omega
theorem dfAt_no (s : Tx) (i : Nat) (h1 : 1 ≤ i) (h : i + 3 < s.length) (hx : ¬ (s[0] = 91 ∧ s[i] = 93 ∧ s[i + 1] = 58 ∧ s[i + 2] = 32)) : dfAt s i = dfAt s (i + 1) := by
  unfold dfAt
  by_cases h0 : s.head? = some 91
  · rw [if_pos h0, if_pos h0, List.drop_eq_getElem_cons (show i < s.length by omega), df_skip, take_one s i h1 (by omega)]
    rintro ⟨d, h3, h4⟩
    refine hx ⟨?_, h3, ?_, ?_⟩
    · rw [List.head?_eq_getElem?, List.getElem?_eq_getElem (by omega)] at h0; exact Option.some.inj h0
    · rw [List.drop_eq_getElem_cons (show i + 1 < s.length by omega)] at h4
      exact (List.cons.inj h4).1
    · rw [List.drop_eq_getElem_cons (show i + 1 < s.length by omega), List.drop_eq_getElem_cons (show i + 1 + 1 < s.length by omega)] at h4
      exact (List.cons.inj (List.cons.inj h4).2).1
  · rw [if_neg h0, if_neg h0]
theorem dfAt_yes (s : Tx) (i : Nat) (h1 : 1 ≤ i) (h : i + 3 < s.length) (e0 : s[0] = 91) (e1 : s[i] = 93) (e2 : s[i + 1] = 58) (e3 : s[i + 2] = 32) :
    dfAt s i = if labB ((s.drop 1).take (i - 1)) && dsB (s.drop (i + 3)) then some ((s.drop 1).take (i - 1), s.drop (i + 3)) else dfAt s (i + 1) := by
  have h0 : s.head? = some 91 := by rw [List.head?_eq_getElem?, List.getElem?_eq_getElem (by omega), e0]
  unfold dfAt
  rw [if_pos h0, if_pos h0, List.drop_eq_getElem_cons (show i < s.length by omega), List.drop_eq_getElem_cons (show i + 1 < s.length by omega), List.drop_eq_getElem_cons (show i + 1 + 1 < s.length by omega)]
  have e3' : s[i + 1 + 1] = 32 := e3
  rw [e1, e2, e3', df_here, lab_eq, dest_eq]
  have := take_one s i h1 (by omega)
  rw [e1] at this
  rw [this]

end Go.Proofs.YtpenjdnbnacebaaDoor.Kd
