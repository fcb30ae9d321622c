/-
  READING SPANS, in plain words: a text without the bytes that mean something; one with all of them escaped. No program.
-/
import Derived.Test.YtjgmfgnfdaeelaaDoorSiStep
namespace Go.Proofs.YtjgmfgnfdaeelaaDoor.Sp
open Go.Proofs.YtjgmfgnfdaeelaaDoor.Tk (cls at_data len_data)
set_option linter.unusedVariables false

def spcB (c : UInt8) : Bool := decide (c = 92) || decide (c = 42) || decide (c = 91) || decide (c = 93) || decide (c = 96)
def noSp (l : List UInt8) : List UInt8 := l.filter (fun c => !spcB c)
def escA (l : List UInt8) : List UInt8 := l.flatMap (fun c => if cls c = 4 then [92, c] else [c])
theorem spc_no {c : UInt8} (h : spcB c = false) : c ≠ 92 ∧ c ≠ 42 ∧ c ≠ 91 ∧ c ≠ 93 ∧ c ≠ 96 := by
  unfold spcB at h
  simp only [Bool.or_eq_false_iff, decide_eq_false_iff_not] at h
  exact ⟨h.1.1.1.1, h.1.1.1.2, h.1.1.2, h.1.2, h.2⟩
theorem stp_plain {e l : Bool} {c : UInt8} (h : spcB c = false) (r : List UInt8) : stp e l c r = .text [c] r := by
  obtain ⟨h1, h2, h3, h4, h5⟩ := spc_no h
  unfold stp stepOf
  rw [if_neg (by rintro (⟨h, _⟩ | ⟨h, _⟩); exact h2 h; exact h4 h), if_neg (fun h => h1 h.1), if_neg h5, if_neg h2, if_neg (fun h => h3 h.1)]
theorem cls_spc {c : UInt8} (h : cls c ≠ 4) : spcB c = false := by
  cases hs : spcB c with
  | false => rfl
  | true =>
    exfalso
    unfold spcB at hs
    simp only [Bool.or_eq_true, decide_eq_true_eq] at hs
    rcases hs with (((rfl | rfl) | rfl) | rfl) | rfl <;> exact h (by decide)
def oneT (t : List UInt8) : List Sp := if t = [] then [] else [.mk 1 t []]
theorem oneT_cons (c : UInt8) (r : List UInt8) : consT [c] (oneT r) = oneT (c :: r) := by
  cases r with
  | nil => rfl
  | cons d r => rfl
theorem Rdr_noSp (e l : Bool) : ∀ t : List UInt8, (∀ c ∈ t, spcB c = false) → (Rdr e l t).1 = oneT t
  | [], _ => rfl
  | c :: r, h => by
    rw [Rdr_cons, stp_plain (h c (List.mem_cons_self ..))]
    show consT [c] (Rdr e l r).1 = _
    rw [Rdr_noSp e l r (fun x hx => h x (List.mem_cons_of_mem _ hx)), oneT_cons]
theorem noSp_all (t : List UInt8) : ∀ c ∈ noSp t, spcB c = false := fun c hc => by
  have := (List.mem_filter.1 hc).2
  simpa using this
theorem Rdr_escA (e l : Bool) : ∀ t : List UInt8, (Rdr e l (escA t)).1 = oneT t
  | [] => rfl
  | c :: r => by
    have ih := Rdr_escA e l r
    have he : escA (c :: r) = (if cls c = 4 then [92, c] else [c]) ++ escA r := by unfold escA; rw [List.flatMap_cons]
    rw [he]
    by_cases h : cls c = 4
    · rw [if_pos h]
      show (Rdr e l (92 :: (c :: escA r))).1 = _
      have hs : stp e l 92 (c :: escA r) = .text [c] (escA r) := by
        unfold stp stepOf
        rw [if_neg (by rintro (⟨h, _⟩ | ⟨h, _⟩) <;> exact absurd h (by decide)), if_pos ⟨rfl, by simp [h]⟩]
        rfl
      rw [Rdr_cons, hs]
      show consT [c] (Rdr e l (escA r)).1 = _
      rw [ih, oneT_cons]
    · rw [if_neg h]
      show (Rdr e l (c :: escA r)).1 = _
      rw [Rdr_cons, stp_plain (cls_spc h)]
      show consT [c] (Rdr e l (escA r)).1 = _
      rw [ih, oneT_cons]
theorem noSp_snoc (l : List UInt8) (c : UInt8) : noSp (l ++ [c]) = noSp l ++ (if spcB c = true then [] else [c]) := by
  unfold noSp
  rw [List.filter_append]
  cases h : spcB c <;> simp [h]
theorem escA_snoc (l : List UInt8) (c : UInt8) : escA (l ++ [c]) = escA l ++ (if cls c = 4 then [92, c] else [c]) := by
  unfold escA
  rw [List.flatMap_append]
  simp
theorem noSp_len (l : List UInt8) : (noSp l).length ≤ l.length := List.length_filter_le _ _
theorem escA_len : ∀ l : List UInt8, (escA l).length ≤ 2 * l.length
  | [] => Nat.le_refl _
  | c :: r => by
    have ih := escA_len r
    have he : escA (c :: r) = (if cls c = 4 then [92, c] else [c]) ++ escA r := by unfold escA; rw [List.flatMap_cons]
    rw [he, List.length_append, List.length_cons]
    split <;> simp <;> omega
theorem take_snoc (s : ByteArray) (k : Nat) (h : k < s.size) : s.data.toList.take (k + 1) = s.data.toList.take k ++ [s[k]] := by
  rw [List.take_add, at_data s k h]
  rfl
theorem cls4_iff (c : UInt8) : cls c = 4 ↔ (33 ≤ (c.toNat : Int) ∧ (c.toNat : Int) ≤ 47) ∨ (58 ≤ (c.toNat : Int) ∧ (c.toNat : Int) ≤ 64) ∨ (91 ≤ (c.toNat : Int) ∧ (c.toNat : Int) ≤ 96) ∨ (123 ≤ (c.toNat : Int) ∧ (c.toNat : Int) ≤ 126) := by
  unfold cls
  have e : ∀ d : UInt8, (c = d ↔ (c.toNat : Int) = d.toNat) := fun d => ⟨fun h => by rw [h], fun h => UInt8.toNat_inj.1 (by omega)⟩
  have l : ∀ d : UInt8, (c ≤ d ↔ (c.toNat : Int) ≤ d.toNat) := fun d => by rw [UInt8.le_iff_toNat_le]; omega
  have g : ∀ d : UInt8, (d ≤ c ↔ (d.toNat : Int) ≤ c.toNat) := fun d => by rw [UInt8.le_iff_toNat_le]; omega
  simp only [e, l, g]
  generalize (c.toNat : Int) = x
  show (if x = 10 ∨ x = 13 then (3 : Nat) else if x = 9 ∨ x = 32 then 2 else if (33 ≤ x ∧ x ≤ 47) ∨ (58 ≤ x ∧ x ≤ 64) ∨ (91 ≤ x ∧ x ≤ 96) ∨ (123 ≤ x ∧ x ≤ 126) then 4 else 1) = 4 ↔ _
  constructor
  · intro h
    split at h
    · cases h
    · split at h
      · cases h
      · split at h
        · assumption
        · cases h
  · intro h
    rw [if_neg (by omega), if_neg (by omega), if_pos h]

end Go.Proofs.YtjgmfgnfdaeelaaDoor.Sp
