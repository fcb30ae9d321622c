/-
  CONTRACTS of the document's code, dest (emendationref08).
-/
import Derived.Test.YtjgmfgnfdaeelaaDoorSiTicks
namespace Go.Proofs.YtjgmfgnfdaeelaaDoor.Sp
open Go.RowKit
open Go.Proofs.YtjgmfgnfdaeelaaDoor.Tk (S S_of S_list S_size S_toList S_app ret_int eq8 ne8 at_data len_data)
open Go.Proofs.YtjgmfgnfdaeelaaDoor.Cm (calls_at)
set_option linter.unusedVariables false

theorem code_step (n f : Nat) (acc : List UInt8) (b : UInt8) (r : List UInt8) : code n (f + 1) acc (b :: r) = if b = 10 then none else if ticks (b :: r) = n then some (acc, (b :: r).drop n) else code n f (acc ++ (b :: r).take (max (ticks (b :: r)) 1)) ((b :: r).drop (max (ticks (b :: r)) 1)) := rfl
theorem code_fuel (n : Nat) : ∀ (m f f' : Nat) (acc t : List UInt8), t.length ≤ m → t.length < f → t.length < f' → code n f acc t = code n f' acc t
  | m, f + 1, f' + 1, acc, [], _, _, _ => rfl
  | 0, f, f', acc, b :: r, h, _, _ => by simp at h
  | m + 1, f + 1, f' + 1, acc, b :: r, h, h1, h2 => by
    rw [code_step, code_step]
    have hd := @drop_lt b r
    rw [code_fuel n m f f' _ ((b :: r).drop (max (ticks (b :: r)) 1)) (by omega) (by omega) (by omega)]
/-- The code that n backticks close, behind a place. -/
def codeAt (l : List UInt8) (j n : Nat) (acc : List UInt8) : Option (List UInt8 × List UInt8) := code n ((l.drop j).length + 1) acc (l.drop j)
def cdAns (N : Nat) : Option (List UInt8 × List UInt8) → List UInt8 × Int
  | some (x, t) => (strip x, ((N - t.length : Nat) : Int))
  | none => ([], -1)
theorem drop_drop' (l : List UInt8) (a b : Nat) : (l.drop a).drop b = l.drop (a + b) := by rw [List.drop_drop]
theorem codeAt_step (s : ByteArray) (j n : Nat) (acc : List UInt8) (h : j < s.size) :
    codeAt s.data.toList j n acc = if s[j] = 10 then none else if ticks (s.data.toList.drop j) = n then some (acc, s.data.toList.drop (j + n)) else codeAt s.data.toList (j + max (ticks (s.data.toList.drop j)) 1) n (acc ++ (s.data.toList.drop j).take (max (ticks (s.data.toList.drop j)) 1)) := by
  unfold codeAt
  have hd := at_data s j h
  obtain ⟨T, hT⟩ : ∃ T, s.data.toList.drop j = T := ⟨_, rfl⟩
  have hl : T.length = s.data.toList.length - j := by rw [← hT, List.length_drop]
  rw [hT] at hd
  have e1 : s.data.toList.drop (j + n) = T.drop n := by rw [← hT, drop_drop']
  have e2 : s.data.toList.drop (j + max (ticks T) 1) = T.drop (max (ticks T) 1) := by rw [← hT, drop_drop']
  rw [hT, e1, e2]
  rw [hd, code_step]
  congr 1
  congr 1
  rw [← hd]
  refine code_fuel n T.length _ _ _ _ (by rw [List.length_drop]; omega) ?_ (by omega)
  rw [hd] at *
  have := @drop_lt s[j] (s.data.toList.drop (j + 1))
  omega
theorem codeAt_end (s : ByteArray) (j n : Nat) (acc : List UInt8) (h : ¬ j < s.size) : codeAt s.data.toList j n acc = none := by
  unfold codeAt
  rw [drop_all s j h]
  rfl
theorem ext_list (s : ByteArray) (a b : Nat) : (s.extract a b).data.toList = (s.data.toList.drop a).take (b - a) := by
  rw [ByteArray.data_extract, Array.toList_extract, List.extract_eq_take_drop]
theorem take_more (l : List UInt8) (a j m : Nat) (h : a ≤ j) : (l.drop a).take (j - a) ++ (l.drop j).take m = (l.drop a).take (j + m - a) := by
  rw [show j + m - a = (j - a) + m by omega, List.take_add, drop_drop', show a + (j - a) = j by omega]

theorem sliceS (x : ByteArray) (m k : Nat) (h1 : m ≤ k) (h2 : k ≤ x.size) (w : World) :
    (Instr.slice 9 (.string x) (some (.int .i64 (m : Int))) (some (.int .i64 (k : Int))) none).run Tryd.prog w = .ok (.string (x.extract m k)) w := by
  have h3 : (m : Int) ≤ (k : Int) := by omega
  have h4 : (k : Int) ≤ (x.size : Int) := by omega
  have h5 : 0 ≤ (m : Int) := by omega
  go_simp
/-! Where to. -/
theorem dcB_eq (c : UInt8) : destB c = dcB c := by
  unfold destB dcB alB
  have h : ∀ n : Nat, n < 256 → (decide (UInt8.ofNat n ≤ c) = decide ((n : Int) ≤ (c.toNat : Int))) ∧ (decide (c ≤ UInt8.ofNat n) = decide ((c.toNat : Int) ≤ (n : Int))) := fun n hn => by
    have e : (UInt8.ofNat n).toNat = n := by rw [UInt8.toNat_ofNat']; omega
    constructor
    · apply decide_eq_decide.2
      rw [UInt8.le_iff_toNat_le, e]
      omega
    · apply decide_eq_decide.2
      rw [UInt8.le_iff_toNat_le, e]
      omega
  have m : [46, 47, 95, 45, 35, 63, 38, 58, 37].contains c = marksL.any (fun b => decide (c = b)) := by
    rw [Bool.eq_iff_iff, List.contains_iff_mem, List.any_eq_true]
    constructor
    · intro hm; exact ⟨c, hm, by simp⟩
    · rintro ⟨x, hx, he⟩
      have e : c = x := by simpa using he
      rw [e]; exact hx
  rw [m]
  have a1 := (h 97 (by omega)).1
  have a2 := (h 122 (by omega)).2
  have a3 := (h 65 (by omega)).1
  have a4 := (h 90 (by omega)).2
  have a5 := (h 48 (by omega)).1
  have a6 := (h 57 (by omega)).2
  have o97 : (UInt8.ofNat 97) = 97 := rfl
  have o122 : (UInt8.ofNat 122) = 122 := rfl
  have o65 : (UInt8.ofNat 65) = 65 := rfl
  have o90 : (UInt8.ofNat 90) = 90 := rfl
  have o48 : (UInt8.ofNat 48) = 48 := rfl
  have o57 : (UInt8.ofNat 57) = 57 := rfl
  rw [o97] at a1
  rw [o122] at a2
  rw [o65] at a3
  rw [o90] at a4
  rw [o48] at a5
  rw [o57] at a6
  rw [a1, a2, a3, a4, a5, a6]
  rfl
def dsAns (N : Nat) : Option (List UInt8 × List UInt8) → List UInt8 × Int
  | some (x, t) => (x, ((N - t.length : Nat) : Int))
  | none => ([], -1)
/-- .. behind the ( and what has been read of it. -/
def destOn (tw t : List UInt8) : Option (List UInt8 × List UInt8) :=
  match t.dropWhile destB with
  | 41 :: r => if tw ++ t.takeWhile destB = [] then none else some (tw ++ t.takeWhile destB, r)
  | _ => none
theorem dest_on (t : List UInt8) : dest (40 :: t) = destOn [] t := by
  unfold dest destOn
  rfl
theorem destOn_yes (tw : List UInt8) (c : UInt8) (r : List UInt8) (h : dcB c = true) : destOn tw (c :: r) = destOn (tw ++ [c]) r := by
  unfold destOn
  rw [← dcB_eq] at h
  rw [List.dropWhile_cons_of_pos h, List.takeWhile_cons_of_pos h]
  simp
theorem destOn_no (tw : List UInt8) (c : UInt8) (r : List UInt8) (h : dcB c = false) : destOn tw (c :: r) = if c = 41 then (if tw = [] then none else some (tw, r)) else none := by
  unfold destOn
  rw [← dcB_eq] at h
  have h' : ¬ destB c = true := by rw [h]; simp
  rw [List.dropWhile_cons_of_neg h', List.takeWhile_cons_of_neg h', List.append_nil]
  by_cases hc : c = 41
  · subst hc; rfl
  · rw [if_neg hc]
    split
    · rename_i r' he
      simp at he
      exact absurd he.1 hc
    · rfl
theorem destOn_nil (tw : List UInt8) : destOn tw [] = none := rfl
theorem dest_not {t : List UInt8} (h : t.head? ≠ some 40) : dest t = none := by
  unfold dest
  split
  · exact absurd rfl h
  · rfl
theorem ext_one' (x : ByteArray) (k : Nat) (h : k < x.size) : (x.extract k (k + 1)).data.toList = [x[k]] := by
  rw [ext_list, at_data x k h, show k + 1 - k = 1 by omega]
  rfl
theorem dsB_one (c : UInt8) : dsB [c] = dcB c := by unfold dsB; simp

end Go.Proofs.YtjgmfgnfdaeelaaDoor.Sp
