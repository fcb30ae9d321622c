/-
  Several texts in one:
  LINES, in plain words: runs, longest runs, trimming, splitting and joining as functions on lists of bytes, and what is true of them. No program.
  CONTRACTS of lines.Run, lines.Longest, lines.Trim, lines.Blank and of the document's Run, Longest, gap, Trim (emendationref02).
  CONTRACTS of lines.Trim, lines.Blank and of the document's Longest, gap, Trim (emendationref02).
-/
import Derived.Lib.SlTrimSet
import Derived.Lib.Join
import Derived.Lib.Strings
import Derived.Lib.Hide
import Derived.Test.YtpenjdnbnacebaaDoorShelf
import Derived.Shelf.Strings.SlTrimAscii
import Derived.WalkKit
import Derived.Laws.IdiomStrings
import Derived.Deep.QuietTactic
import Derived.Lib.MinMax
namespace Go.Proofs.YtpenjdnbnacebaaDoor.Ln
set_option linter.unusedVariables false

/-- A list of bytes as a string. -/
def S (l : List UInt8) : ByteArray := ⟨l.toArray⟩
theorem S_size (l : List UInt8) : (S l).size = l.length := by simp [S, ByteArray.size]
theorem S_app (l m : List UInt8) : S l ++ S m = S (l ++ m) := by
  apply ByteArray.ext
  rw [ByteArray.data_append]
  simp [S]
theorem S_list (l : List UInt8) : (S l).data.toList = l := by simp [S]
theorem S_toList (l : List UInt8) : (S l).toList = l := by rw [Lib.toList_data, S_list]
theorem S_of (s : ByteArray) : S s.data.toList = s := by
  apply ByteArray.ext
  simp [S]
theorem drop_cons (l : List UInt8) (k : Nat) (h : k < l.length) : l.drop k = l[k] :: l.drop (k + 1) := List.drop_eq_getElem_cons h

/-! Runs. -/
def run (c : UInt8) : List UInt8 → Nat
  | [] => 0
  | b :: r => if b = c then run c r + 1 else 0
theorem run_le (c : UInt8) : ∀ l, run c l ≤ l.length
  | [] => Nat.le_refl _
  | b :: r => by
    have := run_le c r
    unfold run
    split <;> simp <;> omega
theorem run_yes {c b : UInt8} (h : b = c) (r : List UInt8) : run c (b :: r) = run c r + 1 := if_pos h
theorem run_no {c b : UInt8} (h : b ≠ c) (r : List UInt8) : run c (b :: r) = 0 := if_neg h
theorem run_app (c : UInt8) : ∀ a b : List UInt8, run c (a ++ b) = if run c a = a.length then run c a + run c b else run c a
  | [], b => by simp [run]
  | x :: a, b => by
    have ih := run_app c a b
    by_cases h : x = c
    · rw [List.cons_append, run_yes h, run_yes h, ih]
      by_cases e : run c a = a.length
      · rw [if_pos e, if_pos (by simp [e])]; omega
      · rw [if_neg e, if_neg (by simp; exact e)]
    · rw [List.cons_append, run_no h, run_no h]
      simp

/-- The longest run, as a maximum. -/
def mx (c : UInt8) : List UInt8 → Nat
  | [] => 0
  | b :: r => max (run c (b :: r)) (mx c r)
theorem run_le_mx (c : UInt8) : ∀ l, run c l ≤ mx c l
  | [] => Nat.le_refl _
  | b :: r => Nat.le_max_left _ _
theorem mx_le (c : UInt8) : ∀ l, mx c l ≤ l.length
  | [] => Nat.le_refl _
  | b :: r => by
    have h1 := mx_le c r
    have h2 := run_le c (b :: r)
    show max _ _ ≤ _
    simp only [List.length_cons] at h2 ⊢
    omega
/-- The longest run, gone through from the left: the most so far, and the run that stands at the end. -/
def lg (c : UInt8) (m n : Nat) : List UInt8 → Nat
  | [] => m
  | b :: r => if b = c then lg c (max m (n + 1)) (n + 1) r else lg c m 0 r
theorem lg_eq (c : UInt8) : ∀ (l : List UInt8) (m n : Nat), n ≤ m → lg c m n l = max m (max (n + run c l) (mx c l))
  | [], m, n, h => by
    show m = max m (max (n + 0) 0)
    omega
  | b :: r, m, n, h => by
    have h0 := run_le_mx c r
    unfold lg
    by_cases e : b = c
    · rw [if_pos e, lg_eq c r _ _ (Nat.le_max_right _ _), run_yes e]
      show _ = max m (max _ (max (run c (b :: r)) (mx c r)))
      rw [run_yes e]
      omega
    · rw [if_neg e, lg_eq c r _ _ (Nat.zero_le _), run_no e]
      show _ = max m (max _ (max (run c (b :: r)) (mx c r)))
      rw [run_no e]
      omega
theorem lg_mx (c : UInt8) (l : List UInt8) : lg c 0 0 l = mx c l := by
  have := run_le_mx c l
  rw [lg_eq c l 0 0 (Nat.le_refl _)]
  omega
theorem lg_yes {c b : UInt8} (h : b = c) (m n : Nat) (r : List UInt8) : lg c m n (b :: r) = lg c (max m (n + 1)) (n + 1) r := if_pos h
theorem lg_no {c b : UInt8} (h : b ≠ c) (m n : Nat) (r : List UInt8) : lg c m n (b :: r) = lg c m 0 r := if_neg h
/-- The run at the end. -/
def nw (c : UInt8) (n : Nat) : List UInt8 → Nat
  | [] => n
  | b :: r => if b = c then nw c (n + 1) r else nw c 0 r
theorem nw_snoc (c : UInt8) (b : UInt8) : ∀ (l : List UInt8) (n : Nat), nw c n (l ++ [b]) = if b = c then nw c n l + 1 else 0
  | [], n => by simp [nw]
  | x :: r, n => by
    rw [List.cons_append]
    unfold nw
    by_cases h : x = c
    · rw [if_pos h, if_pos h, nw_snoc c b r]
    · rw [if_neg h, if_neg h, nw_snoc c b r]
theorem nw_rev (c : UInt8) : ∀ l : List UInt8, nw c 0 l.reverse = run c l
  | [] => rfl
  | b :: r => by
    rw [List.reverse_cons, nw_snoc, nw_rev c r]
    by_cases h : b = c
    · rw [if_pos h, run_yes h]
    · rw [if_neg h, run_no h]
theorem nw_eq (c : UInt8) (l : List UInt8) : nw c 0 l = run c l.reverse := by
  rw [← nw_rev, List.reverse_reverse]
theorem lg_app (c : UInt8) : ∀ (a b : List UInt8) (m n : Nat), n ≤ m → lg c m n (a ++ b) = lg c (lg c m n a) (nw c n a) b ∧ nw c n a ≤ lg c m n a
  | [], b, m, n, h => ⟨rfl, h⟩
  | x :: a, b, m, n, h => by
    rw [List.cons_append]
    by_cases e : x = c
    · rw [lg_yes e, lg_yes e, show nw c n (x :: a) = nw c (n + 1) a from if_pos e]; exact lg_app c a b _ _ (Nat.le_max_right _ _)
    · rw [lg_no e, lg_no e, show nw c n (x :: a) = nw c 0 a from if_neg e]; exact lg_app c a b _ _ (Nat.zero_le _)
theorem mx_app (c : UInt8) (a b : List UInt8) : mx c (a ++ b) = max (max (mx c a) (mx c b)) (run c a.reverse + run c b) := by
  have h := lg_app c a b 0 0 (Nat.le_refl _)
  rw [← lg_mx, h.1, lg_eq c b _ _ h.2, lg_mx, nw_eq]
  omega
theorem mx_zero (c : UInt8) : ∀ l, mx c l = 0 → c ∉ l
  | [], _ => by simp
  | b :: r, h => by
    have h1 : max (run c (b :: r)) (mx c r) = 0 := h
    have h2 := mx_zero c r (by omega)
    have h3 : b ≠ c := fun e => by rw [run_yes e] at h1; omega
    intro hm
    rcases List.mem_cons.1 hm with rfl | hm
    · exact h3 rfl
    · exact h2 hm
theorem mx_none (c : UInt8) : ∀ l, c ∉ l → mx c l = 0
  | [], _ => rfl
  | b :: r, h => by
    have h2 := mx_none c r (fun hm => h (List.mem_cons_of_mem _ hm))
    have h3 : b ≠ c := fun e => h (by rw [e]; exact List.mem_cons_self ..)
    show max (run c (b :: r)) (mx c r) = 0
    rw [run_no h3, h2]
    rfl

/-! Trimming. -/
def gapB (b : UInt8) : Bool := b == 32 || b == 9
def dl (l : List UInt8) : List UInt8 := l.dropWhile gapB
def dr (l : List UInt8) : List UInt8 := (l.reverse.dropWhile gapB).reverse
def trim (l : List UInt8) : List UInt8 := dl (dr l)
theorem trimS_eq (l : List UInt8) : Lib.trimS l [32, 9] = trim l := by
  have h : (fun b : UInt8 => [32, 9].contains b) = gapB := by
    funext b
    show (b == 32 || (b == 9 || false)) = _
    rw [Bool.or_false]; rfl
  unfold Lib.trimS Lib.trimLeftS Lib.trimRightS trim dl dr
  rw [h]
theorem dl_yes {b : UInt8} (h : gapB b = true) (r : List UInt8) : dl (b :: r) = dl r := by unfold dl; rw [List.dropWhile_cons_of_pos h]
theorem dl_no {b : UInt8} (h : gapB b = false) (r : List UInt8) : dl (b :: r) = b :: r := by unfold dl; rw [List.dropWhile_cons_of_neg (by simp [h])]
theorem dr_yes {b : UInt8} (h : gapB b = true) (l : List UInt8) : dr (l ++ [b]) = dr l := by
  unfold dr; rw [List.reverse_append]; show (List.dropWhile gapB (b :: l.reverse)).reverse = _; rw [List.dropWhile_cons_of_pos h]
theorem dr_no {b : UInt8} (h : gapB b = false) (l : List UInt8) : dr (l ++ [b]) = l ++ [b] := by
  unfold dr; rw [List.reverse_append]; show (List.dropWhile gapB (b :: l.reverse)).reverse = _; rw [List.dropWhile_cons_of_neg (by simp [h])]; simp
theorem dr_cons (b : UInt8) (r : List UInt8) : dr (b :: r) = if dr r = [] then (if gapB b then [] else [b]) else b :: dr r := by
  unfold dr
  rw [List.reverse_cons, List.dropWhile_append]
  by_cases h : (r.reverse.dropWhile gapB).isEmpty = true
  · rw [if_pos h, if_pos (by rw [List.isEmpty_iff.1 h]; rfl)]
    cases hg : gapB b with
    | true => rw [List.dropWhile_cons_of_pos hg]; rfl
    | false => rw [List.dropWhile_cons_of_neg (by simp [hg])]; rfl
  · rw [if_neg h, if_neg (by simpa using h)]
    simp
theorem dr_dl : ∀ l : List UInt8, dr (dl l) = dl (dr l)
  | [] => rfl
  | b :: r => by
    have ih := dr_dl r
    cases h : gapB b with
    | true =>
      rw [dl_yes h, ih, dr_cons, h]
      by_cases e : dr r = []
      · rw [if_pos e, e]; rfl
      · rw [if_neg e, dl_yes h]
    | false =>
      rw [dl_no h, dr_cons, h]
      by_cases e : dr r = []
      · rw [if_pos e]; simp [dl_no h]
      · rw [if_neg e, dl_no h]
theorem dl_len (l : List UInt8) : (dl l).length ≤ l.length := (List.dropWhile_sublist _).length_le
theorem dr_len (l : List UInt8) : (dr l).length ≤ l.length := by
  unfold dr
  rw [List.length_reverse]
  have := (List.dropWhile_sublist (l := l.reverse) gapB).length_le
  rwa [List.length_reverse] at this
theorem trim_len (l : List UInt8) : (trim l).length ≤ l.length := Nat.le_trans (dl_len _) (dr_len _)
theorem dl_head : ∀ (l : List UInt8) (b : UInt8), (dl l).head? = some b → gapB b = false
  | [], b, h => by simp [dl] at h
  | x :: r, b, h => by
    cases hx : gapB x with
    | true => rw [dl_yes hx] at h; exact dl_head r b h
    | false => rw [dl_no hx] at h; simp at h; rw [← h]; exact hx
theorem dr_last (l : List UInt8) (b : UInt8) (h : (dr l).getLast? = some b) : gapB b = false := by
  unfold dr at h
  rw [List.getLast?_reverse] at h
  exact dl_head l.reverse b h
theorem dl_fix (l : List UInt8) (h : ∀ b, l.head? = some b → gapB b = false) : dl l = l := by
  cases l with
  | nil => rfl
  | cons b r => exact dl_no (h b rfl) r
theorem dr_fix (l : List UInt8) (h : ∀ b, l.getLast? = some b → gapB b = false) : dr l = l := by
  unfold dr
  have := dl_fix l.reverse (fun b hb => h b (by rw [List.head?_reverse] at hb; exact hb))
  unfold dl at this
  rw [this, List.reverse_reverse]
theorem trim_head (l : List UInt8) (b : UInt8) (h : (trim l).head? = some b) : gapB b = false := dl_head _ b h
theorem trim_last (l : List UInt8) (b : UInt8) (h : (trim l).getLast? = some b) : gapB b = false := by
  unfold trim at h
  rw [← dr_dl] at h
  exact dr_last _ b h
theorem trim_trim (l : List UInt8) : trim (trim l) = trim l := by
  show dl (dr (trim l)) = trim l
  rw [dr_fix _ (trim_last l), dl_fix _ (trim_head l)]

/-! Splitting. -/
def strip (l : List UInt8) : List UInt8 := if l.getLast? = some 13 then l.dropLast else l
/-- The lines of what is left, behind what the line that is open holds. -/
def ls : List UInt8 → List UInt8 → List (List UInt8) × Bool
  | cur, [] => if cur = [] then ([], true) else ([cur], false)
  | cur, b :: r =>
    if b = 10 then (strip cur :: (ls [] r).1, (ls [] r).2)
    else if b = 13 ∧ r.head? ≠ some 10 then (cur :: (ls [] r).1, (ls [] r).2)
    else ls (cur ++ [b]) r
def split (l : List UInt8) : List (List UInt8) × Bool := ls [] l
theorem ls_lf (cur r : List UInt8) : ls cur (10 :: r) = (strip cur :: (ls [] r).1, (ls [] r).2) := by rw [ls, if_pos rfl]
theorem ls_cr (cur r : List UInt8) (h : r.head? ≠ some 10) : ls cur (13 :: r) = (cur :: (ls [] r).1, (ls [] r).2) := by rw [ls, if_neg (by decide), if_pos ⟨rfl, h⟩]
theorem ls_crlf (cur r : List UInt8) : ls cur (13 :: 10 :: r) = ls (cur ++ [13]) (10 :: r) := by
  rw [ls, if_neg (by decide), if_neg (by simp)]
theorem ls_on (cur : List UInt8) (b : UInt8) (r : List UInt8) (h1 : b ≠ 10) (h2 : b ≠ 13) : ls cur (b :: r) = ls (cur ++ [b]) r := by
  rw [ls, if_neg h1, if_neg (fun h => h2 h.1)]
theorem strip_snoc (cur : List UInt8) : strip (cur ++ [13]) = cur := by simp [strip]
theorem strip_id (cur : List UInt8) (h : (13 : UInt8) ∉ cur) : strip cur = cur := by
  unfold strip
  rw [if_neg (fun e => h (List.mem_of_getLast? e))]
theorem ls_two (cur r : List UInt8) : ls cur (13 :: 10 :: r) = (cur :: (ls [] r).1, (ls [] r).2) := by rw [ls_crlf, ls_lf, strip_snoc]
theorem ls_run (r : List UInt8) : ∀ (x cur : List UInt8), (10 : UInt8) ∉ x → (13 : UInt8) ∉ x → ls cur (x ++ r) = ls (cur ++ x) r
  | [], cur, _, _ => by simp
  | b :: x, cur, h1, h2 => by
    rw [List.cons_append, ls_on _ _ _ (fun e => h1 (by simp [e])) (fun e => h2 (by simp [e])), ls_run r x _ (fun h => h1 (List.mem_cons_of_mem _ h)) (fun h => h2 (List.mem_cons_of_mem _ h)), List.append_assoc]
    rfl
theorem ls_len : ∀ (r cur : List UInt8), (ls cur r).1.length ≤ r.length + 1
  | [], cur => by
    unfold ls
    split <;> simp
  | b :: r, cur => by
    have h1 := ls_len r []
    have h2 := ls_len r (cur ++ [b])
    unfold ls
    split
    · simp; omega
    · split
      · simp; omega
      · simp only [List.length_cons]; omega
theorem ls_mem : ∀ (r cur : List UInt8) (x : List UInt8), x ∈ (ls cur r).1 → x.length ≤ cur.length + r.length
  | [], cur, x, h => by
    unfold ls at h
    split at h
    · simp at h
    · simp at h; rw [h]; simp
  | b :: r, cur, x, h => by
    have h1 := ls_mem r [] x
    have h2 := ls_mem r (cur ++ [b]) x
    have hs : (strip cur).length ≤ cur.length := by unfold strip; split <;> simp
    unfold ls at h
    split at h
    · rcases List.mem_cons.1 h with rfl | h
      · simp; omega
      · have := h1 h; simp at this ⊢; omega
    · split at h
      · rcases List.mem_cons.1 h with rfl | h
        · simp
        · have := h1 h; simp at this ⊢; omega
      · have := h2 h; simp at this ⊢; omega
/-- A text with a line end, and another one behind it. -/
theorem ls_parts (b : List UInt8) : ∀ (a cur : List UInt8), ls cur (a ++ 10 :: b) = ((ls cur (a ++ [10])).1 ++ (ls [] b).1, (ls [] b).2) ∧ (ls cur (a ++ [10])).1 ≠ []
  | [], cur => by
    rw [List.nil_append, List.nil_append, ls_lf, ls_lf]
    exact ⟨by simp [ls], by simp⟩
  | c :: a, cur => by
    have h1 := ls_parts b a []
    have h2 := ls_parts b a (cur ++ [c])
    have hh : (a ++ 10 :: b).head? = (a ++ [10]).head? := by cases a <;> rfl
    rw [List.cons_append, List.cons_append]
    by_cases e : c = 10
    · subst e
      rw [ls_lf, ls_lf, h1.1]
      exact ⟨by simp, by simp⟩
    by_cases e2 : c = 13 ∧ (a ++ [10]).head? ≠ some 10
    · obtain ⟨rfl, e3⟩ := e2
      rw [ls_cr _ _ e3, ls_cr _ _ (hh ▸ e3), h1.1]
      exact ⟨by simp, by simp⟩
    · have k1 : ls cur (c :: (a ++ [10])) = ls (cur ++ [c]) (a ++ [10]) := by rw [ls, if_neg e, if_neg e2]
      have k2 : ls cur (c :: (a ++ 10 :: b)) = ls (cur ++ [c]) (a ++ 10 :: b) := by rw [ls, if_neg e, if_neg (hh ▸ e2)]
      rw [k1, k2]
      exact h2

/-! Joining. -/
def jn : List (List UInt8) → Bool → List UInt8
  | [], _ => []
  | [x], e => if e then x ++ [10] else x
  | x :: y :: r, e => x ++ 10 :: jn (y :: r) e
theorem jn_cons2 (x y : List UInt8) (r : List (List UInt8)) (e : Bool) : jn (x :: y :: r) e = x ++ 10 :: jn (y :: r) e := rfl
theorem jn_false : ∀ l, jn l false = Lib.join l [10]
  | [] => by simp [jn, Lib.join, List.intercalate]
  | [x] => by simp [jn, Lib.join, List.intercalate]
  | x :: y :: r => by
    rw [jn_cons2, jn_false (y :: r)]
    simp [Lib.join, List.intercalate]
theorem jn_true : ∀ l, l ≠ [] → jn l true = jn l false ++ [10]
  | [], h => absurd rfl h
  | [x], _ => by simp [jn]
  | x :: y :: r, _ => by
    rw [jn_cons2, jn_cons2, jn_true (y :: r) (by simp)]
    simp
theorem jn_len (n : Nat) : ∀ l e, (∀ x ∈ l, x.length ≤ n) → (jn l e).length ≤ l.length * (n + 1)
  | [], e, _ => by simp [jn]
  | [x], e, h => by
    have := h x (by simp)
    cases e <;> simp [jn] <;> omega
  | x :: y :: r, e, h => by
    have h1 := h x (by simp)
    have h2 := jn_len n (y :: r) e (fun z hz => h z (List.mem_cons_of_mem _ hz))
    rw [jn_cons2]
    simp only [List.length_append, List.length_cons, Nat.succ_mul] at h2 ⊢
    omega
/-- Lines without ends are joined, and split, as they were. -/
theorem split_jn_true : ∀ l, (∀ x ∈ l, (10 : UInt8) ∉ x ∧ (13 : UInt8) ∉ x) → split (jn l true) = (l, true)
  | [], _ => by simp [split, jn, ls]
  | [x], h => by
    obtain ⟨h1, h2⟩ := h x (by simp)
    show ls [] (x ++ 10 :: []) = _
    rw [ls_run _ x [] h1 h2, ls_lf, List.nil_append, strip_id x h2]
    simp [ls]
  | x :: y :: r, h => by
    obtain ⟨h1, h2⟩ := h x (by simp)
    have ih : ls [] (jn (y :: r) true) = _ := split_jn_true (y :: r) (fun z hz => h z (List.mem_cons_of_mem _ hz))
    show ls [] (x ++ 10 :: jn (y :: r) true) = _
    rw [ls_run _ x [] h1 h2, ls_lf, List.nil_append, strip_id x h2, ih]
theorem split_jn_false : ∀ l, l ≠ [] → (∀ x ∈ l, (10 : UInt8) ∉ x ∧ (13 : UInt8) ∉ x) → split (jn l false) = if l.getLast? = some [] then (l.dropLast, true) else (l, false)
  | [], h0, _ => absurd rfl h0
  | [x], _, h => by
    obtain ⟨h1, h2⟩ := h x (by simp)
    show ls [] x = _
    have := ls_run [] x [] h1 h2
    rw [List.append_nil] at this
    rw [this, List.nil_append, ls]
    by_cases e : x = []
    · rw [if_pos e, if_pos (by simp [e])]; simp
    · rw [if_neg e, if_neg (by simp [e])]
  | x :: y :: r, _, h => by
    obtain ⟨h1, h2⟩ := h x (by simp)
    have ih : ls [] (jn (y :: r) false) = _ := split_jn_false (y :: r) (by simp) (fun z hz => h z (List.mem_cons_of_mem _ hz))
    show ls [] (x ++ 10 :: jn (y :: r) false) = _
    rw [ls_run _ x [] h1 h2, ls_lf, List.nil_append, strip_id x h2, ih, List.getLast?_cons_cons]
    split <;> simp

end Go.Proofs.YtpenjdnbnacebaaDoor.Ln

namespace Go.Proofs.YtpenjdnbnacebaaDoor.Ln
open Go.RowKit
set_option linter.unusedVariables false

theorem ret_int {x y : Int} (h : x = y) : Ending.returned (.int .i64 x) = Ending.returned (.int .i64 y) := by rw [h]
theorem eq8 {a b : UInt8} (h : a = b) : ((a.toNat : Int) == (b.toNat : Int)) = true := by simp [h]
theorem ne8 {a b : UInt8} (h : a ≠ b) : ((a.toNat : Int) == (b.toNat : Int)) = false := by
  rw [beq_eq_false_iff_ne]
  intro e
  exact h (UInt8.toNat_inj.1 (by omega))
theorem len_data (s : ByteArray) : s.data.toList.length = s.size := by simp
theorem at_data (s : ByteArray) (k : Nat) (h : k < s.size) : s.data.toList.drop k = s[k] :: s.data.toList.drop (k + 1) := by
  rw [drop_cons _ k (by simpa using h)]; rfl
theorem drop_all (s : ByteArray) (k : Nat) (h : ¬ k < s.size) : s.data.toList.drop k = [] := List.drop_eq_nil_of_le (by simp; omega)

theorem run_any (s : ByteArray) (hs : s.size ≤ 9223372036854775806) (c : UInt8) (w : World) :
    Calls Tryd.prog 40 #[.string s, .int .u8 c.toNat] w fun e w' => e = .returned (.int .i64 (run c s.data.toList)) ∧ w = w' := by
  have H0 := Lib.hid (show run c s.data.toList = 0 + run c (s.data.toList.drop 0) by simp)
  go_enter Tryd.func40, Tryd.ntmps40
  go_wp2_with fail
  go_loop [8] (fun i => ∃ k : Nat, k ≤ s.size ∧ i = .int .i64 k ∧ run c s.data.toList = k + run c (s.data.toList.drop k)) (fun i => s.size - (intOf i).toNat)
  case atStart => exact ⟨0, Nat.zero_le _, rfl, H0.out⟩
  case round =>
    clear H0
    obtain ⟨k, hk, rfl, hr⟩ := hrel
    by_cases hlt : k < s.size
    · rw [at_data s k hlt] at hr
      by_cases hc : s[k] = c
      · rw [run_yes hc] at hr
        have e1 := eq8 hc
        have Hr := Lib.hid hr
        clear hr hc
        go_wp2_with fail
        go_round
        case rel => exact ⟨k + 1, by omega, by go_num, by rw [Hr.out]; omega⟩
        case measure => simp [intOf]; omega
      · rw [run_no hc] at hr
        have e1 := ne8 hc
        have Hr := Lib.hid hr
        clear hr hc
        go_wp2_with fail
        go_ret
        exact ⟨ret_int (by rw [Hr.out]; omega), rfl⟩
    · rw [drop_all s k hlt] at hr
      have Hr := Lib.hid (show run c s.data.toList = s.size by rw [hr]; show k + 0 = _; omega)
      clear hr
      go_wp2_with fail
      go_ret
      exact ⟨ret_int (by rw [Hr.out]), rfl⟩

theorem rrun_any (s : ByteArray) (hs : s.size ≤ 9223372036854775806) (c : UInt8) (w : World) :
    Calls Tryd.prog 28 #[.string s, .int .u8 c.toNat] w fun e w' => e = .returned (.int .i64 (run c s.data.toList)) ∧ w = w' := by
  have H0 := Lib.hid (show run c s.data.toList = 0 + run c (s.data.toList.drop 0) by simp)
  go_enter Tryd.func28, Tryd.ntmps28
  go_wp2_with fail
  go_loop [5] (fun i => ∃ k : Nat, k ≤ s.size ∧ i = .int .i64 k ∧ run c s.data.toList = k + run c (s.data.toList.drop k)) (fun i => s.size - (intOf i).toNat)
  case atStart => exact ⟨0, Nat.zero_le _, rfl, H0.out⟩
  case round =>
    clear H0
    obtain ⟨k, hk, rfl, hr⟩ := hrel
    by_cases hlt : k < s.size
    · rw [at_data s k hlt] at hr
      have d1 : decide ((k : Int) < (s.size : Int)) = true := by simpa using hlt
      by_cases hc : s[k] = c
      · rw [run_yes hc] at hr
        have e1 := eq8 hc
        have Hr := Lib.hid hr
        clear hr hc
        go_wp2_with fail
        go_round
        case rel => exact ⟨k + 1, by omega, by go_num, by rw [Hr.out]; omega⟩
        case measure => simp [intOf]; omega
      · rw [run_no hc] at hr
        have e1 := ne8 hc
        have Hr := Lib.hid hr
        clear hr hc
        go_wp2_with fail
        go_ret
        exact ⟨ret_int (by rw [Hr.out]; omega), rfl⟩
    · rw [drop_all s k hlt] at hr
      have d1 : decide ((k : Int) < (s.size : Int)) = false := by simpa using hlt
      have Hr := Lib.hid (show run c s.data.toList = k by rw [hr]; rfl)
      clear hr
      go_wp2_with fail
      go_ret
      exact ⟨ret_int (by rw [Hr.out]), rfl⟩

end Go.Proofs.YtpenjdnbnacebaaDoor.Ln

namespace Go.Proofs.YtpenjdnbnacebaaDoor.Ln
open Go.RowKit
set_option linter.unusedVariables false

theorem ext_drop (s : ByteArray) (k : Nat) : (s.extract k s.size).data.toList = s.data.toList.drop k := by
  rw [ByteArray.data_extract]
  simp only [Array.toList_extract, List.extract_eq_take_drop]
  exact List.take_of_length_le (by simp)
theorem ext_take (s : ByteArray) (k : Nat) : (s.extract 0 k).data.toList = s.data.toList.take k := by
  rw [ByteArray.data_extract]
  simp
theorem ext_size (s : ByteArray) (k : Nat) : (s.extract k s.size).size = s.size - k := by rw [ByteArray.size_extract]; omega

theorem rlongest_any (s : ByteArray) (hs : s.size ≤ 9223372036854775806) (c : UInt8) (w : World) :
    Calls Tryd.prog 38 #[.string s, .int .u8 c.toNat] w fun e w' => e = .returned (.int .i64 (mx c s.data.toList)) ∧ w = w' := by
  have H0 := Lib.hid (show mx c s.data.toList = max 0 (mx c (s.data.toList.drop 0)) by simp)
  go_enter Tryd.func38, Tryd.ntmps38
  go_wp2_with fail
  go_loop [5, 9] (fun n i => ∃ k a : Nat, k ≤ s.size ∧ i = .int .i64 k ∧ n = .int .i64 a ∧ mx c s.data.toList = max a (mx c (s.data.toList.drop k))) (fun _ i => s.size - (intOf i).toNat)
  case atStart => exact ⟨0, 0, Nat.zero_le _, rfl, rfl, H0.out⟩
  case round =>
    clear H0
    obtain ⟨k, a, hk, rfl, rfl, hr⟩ := hrel
    by_cases hlt : k < s.size
    · have hd := at_data s k hlt
      have hm : mx c (s.data.toList.drop k) = max (run c (s.data.toList.drop k)) (mx c (s.data.toList.drop (k + 1))) := by rw [hd]; rfl
      have hc := rrun_any (s.extract k s.size) (by rw [ext_size]; omega) c
      rw [ext_drop] at hc
      rw [hm] at hr
      generalize run c (s.data.toList.drop k) = q at *
      have Hr := Lib.hid hr
      have Hc := Lib.hid hc
      clear hr hd hm hc
      go_wp2_with (go_at_call 28; refine (Hc.out _).mono ?_; rintro e w' ⟨rfl, rfl⟩)
      go_round
      case rel => exact ⟨k + 1, max a q, by omega, by go_num, by go_num, by rw [Hr.out]; omega⟩
      case measure => simp [intOf]; omega
    · rw [drop_all s k hlt] at hr
      have Hr := Lib.hid (show mx c s.data.toList = a by rw [hr]; show max a 0 = a; omega)
      clear hr
      go_wp2_with fail
      go_ret
      exact ⟨ret_int (by rw [Hr.out]), rfl⟩

theorem rgap_any (b : UInt8) (w : World) :
    Calls Tryd.prog 48 #[.int .u8 b.toNat] w fun e w' => e = .returned (.bool (gapB b)) ∧ w = w' := by
  by_cases h1 : b = 32
  · subst h1
    go_enter Tryd.func48, Tryd.ntmps48
    go_wp2_with fail
    go_ret
    exact ⟨rfl, rfl⟩
  by_cases h2 : b = 9
  · subst h2
    go_enter Tryd.func48, Tryd.ntmps48
    go_wp2_with fail
    go_ret
    exact ⟨rfl, rfl⟩
  have e1 : ((b.toNat : Int) == 32) = false := ne8 h1
  have e2 : ((b.toNat : Int) == 9) = false := ne8 h2
  have Hg : Hid (gapB b = false) := Lib.hid (by simp [gapB, h1, h2])
  clear h1 h2
  go_enter Tryd.func48, Tryd.ntmps48
  go_wp2_with fail
  go_ret
  exact ⟨by rw [Hg.out]; rfl, rfl⟩

def sz : Value → Nat
  | .string x => x.size
  | _ => 0
theorem last_data (s : ByteArray) (h : 0 < s.size) : s.data.toList = s.data.toList.take (s.size - 1) ++ [s[s.size - 1]] := by
  have h1 : s.size - 1 < s.data.toList.length := by simp; omega
  conv => lhs; rw [← List.take_append_drop (s.size - 1) s.data.toList, List.drop_eq_getElem_cons h1, List.drop_eq_nil_of_le (by simp; omega)]
  rfl

set_option maxHeartbeats 400000 in
theorem rtrim_any (s : ByteArray) (hs : s.size ≤ 9223372036854775806) (w : World) :
    Calls Tryd.prog 29 #[.string s] w fun e w' => e = .returned (.string (S (trim s.data.toList))) ∧ w = w' := by
  go_enter Tryd.func29, Tryd.ntmps29
  go_wp2_with fail
  go_loop [0] (fun v => ∃ x : ByteArray, v = .string x ∧ x.size ≤ s.size ∧ dl x.data.toList = dl s.data.toList) (fun v => sz v)
  case atStart => exact ⟨s, rfl, Nat.le_refl _, rfl⟩
  case round =>
    obtain ⟨x, rfl, hx, hd⟩ := hrel
    by_cases h0 : 0 < x.size
    · have d0 : decide (0 < (x.size : Int)) = true := by simpa using h0
      have hcons := at_data x 0 h0
      rw [List.drop_zero] at hcons
      cases hg : gapB x[0] with
      | true =>
        have Hd : Hid (dl (x.extract 1 x.size).data.toList = dl s.data.toList) := Lib.hid (by rw [ext_drop, ← hd, hcons, dl_yes hg]; rfl)
        have Hg := Lib.hid hg
        clear hg hd hcons
        go_wp2_with (go_at_call 48; refine (rgap_any x[0] _).mono ?_; rintro e w' ⟨rfl, rfl⟩; rw [Hg.out])
        go_round
        case rel => exact ⟨_, rfl, by rw [ByteArray.size_extract]; omega, Hd.out⟩
        case measure => simp [sz, ByteArray.size_extract]; omega
      | false =>
        have Hd : Hid (x.data.toList = dl s.data.toList) := Lib.hid (by rw [← hd, hcons, dl_no hg])
        have Hg := Lib.hid hg
        clear hg hd hcons
        go_wp2_with (go_at_call 48; refine (rgap_any x[0] _).mono ?_; rintro e w' ⟨rfl, rfl⟩; rw [Hg.out])
        go_loop [0] (fun v => ∃ y : ByteArray, v = .string y ∧ y.size ≤ s.size ∧ dr y.data.toList = dr (dl s.data.toList)) (fun v => sz v)
        case atStart => exact ⟨x, rfl, hx, by rw [Hd.out]⟩
        case round =>
          clear d0 Hg Hd
          obtain ⟨y, rfl, hy, hd⟩ := hrel
          by_cases h0 : 0 < y.size
          · have d0 : decide (0 < (y.size : Int)) = true := by simpa using h0
            have hsn := last_data y h0
            have h1 : y.size - 1 < y.size := by omega
            cases hg : gapB y[y.size - 1] with
            | true =>
              have Hd : Hid (dr (y.extract 0 (y.size - 1)).data.toList = dr (dl s.data.toList)) := Lib.hid (by rw [ext_take, ← hd, hsn, dr_yes hg, ← hsn])
              have Hg := Lib.hid hg
              clear hg hd hsn
              go_wp2_with (go_at_call 48; refine (rgap_any y[y.size - 1] _).mono ?_; rintro e w' ⟨rfl, rfl⟩; rw [Hg.out])
              go_round
              case rel => exact ⟨_, rfl, by rw [ByteArray.size_extract]; omega, Hd.out⟩
              case measure => simp [sz, ByteArray.size_extract]; omega
            | false =>
              have Hd : Hid (y.data.toList = dr (dl s.data.toList)) := Lib.hid (by rw [← hd, hsn, dr_no hg])
              have Hg := Lib.hid hg
              clear hg hd hsn
              go_wp2_with (go_at_call 48; refine (rgap_any y[y.size - 1] _).mono ?_; rintro e w' ⟨rfl, rfl⟩; rw [Hg.out])
              go_ret
              exact ⟨by rw [show trim s.data.toList = y.data.toList by rw [Hd.out, dr_dl]; rfl, S_of]; rfl, rfl⟩
          · have d0 : decide (0 < (y.size : Int)) = false := by simpa using h0
            have Hd : Hid (y.data.toList = dr (dl s.data.toList)) := Lib.hid (by rw [← hd, List.eq_nil_of_length_eq_zero (l := y.data.toList) (by rw [len_data]; omega)]; rfl)
            clear hd
            go_wp2_with fail
            go_ret
            exact ⟨by rw [show trim s.data.toList = y.data.toList by rw [Hd.out, dr_dl]; rfl, S_of]; rfl, rfl⟩
    · have d0 : decide (0 < (x.size : Int)) = false := by simpa using h0
      have hx0 : x.data.toList = [] := List.eq_nil_of_length_eq_zero (by rw [len_data]; omega)
      have Hd : Hid (S (trim s.data.toList) = x) := Lib.hid (by rw [show trim s.data.toList = x.data.toList by unfold trim; rw [← dr_dl, ← hd, hx0]; rfl, S_of])
      clear hd hx0
      go_wp2_with fail
      go_loop [0] (fun v => v = .string x) (fun v => sz v)
      case atStart => rfl
      case round =>
        subst hrel
        go_wp2_with fail
        go_ret
        exact ⟨by rw [Hd.out]; rfl, rfl⟩

theorem trim_any (s : ByteArray) (hs : s.size ≤ 9223372036854775806) (w : World) :
    Calls Tryd.prog 47 #[.string s] w fun e w' => e = .returned (.string (S (trim s.data.toList))) ∧ Below w.heap.size w w' := by
  have hc := Any.strings_Trim_laid Tryd.lays160 (by kernel_rfl) s (S [32, 9]) w (by omega) (by decide) (ascii_of_all (by decide))
  rw [S_list, trimS_eq] at hc
  have hc' : Calls Tryd.prog 60 #[.string s, .string ⟨#[32, 9]⟩] w fun e w' => e = .returned (.string (S (trim s.data.toList))) ∧ Below w.heap.size w w' := hc
  have Hc := Lib.hid hc'
  clear hc hc'
  go_enter Tryd.func47, Tryd.ntmps47
  go_wp2_with fail
  refine Hc.out.mono ?_
  rintro e w' ⟨rfl, hb⟩
  have Hb := Lib.hid hb
  clear hb
  go_wp2_with fail
  go_ret
  exact ⟨rfl, Hb.out⟩

theorem blank_any (s : ByteArray) (hs : s.size ≤ 9223372036854775806) (w : World) :
    Calls Tryd.prog 31 #[.string s] w fun e w' => e = .returned (.bool (trim s.data.toList).isEmpty) ∧ Below w.heap.size w w' := by
  have Hc := Lib.hid (trim_any s hs w)
  go_enter Tryd.func31, Tryd.ntmps31
  go_wp2_with fail
  refine Hc.out.mono ?_
  rintro e w' ⟨rfl, hb⟩
  have Hb := Lib.hid hb
  clear hb
  have ht := S_toList (trim s.data.toList)
  go_wp2_with fail
  go_ret
  exact ⟨by cases trim s.data.toList <;> rfl, Hb.out⟩

end Go.Proofs.YtpenjdnbnacebaaDoor.Ln
