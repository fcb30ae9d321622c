/-
  Several texts in one:
  
  
  
  
  
  
  
  
  
  
-/
import Derived.Test.YtldllbmbcnipoabGreatDoorPkWP
import Derived.Test.YtldllbmbcnipoabGreatDoorShelf
import Derived.Shelf.Strings.SlTrimAscii
import Derived.WalkKit
import Derived.Laws.IdiomStrings
import Derived.Deep.QuietTactic
import Derived.Lib.MinMax
import Derived.Test.YtldllbmbcnipoabGreatDoorPkWC
import Derived.Test.YtldllbmbcnipoabGreatDoorPkWA
namespace Go.Proofs.YtldllbmbcnipoabGreatDoor.Ln
open Go.RowKit
set_option linter.unusedVariables false
theorem ret_int {x y : Int} (h : x = y) : Ending.returned (.int .i64 x) = Ending.returned (.int .i64 y) := by rw [h]
theorem eq8 {a b : UInt8} (h : a = b) : ((a.toNat : Int) == (b.toNat : Int)) = true := by simp [h]
theorem ne8 {a b : UInt8} (h : a ≠ b) : ((a.toNat : Int) == (b.toNat : Int)) = false := by
  rw [beq_eq_false_iff_ne]
  intro e
  exact h (UInt8.toNat_inj.1 (by omega))
theorem len_data (s : ByteArray) : s.data.toList.length = s.size := by simp
theorem at_data (s : ByteArray) (k : Nat) (h : k < s.size) : s.data.toList.drop k = s[k] :: s.data.toList.drop (k + 1) := by
  rw [drop_cons _ k (by simpa using h)]; rfl
theorem drop_all (s : ByteArray) (k : Nat) (h : ¬ k < s.size) : s.data.toList.drop k = [] := List.drop_eq_nil_of_le (by simp; omega)
theorem run_any (s : ByteArray) (hs : s.size ≤ 9223372036854775806) (c : UInt8) (w : World) :
    Calls Tryz.prog 183 #[.string s, .int .u8 c.toNat] w fun e w' => e = .returned (.int .i64 (run c s.data.toList)) ∧ w = w' := by
  have H0 := Lib.hid (show run c s.data.toList = 0 + run c (s.data.toList.drop 0) by simp)
  go_enter Tryz.func183, Tryz.ntmps183
  go_wp2_with fail
  go_loop [8] (fun i => ∃ k : Nat, k ≤ s.size ∧ i = .int .i64 k ∧ run c s.data.toList = k + run c (s.data.toList.drop k)) (fun i => s.size - (intOf i).toNat)
  case atStart => exact ⟨0, Nat.zero_le _, rfl, H0.out⟩
  case round =>
    clear H0
    obtain ⟨k, hk, rfl, hr⟩ := hrel
    by_cases hlt : k < s.size
    · rw [at_data s k hlt] at hr
      by_cases hc : s[k] = c
      · rw [run_yes hc] at hr
        have e1 := eq8 hc
        have Hr := Lib.hid hr
        clear hr hc
        go_wp2_with fail
        go_round
        case rel => exact ⟨k + 1, by omega, by go_num, by rw [Hr.out]; omega⟩
        case measure => simp [intOf]; omega
      · rw [run_no hc] at hr
        have e1 := ne8 hc
        have Hr := Lib.hid hr
        clear hr hc
        go_wp2_with fail
        go_ret
        exact ⟨ret_int (by rw [Hr.out]; omega), rfl⟩
    · rw [drop_all s k hlt] at hr
      have Hr := Lib.hid (show run c s.data.toList = s.size by rw [hr]; show k + 0 = _; omega)
      clear hr
      go_wp2_with fail
      go_ret
      exact ⟨ret_int (by rw [Hr.out]), rfl⟩
theorem longest_any (s : ByteArray) (hs : s.size ≤ 9223372036854775806) (c : UInt8) (w : World) :
    Calls Tryz.prog 123 #[.string s, .int .u8 c.toNat] w fun e w' => e = .returned (.int .i64 (mx c s.data.toList)) ∧ w = w' := by
  have H0 := Lib.hid (show mx c s.data.toList = lg c 0 0 (s.data.toList.drop 0) by rw [List.drop_zero, lg_mx])
  go_enter Tryz.func123, Tryz.ntmps123
  go_wp2_with fail
  go_loop [5, 6, 10] (fun m n i => ∃ k a b : Nat, k ≤ s.size ∧ a ≤ k ∧ b ≤ k ∧ i = .int .i64 k ∧ m = .int .i64 a ∧ n = .int .i64 b ∧ mx c s.data.toList = lg c a b (s.data.toList.drop k)) (fun _ _ i => s.size - (intOf i).toNat)
  case atStart => exact ⟨0, 0, 0, Nat.zero_le _, Nat.le_refl _, Nat.le_refl _, rfl, rfl, rfl, H0.out⟩
  case round =>
    clear H0
    obtain ⟨k, a, b, hk, ha, hb, rfl, rfl, rfl, hr⟩ := hrel
    by_cases hlt : k < s.size
    · rw [at_data s k hlt] at hr
      by_cases hc : s[k] = c
      · rw [lg_yes hc] at hr
        have e1 := eq8 hc
        have Hr := Lib.hid hr
        clear hr hc
        go_wp2_with fail
        go_round
        case rel => exact ⟨k + 1, max a (b + 1), b + 1, by omega, by omega, by omega, by go_num, by go_num, by go_num, Hr.out⟩
        case measure => simp [intOf]; omega
      · rw [lg_no hc] at hr
        have e1 := ne8 hc
        have Hr := Lib.hid hr
        clear hr hc
        go_wp2_with fail
        go_round
        case rel => exact ⟨k + 1, a, 0, by omega, by omega, by omega, by go_num, rfl, rfl, Hr.out⟩
        case measure => simp [intOf]; omega
    · rw [drop_all s k hlt] at hr
      have Hr := Lib.hid (show mx c s.data.toList = a by rw [hr]; rfl)
      clear hr
      go_wp2_with fail
      go_ret
      exact ⟨ret_int (by rw [Hr.out]), rfl⟩
end Go.Proofs.YtldllbmbcnipoabGreatDoor.Ln

namespace Go.Proofs.YtldllbmbcnipoabGreatDoor.Sp
open Go.RowKit
open Go.Proofs.YtldllbmbcnipoabGreatDoor.Tk (S S_of S_list S_size S_toList S_app ret_int eq8 ne8 at_data len_data)
open Go.Proofs.YtldllbmbcnipoabGreatDoor.Cm (calls_at)
set_option linter.unusedVariables false
theorem last_data (s : ByteArray) (h : s.size - 1 < s.size) : s.data.toList.getLast? = some s[s.size - 1] := by
  have h1 := at_data s (s.size - 1) h
  have hl := len_data s
  rw [List.getLast?_eq_getElem?, ← List.head?_drop, hl, h1]
  rfl
end Go.Proofs.YtldllbmbcnipoabGreatDoor.Sp

namespace Go.Proofs.YtldllbmbcnipoabGreatDoor.Sp
open Go.Proofs.YtldllbmbcnipoabGreatDoor.Tk (cls)
set_option linter.unusedVariables false
theorem consT_consT (a b : List UInt8) : ∀ X : List Sp, consT a (consT b X) = consT (a ++ b) X
  | [] => by simp [consT]
  | .mk k t kids :: l => by
    unfold consT
    by_cases h : k = 1
    · simp [h]
    · simp [h]
theorem marked_cls (c : UInt8) (h : marked c = true) : cls c = 4 := by
  simp only [marked, List.contains_eq_mem, List.mem_cons, List.mem_nil_iff, or_false, decide_eq_true_eq] at h
  rcases h with rfl | rfl | rfl | rfl | rfl | rfl | rfl | rfl <;> decide
theorem unmarked (c : UInt8) (h : marked c = false) : c ≠ 92 ∧ c ≠ 42 ∧ c ≠ 91 ∧ c ≠ 93 ∧ c ≠ 96 := by
  simp only [marked, List.contains_eq_mem, List.mem_cons, List.mem_nil_iff, or_false, decide_eq_false_iff_not, not_or] at h
  exact ⟨h.1, h.2.1, h.2.2.1, h.2.2.2.1, h.2.2.2.2.2.2.2⟩
theorem read_plain (f : Nat) (e l : Bool) (c : UInt8) (r : List UInt8) (h : marked c = false) : read (f + 1) e l (c :: r) = (consT [c] (read f e l r).1, (read f e l r).2) := by
  obtain ⟨h1, h2, h3, h4, h5⟩ := unmarked c h
  rw [read]
  simp only [h1, h2, h3, h4, h5, false_and, or_self, if_false]
theorem read_escaped (f : Nat) (e l : Bool) (c : UInt8) (r : List UInt8) (h : marked c = true) : read (f + 1) e l (92 :: c :: r) = (consT [c] (read f e l r).1, (read f e l r).2) := by
  rw [read]
  simp only [List.head?_cons, Option.map_some, marked_cls c h, and_self, if_true, List.tail_cons]
  rw [if_neg (by simp)]
  rfl
theorem read_esc (e l : Bool) (rest : List UInt8) : ∀ (s : List UInt8) (f : Nat), s ≠ [] → (esc s ++ rest).length ≤ f → ∃ g, rest.length ≤ g ∧ read f e l (esc s ++ rest) = (consT s (read g e l rest).1, (read g e l rest).2)
  | [], f, h, _ => absurd rfl h
  | [c], f, _, hf => by
    unfold esc esc at *
    cases hc : marked c with
    | true =>
      rw [hc] at hf
      simp only [if_true] at hf ⊢
      obtain ⟨f, rfl⟩ : ∃ f', f = f' + 1 := ⟨f - 1, by simp at hf; omega⟩
      exact ⟨f, by simp at hf; omega, read_escaped f e l c rest hc⟩
    | false =>
      rw [hc] at hf
      simp only [Bool.false_eq_true, if_false] at hf ⊢
      obtain ⟨f, rfl⟩ : ∃ f', f = f' + 1 := ⟨f - 1, by simp at hf; omega⟩
      exact ⟨f, by simp at hf; omega, read_plain f e l c rest hc⟩
  | c :: d :: s, f, _, hf => by
    rw [esc] at hf ⊢
    cases hc : marked c with
    | true =>
      rw [hc, if_pos rfl] at hf
      rw [if_pos rfl]
      obtain ⟨f, rfl⟩ : ∃ f', f = f' + 1 := ⟨f - 1, by simp at hf; omega⟩
      obtain ⟨g, hg, he⟩ := read_esc e l rest (d :: s) f (by simp) (by simp only [List.cons_append, List.length_cons] at hf; omega)
      refine ⟨g, hg, ?_⟩
      rw [List.cons_append, List.cons_append, read_escaped f e l c _ hc, he, consT_consT]
      rfl
    | false =>
      rw [hc, if_neg (by decide)] at hf
      rw [if_neg (by decide)]
      obtain ⟨f, rfl⟩ : ∃ f', f = f' + 1 := ⟨f - 1, by simp at hf; omega⟩
      obtain ⟨g, hg, he⟩ := read_esc e l rest (d :: s) f (by simp) (by simp only [List.cons_append, List.length_cons] at hf; omega)
      refine ⟨g, hg, ?_⟩
      rw [List.cons_append, read_plain f e l c _ hc, he, consT_consT]
      rfl
theorem ticks_sp (q : List UInt8) : ∀ p : List UInt8, ticks (p ++ 32 :: q) = ticks p
  | [] => by show (if (32 : UInt8) = 96 then _ else 0) = _; rw [if_neg (by decide)]; rfl
  | b :: p => by
    show (if b = 96 then ticks (p ++ 32 :: q) + 1 else 0) = (if b = 96 then ticks p + 1 else 0)
    rw [ticks_sp q p]
theorem hasRun_nil (n g : Nat) : hasRun n g [] = false := by cases g <;> rfl
theorem hasRun_cons (n g : Nat) (b : UInt8) (r : List UInt8) : hasRun n (g + 1) (b :: r) = if ticks (b :: r) = n then true else hasRun n g ((b :: r).drop (max (ticks (b :: r)) 1)) := rfl
theorem hasRun_snoc (n : Nat) (hn : 0 < n) : ∀ (m g : Nat) (s : List UInt8), s.length ≤ m → s.length ≤ g → hasRun n (g + 1) (s ++ [32]) = hasRun n g s
  | m, g, [], _, _ => by
    rw [hasRun_nil, List.nil_append, hasRun_cons, if_neg (by show ¬ (if (32 : UInt8) = 96 then _ else 0) = n; rw [if_neg (by decide)]; omega)]
    show hasRun n g (([32] : List UInt8).drop (max (if (32 : UInt8) = 96 then _ else 0) 1)) = false
    rw [if_neg (by decide)]
    exact hasRun_nil n g
  | 0, g, b :: p, hm, _ => by simp at hm
  | m + 1, g, b :: p, hm, hg => by
    obtain ⟨g, rfl⟩ : ∃ g', g = g' + 1 := ⟨g - 1, by simp at hg; omega⟩
    have ht : ticks (b :: (p ++ [32])) = ticks (b :: p) := ticks_sp [] (b :: p)
    have hk : max (ticks (b :: p)) 1 ≤ (b :: p).length := by have := ticks_le (b :: p); simp only [List.length_cons] at this ⊢; omega
    have hl : ((b :: p).drop (max (ticks (b :: p)) 1)).length = (b :: p).length - max (ticks (b :: p)) 1 := List.length_drop
    rw [List.cons_append, hasRun_cons, hasRun_cons, ht]
    by_cases e : ticks (b :: p) = n
    · rw [if_pos e, if_pos e]
    · rw [if_neg e, if_neg e, ← List.cons_append, List.drop_append_of_le_length hk]
      exact hasRun_snoc n hn m g _ (by simp only [List.length_cons] at hm hl ⊢; omega) (by simp only [List.length_cons] at hg hl ⊢; omega)
theorem hasRun_le (n : Nat) (hn : 0 < n) : ∀ (m g : Nat) (s : List UInt8), s.length ≤ m → hasRun n g s = true → n ≤ s.length
  | m, 0, s, _, h => by cases h
  | m, g + 1, [], _, h => by cases h
  | 0, g + 1, b :: p, hm, _ => by simp at hm
  | m + 1, g + 1, b :: p, hm, h => by
    rw [hasRun_cons] at h
    have ht := ticks_le (b :: p)
    by_cases e : ticks (b :: p) = n
    · omega
    · rw [if_neg e] at h
      have hl : ((b :: p).drop (max (ticks (b :: p)) 1)).length = (b :: p).length - max (ticks (b :: p)) 1 := List.length_drop
      have := hasRun_le n hn m g _ (by simp only [List.length_cons] at hm hl ⊢; omega) h
      omega
theorem fence_ok (s : List UInt8) : ∀ f n, 0 < n → n + f = s.length + 2 → 0 < f → hasRun (fence s f n) s.length s = false ∧ n ≤ fence s f n
  | 0, n, _, _, h => absurd h (Nat.lt_irrefl _)
  | f + 1, n, hn, he, _ => by
    unfold fence
    cases hr : hasRun n s.length s with
    | false => exact ⟨by rw [if_neg (by decide)]; exact hr, by rw [if_neg (by decide)]; exact Nat.le_refl _⟩
    | true =>
      rw [if_pos rfl]
      have := hasRun_le n hn _ _ s (Nat.le_refl _) hr
      obtain ⟨h1, h2⟩ := fence_ok s f (n + 1) (by omega) (by omega) (by omega)
      exact ⟨h1, by omega⟩
theorem ticksOf_ok (s : List UInt8) : hasRun (ticksOf s) s.length s = false ∧ 0 < ticksOf s := fence_ok s (s.length + 1) 1 (by omega) (by omega) (by omega)
theorem padded_runs (n : Nat) (hn : 0 < n) (s : List UInt8) (h : hasRun n s.length s = false) : hasRun n (padded s).length (padded s) = false := by
  unfold padded
  split
  · rw [List.length_cons, hasRun_cons, if_neg (by show ¬ (if (32 : UInt8) = 96 then _ else 0) = n; rw [if_neg (by decide)]; omega)]
    show hasRun n _ ((32 :: (s ++ [32])).drop (max (if (32 : UInt8) = 96 then _ else 0) 1)) = false
    rw [if_neg (by decide)]
    show hasRun n (s ++ [32]).length (s ++ [32]) = false
    rw [List.length_append]
    show hasRun n (s.length + 1) (s ++ [32]) = false
    rw [hasRun_snoc n hn _ _ s (Nat.le_refl _) (Nat.le_refl _)]
    exact h
  · exact h
theorem padded_ne (s : List UInt8) (h : s ≠ []) : padded s ≠ [] := by
  unfold padded
  split
  · simp
  · exact h
theorem padded_head (s : List UInt8) : (padded s).head? ≠ some 96 := by
  unfold padded
  split
  · simp
  · rename_i h
    exact fun e => h (Or.inl e)
theorem padded_last (s : List UInt8) : (padded s).getLast? ≠ some 96 := by
  unfold padded
  split
  · rw [← List.cons_append, List.getLast?_concat]; decide
  · rename_i h
    exact fun e => h (Or.inr (Or.inl e))
theorem padded_lf (s : List UInt8) (h : (10 : UInt8) ∉ s) : (10 : UInt8) ∉ padded s := by
  unfold padded
  split
  · simp [h]
  · exact h
theorem strip_padded (s : List UInt8) : strip (padded s) = s := by
  unfold padded
  split
  · rename_i h
    have ho : onlySp (32 :: (s ++ [32])) = false := by
      rcases h with h | h | h
      · cases s with
        | nil => cases h
        | cons c s => simp at h; subst h; simp [onlySp]
      · have : (96 : UInt8) ∈ s := List.mem_of_getLast? h
        unfold onlySp
        rw [List.all_eq_false]
        exact ⟨96, by simp [this], by decide⟩
      · have h1 := h.1
        unfold onlySp at h1 ⊢
        rw [List.all_eq_false] at h1 ⊢
        obtain ⟨x, hx, hb⟩ := h1
        exact ⟨x, by simp [hx], hb⟩
    unfold strip
    rw [if_pos ⟨ho, rfl, by rw [← List.cons_append, List.getLast?_concat]⟩, List.tail_cons, List.dropLast_concat]
  · rename_i h
    unfold strip
    rw [if_neg (fun e => h (Or.inr (Or.inr e)))]
def Stop (e l : Bool) (t : List UInt8) : Prop := t = [] ∨ (∃ r, t = 42 :: r ∧ e = true) ∨ (∃ r, t = 93 :: r ∧ l = true)
theorem read_stop {e l : Bool} {t : List UInt8} (h : Stop e l t) (f : Nat) (hf : t.length ≤ f) : read f e l t = ([], t) := by
  cases f with
  | zero => rfl
  | succ f =>
    rcases h with rfl | ⟨r, rfl, rfl⟩ | ⟨r, rfl, rfl⟩
    · rfl
    · rw [read]; simp
    · rw [read]; simp
theorem esc_head (s : List UInt8) (t : List UInt8) (h : s ≠ []) : (esc s ++ t).head? ≠ some 96 := by
  cases s with
  | nil => exact absurd rfl h
  | cons c s =>
    rw [esc]
    cases hc : marked c with
    | true => simp
    | false =>
      rw [if_neg (by decide)]
      have := (unmarked c hc).2.2.2.2
      simpa using this
theorem next_head {e l : Bool} {t : List UInt8} (ht : Stop e l t) : ∀ L : List Sp, fits e l 2 L → (wrs L ++ t).head? ≠ some 96
  | [], _ => by
    rw [wrs]
    rcases ht with rfl | ⟨r, rfl, _⟩ | ⟨r, rfl, _⟩ <;> simp
  | .mk k s kids :: L, h => by
    rw [fits] at h
    obtain ⟨h1, h2, _⟩ := h
    rw [wrs, wr1]
    rw [fit1] at h1
    rcases h1 with ⟨rfl, rfl, hs⟩ | ⟨rfl, _⟩ | ⟨rfl, _⟩ | ⟨rfl, _⟩
    · rw [if_pos rfl, List.append_assoc]; exact esc_head s _ hs
    · exact absurd ⟨rfl, by decide⟩ h2
    · simp
    · simp
theorem consT_new {e l : Bool} {s : List UInt8} : ∀ L : List Sp, fits e l 1 L → consT s L = .mk 1 s [] :: L
  | [], _ => rfl
  | .mk k t kids :: L, h => by
    rw [fits] at h
    have hk : k ≠ 1 := fun e => h.2.1 ⟨e, by omega⟩
    show (if k = 1 then _ else _) = _
    rw [if_neg hk]
theorem take_dest (s t : List UInt8) (h : ∀ c ∈ s, destB c = true) : (s ++ 41 :: t).takeWhile destB = s ∧ (s ++ 41 :: t).dropWhile destB = 41 :: t := by
  induction s with
  | nil => exact ⟨rfl, rfl⟩
  | cons c s ih =>
    have hc := h c (List.mem_cons_self ..)
    obtain ⟨i1, i2⟩ := ih (fun d hd => h d (List.mem_cons_of_mem _ hd))
    rw [List.cons_append, List.takeWhile_cons_of_pos hc, List.dropWhile_cons_of_pos hc, i1, i2]
    exact ⟨rfl, rfl⟩
theorem read_back (e l : Bool) (prev : Int) (L : List Sp) (hL : fits e l prev L) (t : List UInt8) (ht : Stop e l t) (f : Nat) (hf : (wrs L ++ t).length ≤ f) : read f e l (wrs L ++ t) = (L, t) := by
  match L, hL with
  | [], _ => rw [wrs] at hf ⊢; exact read_stop ht f hf
  | .mk k s kids :: R, hL =>
    rw [fits] at hL
    obtain ⟨h1, h2, h3⟩ := hL
    rw [fit1] at h1
    rw [wrs, wr1] at hf ⊢
    rcases h1 with ⟨rfl, rfl, hs⟩ | ⟨rfl, rfl, hs, h10⟩ | ⟨rfl, rfl, hk, rfl, hkids⟩ | ⟨rfl, hs, hd, hk, rfl, hkids⟩
    · rw [if_pos rfl, List.append_assoc] at hf ⊢
      obtain ⟨g, hg, he⟩ := read_esc e l (wrs R ++ t) s f hs hf
      have ih := read_back e l 1 R h3 t ht g hg
      rw [he, ih, consT_new R h3]
    · rw [if_neg (by decide), if_pos rfl] at hf ⊢
      obtain ⟨r1, r2⟩ := ticksOf_ok s
      have hp := padded_runs _ r2 s r1
      have hh := next_head ht R h3
      generalize ticksOf s = n at *
      have e1 : (List.replicate n (96 : UInt8) ++ (padded s ++ List.replicate n 96)) ++ wrs R ++ t = List.replicate n 96 ++ (padded s ++ (List.replicate n 96 ++ (wrs R ++ t))) := by simp [List.append_assoc]
      rw [e1] at hf ⊢
      have hph : (padded s ++ (List.replicate n 96 ++ (wrs R ++ t))).head? ≠ some 96 := by
        have := padded_head s
        cases hps : padded s with
        | nil => exact absurd hps (padded_ne s hs)
        | cons c p => rw [hps] at this; exact this
      have hk := ticks_rep n _ hph
      have hcc := code_closes n r2 (wrs R ++ t) hh _ (padded s) [] (List.replicate n (96 : UInt8) ++ (padded s ++ (List.replicate n 96 ++ (wrs R ++ t)))).length _ (Nat.le_refl _) (padded_lf s h10) (fun _ => padded_last s) hp (Nat.le_refl _) (by simp; omega)
      obtain ⟨n, rfl⟩ : ∃ n', n = n' + 1 := ⟨n - 1, by omega⟩
      obtain ⟨f, rfl⟩ : ∃ f', f = f' + 1 := ⟨f - 1, by simp at hf; omega⟩
      have ih := read_back e l 2 R h3 t ht f (by simp at hf ⊢; omega)
      have hdr : (List.replicate (n + 1) (96 : UInt8) ++ (padded s ++ (List.replicate (n + 1) 96 ++ (wrs R ++ t)))).drop (n + 1) = padded s ++ (List.replicate (n + 1) 96 ++ (wrs R ++ t)) := List.drop_left' (List.length_replicate ..)
      generalize hX : List.replicate (n + 1) (96 : UInt8) ++ (padded s ++ (List.replicate (n + 1) 96 ++ (wrs R ++ t))) = X at *
      obtain ⟨r, rfl⟩ : ∃ r, X = 96 :: r := ⟨X.tail, by rw [← hX]; rfl⟩
      rw [read]
      simp only [show ¬ (((96 : UInt8) = 42 ∧ e = true) ∨ ((96 : UInt8) = 93 ∧ l = true)) from fun h => by rcases h with h | h <;> exact absurd h.1 (by decide), show ¬ ((96 : UInt8) = 92 ∧ (r.head?.map cls) = some 4) from fun h => absurd h.1 (by decide), if_false, if_true]
      rw [hk, hdr, hcc]
      simp only [List.nil_append]
      rw [ih, strip_padded]
    · rw [if_neg (by decide), if_neg (by decide), if_pos rfl] at hf ⊢
      have e1 : (42 :: (wrs kids ++ [42]) : List UInt8) ++ wrs R ++ t = 42 :: (wrs kids ++ 42 :: (wrs R ++ t)) := by simp
      rw [e1] at hf ⊢
      obtain ⟨f, rfl⟩ : ∃ f', f = f' + 1 := ⟨f - 1, by simp at hf; omega⟩
      have ihk := read_back true l 0 kids hkids (42 :: (wrs R ++ t)) (Or.inr (Or.inl ⟨_, rfl, rfl⟩)) f (by simp at hf ⊢; omega)
      have ih := read_back false l 3 R h3 t ht f (by simp at hf ⊢; omega)
      rw [read]
      simp only [show ¬ ((42 : UInt8) = 92 ∧ ((wrs kids ++ 42 :: (wrs R ++ t)).head?.map cls) = some 4) from fun h => absurd h.1 (by decide), show ¬ ((42 : UInt8) = 96) by decide, if_false, if_true]
      rw [ihk]
      cases kids with
      | nil => exact absurd rfl hk
      | cons k0 ks =>
        simp only
        rw [if_neg (by simp), ih]
    · rw [if_neg (by decide), if_neg (by decide), if_neg (by decide), if_pos rfl] at hf ⊢
      have e1 : (91 :: (wrs kids ++ (93 :: 40 :: (s ++ [41]))) : List UInt8) ++ wrs R ++ t = 91 :: (wrs kids ++ 93 :: (40 :: (s ++ 41 :: (wrs R ++ t)))) := by simp
      rw [e1] at hf ⊢
      obtain ⟨f, rfl⟩ : ∃ f', f = f' + 1 := ⟨f - 1, by simp at hf; omega⟩
      have ihk := read_back e true 0 kids hkids (93 :: (40 :: (s ++ 41 :: (wrs R ++ t)))) (Or.inr (Or.inr ⟨_, rfl, rfl⟩)) f (by simp at hf ⊢; omega)
      have ih := read_back e false 4 R h3 t ht f (by simp at hf ⊢; omega)
      obtain ⟨d1, d2⟩ := take_dest s (wrs R ++ t) hd
      have hdest : dest (40 :: (s ++ 41 :: (wrs R ++ t))) = some (s, wrs R ++ t) := by
        unfold dest
        simp only [d1, d2, if_neg hs]
      rw [read]
      simp only [show ¬ ((91 : UInt8) = 92 ∧ ((wrs kids ++ 93 :: (40 :: (s ++ 41 :: (wrs R ++ t)))).head?.map cls) = some 4) from fun h => absurd h.1 (by decide), show ¬ ((91 : UInt8) = 96) by decide, show ¬ ((91 : UInt8) = 42) by decide, if_false, and_self, if_true]
      rw [ihk]
      cases kids with
      | nil => exact absurd rfl hk
      | cons k0 ks =>
        simp only [hdest]
        rw [if_neg (by simp), ih]
termination_by SizeOf.sizeOf L
theorem parse_write (L : List Sp) (h : fits false false 0 L) : (read (wrs L).length false false (wrs L)).1 = L := by
  have := read_back false false 0 L h [] (Or.inl rfl) (wrs L).length (by rw [List.append_nil]; exact Nat.le_refl _)
  rw [List.append_nil] at this
  rw [this]
end Go.Proofs.YtldllbmbcnipoabGreatDoor.Sp

namespace Go.Proofs.YtldllbmbcnipoabGreatDoor.Sp
open Go.RowKit
open Go.Proofs.YtldllbmbcnipoabGreatDoor.Tk (S S_of S_list S_size S_toList S_app ret_int eq8 ne8 at_data len_data)
open Go.Proofs.YtldllbmbcnipoabGreatDoor.Cm (calls_at)
set_option linter.unusedVariables false
theorem hasRun_fuel (n : Nat) : ∀ (m f f' : Nat) (t : List UInt8), t.length ≤ m → t.length ≤ f → t.length ≤ f' → hasRun n f t = hasRun n f' t
  | m, f, f', [], _, _, _ => by rw [hasRun_nil, hasRun_nil]
  | 0, f, f', b :: r, h, _, _ => by simp at h
  | m + 1, f, f', b :: r, h, h1, h2 => by
    obtain ⟨g, rfl⟩ : ∃ g, f = g + 1 := ⟨f - 1, by simp at h1; omega⟩
    obtain ⟨g', rfl⟩ : ∃ g, f' = g + 1 := ⟨f' - 1, by simp at h2; omega⟩
    have hd := drop_lt (b := b) (r := r)
    have hl : (b :: r).length = r.length + 1 := rfl
    rw [hl] at h h1 h2 hd
    rw [hasRun_cons, hasRun_cons, hasRun_fuel n m g g' _ (by omega) (by omega) (by omega)]
def hrAt (l : List UInt8) (k n : Nat) : Bool := hasRun n (l.drop k).length (l.drop k)
theorem hrAt_step (s : ByteArray) (n k : Nat) (h : k < s.size) : hrAt s.data.toList k n = if ticks (s.data.toList.drop k) = n then true else hrAt s.data.toList (k + max (ticks (s.data.toList.drop k)) 1) n := by
  have hdd : s.data.toList.drop (k + max (ticks (s.data.toList.drop k)) 1) = (s.data.toList.drop k).drop (max (ticks (s.data.toList.drop k)) 1) := by rw [List.drop_drop]
  unfold hrAt
  rw [hdd]
  cases ht : s.data.toList.drop k with
  | nil => exfalso; rw [at_data s k h] at ht; cases ht
  | cons b r =>
    have hd := drop_lt (b := b) (r := r)
    have hl : (b :: r).length = r.length + 1 := rfl
    rw [hl] at hd ⊢
    rw [hasRun_cons, hasRun_fuel n r.length r.length _ _ (by omega) (by omega) (Nat.le_refl _)]
end Go.Proofs.YtldllbmbcnipoabGreatDoor.Sp

namespace Go.Proofs.YtldllbmbcnipoabGreatDoor.Sp
open Go.Proofs.YtldllbmbcnipoabGreatDoor.Tk (cls)
set_option linter.unusedVariables false
theorem fits_of {e l : Bool} {p q : Int} : ∀ {L : List Sp}, fits e l p L → (∀ k s kids r, L = .mk k s kids :: r → ¬ (k = q ∧ k ≤ 2)) → fits e l q L
  | [], _, _ => by rw [fits]; trivial
  | .mk k s kids :: r, h, hq => by
    rw [fits] at h ⊢
    exact ⟨h.1, hq k s kids r rfl, h.2.2⟩
end Go.Proofs.YtldllbmbcnipoabGreatDoor.Sp

namespace Go.Proofs.YtldllbmbcnipoabGreatDoor.Sp
set_option linter.unusedVariables false
def Bnd (n : Nat) (L : List Sp) : Prop := L.length ≤ n ∧ ∀ x ∈ L, x.s.length ≤ n
end Go.Proofs.YtldllbmbcnipoabGreatDoor.Sp

namespace Go.Proofs.YtldllbmbcnipoabGreatDoor.Sp
open Go.Proofs.YtldllbmbcnipoabGreatDoor.Tk (cls)
set_option linter.unusedVariables false
inductive Stp where
  | stop
  | text (a t : List UInt8)
  | span (x : Sp) (t : List UInt8)
end Go.Proofs.YtldllbmbcnipoabGreatDoor.Sp

namespace Go.Proofs.YtldllbmbcnipoabGreatDoor.Sp
open Go.RowKit
open Go.Proofs.YtldllbmbcnipoabGreatDoor.Tk (S S_of S_list S_size S_toList S_app ret_int eq8 ne8 at_data len_data)
open Go.Proofs.YtldllbmbcnipoabGreatDoor.Cm (calls_at)
set_option linter.unusedVariables false
theorem ext_list (s : ByteArray) (a b : Nat) : (s.extract a b).data.toList = (s.data.toList.drop a).take (b - a) := by
  rw [ByteArray.data_extract, Array.toList_extract, List.extract_eq_take_drop]
theorem dcB_eq (c : UInt8) : destB c = dcB c := by
  unfold destB dcB alB
  have h : ∀ n : Nat, n < 256 → (decide (UInt8.ofNat n ≤ c) = decide ((n : Int) ≤ (c.toNat : Int))) ∧ (decide (c ≤ UInt8.ofNat n) = decide ((c.toNat : Int) ≤ (n : Int))) := fun n hn => by
    have e : (UInt8.ofNat n).toNat = n := by rw [UInt8.toNat_ofNat']; omega
    constructor
    · apply decide_eq_decide.2
      rw [UInt8.le_iff_toNat_le, e]
      omega
    · apply decide_eq_decide.2
      rw [UInt8.le_iff_toNat_le, e]
      omega
  have m : [46, 47, 95, 45, 35, 63, 38, 58, 37].contains c = marksL.any (fun b => decide (c = b)) := by
    rw [Bool.eq_iff_iff, List.contains_iff_mem, List.any_eq_true]
    constructor
    · intro hm; exact ⟨c, hm, by simp⟩
    · rintro ⟨x, hx, he⟩
      have e : c = x := by simpa using he
      rw [e]; exact hx
  rw [m]
  have a1 := (h 97 (by omega)).1
  have a2 := (h 122 (by omega)).2
  have a3 := (h 65 (by omega)).1
  have a4 := (h 90 (by omega)).2
  have a5 := (h 48 (by omega)).1
  have a6 := (h 57 (by omega)).2
  have o97 : (UInt8.ofNat 97) = 97 := rfl
  have o122 : (UInt8.ofNat 122) = 122 := rfl
  have o65 : (UInt8.ofNat 65) = 65 := rfl
  have o90 : (UInt8.ofNat 90) = 90 := rfl
  have o48 : (UInt8.ofNat 48) = 48 := rfl
  have o57 : (UInt8.ofNat 57) = 57 := rfl
  rw [o97] at a1
  rw [o122] at a2
  rw [o65] at a3
  rw [o90] at a4
  rw [o48] at a5
  rw [o57] at a6
  rw [a1, a2, a3, a4, a5, a6]
  rfl
end Go.Proofs.YtldllbmbcnipoabGreatDoor.Sp

namespace Go.Proofs.YtldllbmbcnipoabGreatDoor.Sp
open Go.RowKit
open Go.Proofs.YtldllbmbcnipoabGreatDoor.Tk (S S_of S_list S_size S_toList S_app ret_int eq8 ne8 at_data len_data)
open Go.Proofs.YtldllbmbcnipoabGreatDoor.Cm (calls_at)
set_option linter.unusedVariables false
theorem esc_cons (c : UInt8) (r : List UInt8) : esc (c :: r) = (if marked c = true then [92, c] else [c]) ++ esc r := by
  rw [esc]
  split <;> rfl
theorem esc_le : ∀ l : List UInt8, (esc l).length ≤ 2 * l.length
  | [] => Nat.le_refl _
  | c :: r => by
    have := esc_le r
    rw [esc_cons, List.length_append, List.length_cons]
    split <;> simp <;> omega
end Go.Proofs.YtldllbmbcnipoabGreatDoor.Sp

namespace Go.Proofs.YtldllbmbcnipoabGreatDoor.Sp
open Go.RowKit
open Go.Proofs.YtldllbmbcnipoabGreatDoor.Tk (S S_of S_list S_size S_toList S_app ret_int eq8 ne8 at_data len_data)
open Go.Proofs.YtldllbmbcnipoabGreatDoor.Cm (calls_at)
set_option linter.unusedVariables false
end Go.Proofs.YtldllbmbcnipoabGreatDoor.Sp
