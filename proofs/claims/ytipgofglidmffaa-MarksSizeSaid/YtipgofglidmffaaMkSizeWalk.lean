/-
  THE WALK of the statement MarksSize.
-/
import Derived.Test.YtipgofglidmffaaMkAwake
import Derived.Test.YtipgofglidmffaaMkHelp
import Derived.Test.YtipgofglidmffaaMkChoose
namespace Go.Proofs.Ytipgofglidmffaa.Mk
open Go.RowKit Go.Proofs.Ytipgofglidmffaa.Tk
open Go.Proofs.Ytipgofglidmffaa.Cm (calls_at)
set_option linter.unusedVariables false

theorem size_mono (a : Int) (l : List Tx) : size a [] ≤ size a l := by
  unfold size
  have : need [] = 0 := rfl
  omega

set_option maxHeartbeats 3200000 in
set_option maxRecDepth 100000 in
theorem marksSize_walk (w : World) (a0 : Int) (a1 : Value) (x1 : List Tx) (w1 : Rd w a1 x1) (n1 : x1.length ≤ 9223372036854775807) :
    Calls Try.prog 4 #[.int .i64 a0, a1] w fun e w' => e = .returned (.bool true) ∧ Below w.heap.size w w' := by
  obtain ⟨ao, ca, rfl⟩ := w1.len
  have HR := Lib.hid w1
  have HA := Lib.hid awake_any
  have HF := Lib.hid (fun w' (hb : Below w.heap.size w w') => few_any _ x1 w' (HR.out.below hb) n1)
  clear w1
  go_enter Try.func4, Try.ntmps4
  go_wp2_with fail
  refine (HA.out _).mono ?_
  rintro e w2 ⟨rfl, b2⟩
  have HB2 := Lib.hid b2
  clear b2
  go_wp2_with fail
  refine (HF.out _ HB2.out).mono ?_
  rintro e w3 ⟨rfl, rfl⟩
  clear HF
  cases hf : fewB x1 with
  | false =>
    go_wp2_with fail
    refine (HA.out _).mono ?_
    rintro e w4 ⟨rfl, b4⟩
    have HB4 := Lib.hid (HB2.out.trans (b4.mono HB2.out.size))
    clear b4
    go_wp2_with fail
    go_ret
    exact ⟨rfl, HB4.out⟩
  | true =>
    obtain ⟨hl, hx⟩ := few_of hf
    have hal := (Below.refl w2.heap.size w2).alloc (Nat.le_refl _) (.cells #[.slice ao x1.length ca] 24)
    have hL := rdl_alloc (t := 24) #[.slice ao x1.length ca] [x1] (fun j x hj => by
      match j, hj with
      | 0, hj => simp at hj; subst hj; exact ⟨_, rfl, HR.out.below HB2.out⟩
      | j + 1, hj => simp at hj) 1
    have hS := size_any a0 _ [x1] (w2.alloc (.cells #[.slice ao x1.length ca] 24)) hL (by simp) (by
      intro l hm
      simp at hm
      subst hm
      exact ⟨by omega, fun x h => Nat.le_trans (hx x h) (by omega)⟩)
    rw [show [x1].flatten = x1 by simp] at hS
    have HS := Lib.hid hS
    have HS2 := Lib.hid (fun w' => size_any a0 (.slice none 0 0) [] w' ⟨none, 0, rfl, Or.inl rfl⟩ (by simp) (by simp))
    have HB3 := Lib.hid (HB2.out.trans (hal.mono HB2.out.size))
    have hb := size_bounds a0 x1
    have hm := size_mono a0 x1
    have HC : Hid (size a0 x1 ≠ 1000 → ∀ w', Below w.heap.size w w' → Calls Try.prog 12 #[.int .i64 (size a0 x1), .slice ao x1.length ca, .int .i64 1] w' fun e w'' => ∃ v', e = .returned (.tuple #[v', .int .i64 0]) ∧ Rd w'' v' x1 ∧ Below w'.heap.size w' w'') := Lib.hid (fun hne w' hw => by
      have := choose_any (size a0 x1) 1 _ x1 w' (HR.out.below hw) (by omega) (by omega) (by omega) (fun x h => Nat.le_trans (hx x h) (by omega))
      rw [choose_all _ 1 x1 (size_clear a0 x1 hne)] at this
      exact this)
    have HSm : Hid (∀ w' v', Below w.heap.size w w' → Rd w' v' x1 → Calls Try.prog 13 #[v', .slice ao x1.length ca] w' fun e w'' => e = .returned (.bool true) ∧ Below w'.heap.size w' w'') := Lib.hid (fun w' v' hw hr => by
      have := same_any v' _ x1 x1 w' hr (HR.out.below hw) (by omega) (by omega)
      rwa [decide_eq_true rfl] at this)
    clear hS hL hal hf hx HR
    simp only [List.flatten_nil] at HS2
    generalize size a0 x1 = z at *
    generalize size a0 [] = z0 at *
    obtain ⟨hb1, hb2, hb3⟩ := hb
    have d1 : decide (z < 7) = false := decide_eq_false (by omega)
    have d2 : decide (z > 1000) = false := decide_eq_false (by omega)
    have d3 : decide (z < min a0 1000) = false := decide_eq_false (by omega)
    have d4 : decide (z0 > z) = false := decide_eq_false (by omega)
    go_wp2_with fail
    refine calls_at (by rfl) HS.out ?_
    rintro e w4 ⟨rfl, rfl⟩
    clear HS
    go_wp2_with fail
    refine (HS2.out _).mono ?_
    rintro e w4 ⟨rfl, rfl⟩
    clear HS2
    by_cases hz : z = 1000
    · have d5 : (z == 1000) = true := by rw [hz]; rfl
      clear hz
      go_wp2_with fail
      go_ret
      exact ⟨rfl, HB3.out⟩
    · have d5 : (z == 1000) = false := by rw [beq_eq_false_iff_ne]; exact hz
      have HCz := Lib.hid (HC.out hz)
      clear hz HC
      go_wp2_with fail
      refine (HCz.out _ HB3.out).mono ?_
      rintro e w5 ⟨v5, rfl, r5, b5⟩
      have HB5 := Lib.hid (HB3.out.trans (b5.mono HB3.out.size))
      have HSz := Lib.hid (HSm.out w5 v5 HB5.out r5)
      obtain ⟨a5, c5, rfl⟩ := r5.len
      clear r5 b5 HCz HSm
      go_wp2_with fail
      refine HSz.out.mono ?_
      rintro e w6 ⟨rfl, b6⟩
      have HB6 := Lib.hid (HB5.out.trans (b6.mono HB5.out.size))
      clear b6 HSz
      go_wp2_with fail
      go_ret
      exact ⟨rfl, HB6.out⟩

end Go.Proofs.Ytipgofglidmffaa.Mk
