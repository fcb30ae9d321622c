/-
  CONTRACT of token.sameToken.
-/
import Derived.Test.YtjhmjdacjaefaaaTkClass
namespace Go.Proofs.Ytjhmjdacjaefaaa.Tk
open Go.RowKit
set_option linter.unusedVariables false

theorem st_any (a b : UInt8) (w : World) :
    Calls Try.prog 19 #[.int .u8 a.toNat, .int .u8 b.toNat] w fun e w' => e = .returned (.bool (joins a b)) ∧ w = w' := by
  have H := Lib.hid (joins_at a b)
  have ha : a.toNat ≤ 255 := by have := a.toNat_lt; omega
  have hb : b.toNat ≤ 255 := by have := b.toNat_lt; omega
  have C := Lib.hid (class8 a)
  have D := Lib.hid (class8 b)
  generalize hx : (cls a : Int) = x at *
  generalize hy : (cls b : Int) = y at *
  clear hx hy
  cases e1 : (x == 1) with
  | true =>
    rw [e1] at H
    go_enter Try.func19, Try.ntmps19
    go_wp2_with fail
    refine (C.out _).mono ?_
    rintro e w' ⟨rfl, rfl⟩
    go_wp2_with fail
    refine (D.out _).mono ?_
    rintro e w' ⟨rfl, rfl⟩
    go_wp2_with fail
    go_ret
    exact ⟨by rw [H.out]; simp, rfl⟩
  | false =>
    rw [e1] at H
    cases e2 : (x == 2) with
    | true =>
      rw [e2] at H
      go_enter Try.func19, Try.ntmps19
      go_wp2_with fail
      refine (C.out _).mono ?_
      rintro e w' ⟨rfl, rfl⟩
      go_wp2_with fail
      refine (D.out _).mono ?_
      rintro e w' ⟨rfl, rfl⟩
      go_wp2_with fail
      go_ret
      exact ⟨by rw [H.out]; simp, rfl⟩
    | false =>
      rw [e2] at H
      go_enter Try.func19, Try.ntmps19
      go_wp2_with fail
      refine (C.out _).mono ?_
      rintro e w' ⟨rfl, rfl⟩
      go_wp2_with fail
      go_ret
      exact ⟨by rw [H.out]; simp, rfl⟩

end Go.Proofs.Ytjhmjdacjaefaaa.Tk
