/-
  WHAT IS ASKED OF THE PROGRAM (kind), over any world; the statements' own awake.
-/
import Derived.Test.YtpenjdnbnacebaaDoorKdMore
import Derived.Test.YtpenjdnbnacebaaDoorSpRight
namespace Go.Proofs.YtpenjdnbnacebaaDoor.Kd
open Go.RowKit
open Go.Proofs.YtpenjdnbnacebaaDoor.Tk (S S_of S_list S_size S_toList S_app ret_int eq8 ne8 at_data len_data Rd)
open Go.Proofs.YtpenjdnbnacebaaDoor.Sp (Sp Tr ret_bool OkAns)
open Go.Proofs.YtpenjdnbnacebaaDoor.Bt (TrB)
open Go.Proofs.YtpenjdnbnacebaaDoor.Bk (Tx Bk define kindOf inner unquote)
set_option linter.unusedVariables false

def NumK (w : World) (n : Nat) (e : Ending) (w' : World) : Prop := e = .returned (.int .i64 (n : Nat)) ∧ Below w.heap.size w w'
def LevK (w : World) (n : Nat) (t : Tx) (e : Ending) (w' : World) : Prop := e = .returned (.tuple #[.int .i64 (n : Nat), .string (S t)]) ∧ Below w.heap.size w w'
def StrK (w : World) (t : Tx) (e : Ending) (w' : World) : Prop := e = .returned (.string (S t)) ∧ Below w.heap.size w w'
def InK (w : World) (o : Option Tx) (e : Ending) (w' : World) : Prop := e = .returned (inV o) ∧ Below w.heap.size w w'
structure Told11 : Prop where
  of : ∀ (s : ByteArray) (w : World), s.size ≤ 20000 → Calls Tryd.prog 15 #[.string s] w (NumK w (kindOf E0 s.data.toList))
  head : ∀ (s : ByteArray) (w : World), s.size ≤ 20000 → Calls Tryd.prog 9 #[.string s] w (LevK w (hdN s.data.toList) (hdT s.data.toList))
  opens : ∀ (s : ByteArray) (w : World), s.size ≤ 20000 → Calls Tryd.prog 11 #[.string s] w (LevK w (opN s.data.toList) (opT s.data.toList))
  closes : ∀ (s : ByteArray) (n : Int) (w : World), s.size ≤ 20000 → -9223372036854775808 ≤ n → n ≤ 9223372036854775807 → Calls Tryd.prog 17 #[.string s, .int .i64 n] w (OkAns w (clB s.data.toList n))
  unquote : ∀ (s : ByteArray) (w : World), s.size ≤ 20000 → Calls Tryd.prog 19 #[.string s] w (StrK w (uqT s.data.toList))
  unitem : ∀ (s : ByteArray) (w : World), s.size ≤ 20000 → Calls Tryd.prog 21 #[.string s] w (StrK w (uiT s.data.toList))
  inner : ∀ (s : ByteArray) (w : World), s.size ≤ 20000 → Calls Tryd.prog 13 #[.string s] w (InK w (Bk.inner s.data.toList))
  defines : ∀ (s : ByteArray) (w : World), s.size ≤ 20000 → Calls Tryd.prog 24 #[.string s] w (BlkAns w (dfB s.data.toList))

set_option maxRecDepth 100000 in
theorem awake11_any (K : Told11) (w : World) : Calls Tryd.prog 8 #[] w (OkAns w true) := by
  have H1 := Lib.hid (K.head ⟨#[35, 35, 32, 97]⟩ w (by decide))
  have a1 : hdN [35, 35, 32, 97] = 2 := by decide +kernel
  have a2 : hdT [35, 35, 32, 97] = [97] := by decide +kernel
  have a3 : kindOf E0 [45, 45] = 8 := by decide +kernel
  have a4 : uqT [62, 32, 62, 32, 97] = [62, 32, 97] := by decide +kernel
  have H2 := Lib.hid (fun w' => K.of ⟨#[45, 45]⟩ w' (by decide))
  have H3 := Lib.hid (fun w' => K.unquote ⟨#[62, 32, 62, 32, 97]⟩ w' (by decide))
  have l1 : (⟨#[35, 35, 32, 97]⟩ : ByteArray).data.toList = [35, 35, 32, 97] := rfl
  rw [l1, a1, a2] at H1
  simp only [a3] at H2
  simp only [a4] at H3
  have s1 : (S [97]).toList == [97] := by rw [S_toList]; rfl
  have s2 : (S [62, 32, 97]).toList == [62, 32, 97] := by rw [S_toList]; rfl
  have n1 : (((2 : Nat) : Int) == 2) = true := rfl
  have n2 : (((8 : Nat) : Int) == 8) = true := rfl
  clear K a1 a2 a3 a4 l1
  unfold LevK at H1
  generalize S [97] = t1 at *
  go_enter Tryd.func8, Tryd.ntmps8
  go_wp2_with fail
  refine H1.out.mono ?_
  rintro e w2 ⟨rfl, b2⟩
  have B2 := Lib.hid b2
  clear b2 H1
  go_wp2_with fail
  refine (H2.out _).mono ?_
  rintro e w3 ⟨rfl, b3⟩
  have B3 := Lib.hid (B2.out.trans (b3.mono B2.out.size))
  clear b3 H2 B2
  go_wp2_with fail
  refine (H3.out _).mono ?_
  rintro e w4 ⟨rfl, b4⟩
  have B4 := Lib.hid (B3.out.trans (b4.mono B3.out.size))
  clear b4 H3 B3
  generalize S [62, 32, 97] = t2 at *
  go_wp2_with fail
  go_ret
  exact ⟨ret_bool (by simp_all), B4.out⟩

end Go.Proofs.YtpenjdnbnacebaaDoor.Kd
