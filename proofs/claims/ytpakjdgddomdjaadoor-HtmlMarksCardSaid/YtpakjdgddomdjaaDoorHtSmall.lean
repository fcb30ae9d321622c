/-
  CONTRACTS of the statements' few and awake (emendationlaw14).
-/
import Derived.Test.YtpakjdgddomdjaaDoorHtBlocks
import Derived.Test.YtpakjdgddomdjaaDoorBtFew
import Derived.Test.YtpakjdgddomdjaaDoorBt10Told
namespace Go.Proofs.YtpakjdgddomdjaaDoor.Ht
open Go.RowKit
open Go.Proofs.YtpakjdgddomdjaaDoor.Tk (S S_of S_list S_size S_toList Rd)
open Go.Proofs.YtpakjdgddomdjaaDoor.Bt (TrB fitAll ttAll spAll)
open Go.Proofs.YtpakjdgddomdjaaDoor.Bk (Bk Tx)
set_option linter.unusedVariables false

def BoolA (w : World) (y : Bool) (e : Ending) (w' : World) : Prop := e = .returned (.bool y) ∧ Below w.heap.size w w'
theorem few14_any (l : List Bk) (v : Value) (w : World) (ht : TrB w v l) (hf : fitAll reachBytes l) :
    Calls Tryd.prog 9 #[v] w (BoolA w (decide (spAll 40 5000 0 l < 3000))) := by
  have H := Lib.hid (Bt.sizeB_any l v w ht hf)
  clear ht hf
  generalize spAll 40 5000 0 l = z at *
  go_enter Tryd.func9, Tryd.ntmps9
  go_wp2_with fail
  refine H.out.mono ?_
  rintro e w1 ⟨rfl, n, rfl⟩
  clear H
  go_wp2_with fail
  go_ret
  exact ⟨rfl, below_drewN (Below.refl _ _) n⟩
theorem awk_tr (w : World) : TrB (w.alloc (.cells #[.int .i64 3, .int .i64 0, .string ⟨#[]⟩, .slice none 0 0, .slice none 0 0, .slice none 0 0] 35)) (.slice (some ⟨w.heap.size, 0, none⟩) 1 1) [.mk 3 0 [] [] [] []] :=
  Bt.litB (k := 3) (lv := 0) (i := []) (Bt.nilR w) (by simp) (Bt.nilS w) (Bt.nilB w) 35
set_option maxHeartbeats 1600000 in
theorem awake14_any (w : World) : Calls Tryd.prog 8 #[] w (BoolA w true) := by
  have HE := Lib.hid (escP_any ⟨#[97, 60, 98]⟩ (by show 3 ≤ _; omega) w)
  have e1 : he (⟨#[97, 60, 98]⟩ : ByteArray).data.toList = [97, 38, 108, 116, 59, 98] := rfl
  rw [e1] at HE
  have HK := Lib.hid (fun w' => blocksH_any [.mk 3 0 [] [] [] []] _ _ (awk_tr w') (by simp [fitAll, Bt.fitOne, Sp.fitAll]) (by decide))
  have e2 : hbAll [.mk 3 0 [] [] [] []] = [60, 104, 114, 32, 47, 62, 10] := by rw [hbAll_cons, hbOne_eq]; rfl
  rw [e2] at HK
  have eS : (S [97, 38, 108, 116, 59, 98]).toList == [97, 38, 108, 116, 59, 98] := by rw [S_toList]; rfl
  have eT : (S [60, 104, 114, 32, 47, 62, 10]).toList == [60, 104, 114, 32, 47, 62, 10] := by rw [S_toList]; rfl
  generalize S [97, 38, 108, 116, 59, 98] = y at *
  generalize S [60, 104, 114, 32, 47, 62, 10] = z at *
  clear e1 e2
  go_enter Tryd.func8, Tryd.ntmps8
  go_wp2_with fail
  refine HE.out.mono ?_
  rintro e w2 ⟨rfl, b2⟩
  have B2 := Lib.hid b2
  have HK2 := Lib.hid (HK.out w2)
  have B3 := Lib.hid (b2.alloc b2.size (.cells #[.int .i64 3, .int .i64 0, .string ⟨#[]⟩, .slice none 0 0, .slice none 0 0, .slice none 0 0] 35))
  clear b2 HE HK B2
  go_wp2_with fail
  refine HK2.out.mono ?_
  rintro e w3 ⟨rfl, b3⟩
  have B4 := Lib.hid (B3.out.trans (b3.mono B3.out.size))
  clear b3 HK2 B3
  go_wp2_with fail
  go_ret
  exact ⟨rfl, B4.out⟩
end Go.Proofs.YtpakjdgddomdjaaDoor.Ht
