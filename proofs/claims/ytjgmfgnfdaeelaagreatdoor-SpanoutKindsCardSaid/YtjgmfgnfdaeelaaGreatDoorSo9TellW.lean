/-
  WHAT IS ASKED OF THE PROGRAM (spanout), over any world; the statements' own awake, few.
-/
import Derived.Test.YtjgmfgnfdaeelaaGreatDoorSoWrite
import Derived.Test.YtjgmfgnfdaeelaaGreatDoorSiPlain
import Derived.Test.YtjgmfgnfdaeelaaGreatDoorPkB
import Derived.Test.YtjgmfgnfdaeelaaGreatDoorPkE
namespace Go.Proofs.YtjgmfgnfdaeelaaGreatDoor.Sp
open Go.RowKit
open Go.Proofs.YtjgmfgnfdaeelaaGreatDoor.Tk (S S_of S_list S_size S_toList S_app ret_int eq8 ne8 at_data len_data)
open Go.Proofs.YtjgmfgnfdaeelaaGreatDoor.Cm (calls_at)
set_option linter.unusedVariables false

def wrB (l : List Sp) : ByteArray := S (if rtB l = true then wrs l else [])
def erB (l : List Sp) : Int := if rtB l = true then 0 else 6
def TwoAns (w : World) (x : ByteArray) (n : Int) (e : Ending) (w' : World) : Prop := e = .returned (.tuple #[.string x, .int .i64 n]) ∧ Below w.heap.size w w'
def NumAns (w : World) (n : Int) (e : Ending) (w' : World) : Prop := e = .returned (.int .i64 n) ∧ Below w.heap.size w w'
structure Told9w : Prop where
  write : ∀ (v : Value) (l : List Sp) (w : World), Tr w v l → totAll l ≤ 20000 → fitAll 140737488355328 l → Calls Tryz.prog 27 #[v] w (TwoAns w (wrB l) (erB l))
  escape : ∀ (s : ByteArray) (w : World), s.size ≤ 20000 → Calls Tryz.prog 28 #[.string s] w (WrAns w (S (esc s.data.toList)))
  fence : ∀ (s : ByteArray) (w : World), s.size ≤ 20000 → Calls Tryz.prog 39 #[.string s] w (NumAns w (ticksOf s.data.toList : Nat))

mutual
theorem fitOne_wide {R R' : Nat} (h : R ≤ R') : ∀ x : Sp, fitOne R x → fitOne R' x
  | .mk k s l, hf => by
    unfold fitOne at hf ⊢
    exact ⟨hf.1, Nat.le_trans hf.2.1 h, fitAll_wide h l hf.2.2⟩
theorem fitAll_wide {R R' : Nat} (h : R ≤ R') : ∀ l : List Sp, fitAll R l → fitAll R' l
  | [], _ => by unfold fitAll; trivial
  | x :: r, hf => by
    unfold fitAll at hf ⊢
    exact ⟨fitOne_wide h x hf.1, fitAll_wide h r hf.2⟩
end
def fewB9 (l : List Sp) : Bool := decide (spAll 30 5000 0 l < 300)
theorem few9_of {l : List Sp} (h : fewB9 l = true) : totAll l < 300 ∧ dpAll 30 l := by
  have h' := of_decide_eq_true h
  obtain ⟨h1, h2⟩ := spAll_small 30 5000 0 (by omega) l (by omega)
  exact ⟨by omega, h2⟩
theorem few9_any (l : List Sp) (v : Value) (w : World) (ht : Tr w v l) (hf : fitAll reachBytes l) :
    Calls Tryz.prog 26 #[v] w fun e w' => e = .returned (.bool (fewB9 l)) ∧ w = w' := by
  have H := Lib.hid (size_any l v w ht hf)
  have HB : Hid (fewB9 l = decide (spAll 30 5000 0 l < 300)) := Lib.hid rfl
  clear ht hf
  generalize spAll 30 5000 0 l = z at *
  go_enter Tryz.func26, Tryz.ntmps26
  go_wp2_with fail
  refine H.out.mono ?_
  rintro e w1 ⟨rfl, rfl⟩
  clear H
  go_wp2_with fail
  go_ret
  exact ⟨by rw [HB.out]; rfl, rfl⟩
theorem nil_tr (w : World) : Tr w (.slice none 0 0) [] := ⟨none, 0, rfl, ⟨Nat.le_refl _, by omega⟩, Or.inl rfl⟩
theorem lit_tr (w : World) (q : Int) (s : List UInt8) (t : TypeId) :
    Tr (w.alloc (.cells #[.int .i64 q, .string (S s), .slice none 0 0] t)) (.slice (some ⟨w.heap.size, 0, none⟩) 1 1) [.mk q s []] := by
  have hb : Below w.heap.size w (w.alloc (.cells #[.int .i64 q, .string (S s), .slice none 0 0] t)) := (Below.refl _ _).alloc (Nat.le_refl _) _
  have h2 := (nil_tr w).below hb
  refine ⟨_, 1, rfl, ⟨Nat.le_refl _, by omega⟩, Or.inr ⟨w.heap.size, 0, rfl, by simp, ?_⟩⟩
  unfold trAll
  refine ⟨trOne_of (ao := none) (cap := 0) ⟨?_, ?_, ?_, h2⟩, by unfold trAll; trivial⟩
  · rw [World.cell?_alloc_new]; rfl
  · rw [World.cell?_alloc_new]; rfl
  · rw [World.cell?_alloc_new]; rfl
theorem wr_ab : wrB [.mk 1 [97, 42, 98] []] = ⟨#[97, 92, 42, 98]⟩ ∧ erB [.mk 1 [97, 42, 98] []] = 0 := by
  constructor <;> decide +kernel
theorem fence_96 : ticksOf (⟨#[96]⟩ : ByteArray).data.toList = 2 := by decide +kernel

set_option maxHeartbeats 1600000 in
theorem awake9_any (K : Told9w) (w : World) : Calls Tryz.prog 25 #[] w (OkAns w true) := by
  have f1 : fitAll 140737488355328 [Sp.mk 1 [97, 42, 98] []] := by simp [fitAll, fitOne]
  have B0 := Lib.hid ((Below.refl w.heap.size w).alloc (Nat.le_refl _) (.cells #[.int .i64 1, .string (S [97, 42, 98]), .slice none 0 0] 31))
  have HW := Lib.hid (K.write _ _ _ (lit_tr w 1 [97, 42, 98] 31) (by decide) f1)
  have HF := Lib.hid (fun w => K.fence ⟨#[96]⟩ w (by decide))
  rw [wr_ab.1, wr_ab.2] at HW
  rw [fence_96] at HF
  have hs1 : S [97, 42, 98] = ⟨#[97, 42, 98]⟩ := rfl
  rw [hs1] at HW B0
  clear f1 hs1
  go_enter Tryz.func25, Tryz.ntmps25
  go_wp2_with fail
  generalize w.alloc (.cells #[.int .i64 1, .string ⟨#[97, 42, 98]⟩, .slice none 0 0] 31) = w1 at *
  refine HW.out.mono ?_
  rintro e w2 ⟨rfl, b2⟩
  have H2 := Lib.hid (B0.out.trans (b2.mono B0.out.size))
  clear b2 HW
  go_wp2_with fail
  refine (HF.out _).mono ?_
  rintro e w3 ⟨rfl, b3⟩
  have H3 := Lib.hid (H2.out.trans (b3.mono H2.out.size))
  clear b3 HF
  go_wp2_with fail
  go_ret
  exact ⟨rfl, H3.out⟩

end Go.Proofs.YtjgmfgnfdaeelaaGreatDoor.Sp
