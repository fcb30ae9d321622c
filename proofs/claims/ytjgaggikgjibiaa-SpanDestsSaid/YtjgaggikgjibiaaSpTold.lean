/-
  WHAT IS ASKED OF THE PROGRAM (span), over any world; a list of one span, as a literal lays it; the statements' own awake.
-/
import Derived.Test.YtjgaggikgjibiaaSpRt
import Derived.Test.YtjgaggikgjibiaaSpSame
namespace Go.Proofs.Ytjgaggikgjibiaa.Sp
open Go.RowKit
open Go.Proofs.Ytjgaggikgjibiaa.Tk (S S_of S_list S_size S_toList S_app ret_int)
open Go.Proofs.Ytjgaggikgjibiaa.Cm (calls_at)
set_option linter.unusedVariables false

def StrAns (w : World) (s : List UInt8) (e : Ending) (w' : World) : Prop := e = .returned (.string (S s)) ∧ Below w.heap.size w w'
def IntAns (w : World) (n : Int) (e : Ending) (w' : World) : Prop := e = .returned (.int .i64 n) ∧ Below w.heap.size w w'
def lnI (l : List Sp) : Int := 1 + (plAll l).count 10
structure Told : Prop where
  right : ∀ (v : Value) (l : List Sp) (w : World), Tr w v l → totAll l ≤ 20000 → fitAll 140737488355328 l → Calls Try.prog 12 #[v] w (OkAns w (rtB l))
  same : ∀ (va vb : Value) (a b : List Sp) (w : World), Tr w va a → Tr w vb b → totAll a ≤ 20000 → totAll b ≤ 20000 → Calls Try.prog 18 #[va, vb] w (OkAns w (smAll a b))
  plain : ∀ (v : Value) (l : List Sp) (w : World), Tr w v l → totAll l ≤ 20000 → Calls Try.prog 14 #[v] w (StrAns w (plAll l))
  lines : ∀ (v : Value) (l : List Sp) (w : World), Tr w v l → totAll l ≤ 20000 → Calls Try.prog 15 #[v] w (IntAns w (lnI l))
  dest : ∀ (s : ByteArray) (w : World), s.size ≤ 1000000 → Calls Try.prog 16 #[.string s] w (OkAns w (dsB s.data.toList))

mutual
theorem fitOne_mono {R R' : Nat} (h : R ≤ R') : ∀ x : Sp, fitOne R x → fitOne R' x
  | .mk k s l, hf => by
    unfold fitOne at hf ⊢
    exact ⟨hf.1, Nat.le_trans hf.2.1 h, fitAll_mono h l hf.2.2⟩
theorem fitAll_mono {R R' : Nat} (h : R ≤ R') : ∀ l : List Sp, fitAll R l → fitAll R' l
  | [], _ => by unfold fitAll; trivial
  | x :: r, hf => by
    unfold fitAll at hf ⊢
    exact ⟨fitOne_mono h x hf.1, fitAll_mono h r hf.2⟩
end
theorem fit_reach {l : List Sp} (h : fitAll reachBytes l) : fitAll 140737488355328 l := fitAll_mono (by decide) l h
theorem tr_nil (w : World) : Tr w (.slice none 0 0) [] := ⟨none, 0, rfl, ⟨Nat.le_refl _, by omega⟩, Or.inl rfl⟩
/-- A literal of one span. -/
theorem tr_one {w : World} {q : Int} {s : List UInt8} {ak : Option Addr} {n c : Nat} {l : List Sp} (h : Tr w (.slice ak n c) l) (t : TypeId) :
    Tr (w.alloc (.cells #[.int .i64 q, .string (S s), .slice ak n c] t)) (.slice (some ⟨w.heap.size, 0, none⟩) 1 1) [.mk q s l] := by
  have hb : Below w.heap.size w (w.alloc (.cells #[.int .i64 q, .string (S s), .slice ak n c] t)) := (Below.refl _ _).alloc (Nat.le_refl _) _
  have h2 := h.below hb
  have hn : n = l.length := by obtain ⟨_, _, hv, _⟩ := h; simp only [Value.slice.injEq] at hv; exact hv.2.1
  subst hn
  refine ⟨_, 1, rfl, ⟨Nat.le_refl _, by omega⟩, Or.inr ⟨w.heap.size, 0, rfl, by simp, ?_⟩⟩
  unfold trAll
  refine ⟨trOne_of (ao := ak) (cap := c) ⟨?_, ?_, ?_, h2⟩, by unfold trAll; trivial⟩
  · rw [World.cell?_alloc_new]; rfl
  · rw [World.cell?_alloc_new]; rfl
  · rw [World.cell?_alloc_new]; rfl

theorem rt_ab : rtB [.mk 1 [97, 32, 98] []] = true ∧ rtB [.mk 1 [32, 97] []] = false := by
  constructor <;> decide +kernel

set_option maxHeartbeats 1600000 in
theorem awake7_any (K : Told) (w : World) :
    Calls Try.prog 9 #[] w (OkAns w true) := by
  have t1 := tr_one (q := 1) (s := [97, 32, 98]) (tr_nil w) 31
  have f1 : fitAll 140737488355328 [Sp.mk 1 [97, 32, 98] []] := by simp [fitAll, fitOne]
  have f2 : fitAll 140737488355328 [Sp.mk 1 [32, 97] []] := by simp [fitAll, fitOne]
  have B0 := Lib.hid ((Below.refl w.heap.size w).alloc (Nat.le_refl _) (.cells #[.int .i64 1, .string (S [97, 32, 98]), .slice none 0 0] 31))
  have HR := Lib.hid (fun w' (h : Below (w.alloc (.cells #[.int .i64 1, .string (S [97, 32, 98]), .slice none 0 0] 31)).heap.size (w.alloc (.cells #[.int .i64 1, .string (S [97, 32, 98]), .slice none 0 0] 31)) w') => K.right _ _ w' (t1.below h) (by decide) f1)
  have HP := Lib.hid (fun w' (h : Below (w.alloc (.cells #[.int .i64 1, .string (S [97, 32, 98]), .slice none 0 0] 31)).heap.size (w.alloc (.cells #[.int .i64 1, .string (S [97, 32, 98]), .slice none 0 0] 31)) w') => K.plain _ _ w' (t1.below h) (by decide))
  have HL := Lib.hid (fun w' (h : Below (w.alloc (.cells #[.int .i64 1, .string (S [97, 32, 98]), .slice none 0 0] 31)).heap.size (w.alloc (.cells #[.int .i64 1, .string (S [97, 32, 98]), .slice none 0 0] 31)) w') => K.lines _ _ w' (t1.below h) (by decide))
  have HR2 := Lib.hid (fun w' => K.right _ _ _ (tr_one (q := 1) (s := [32, 97]) (tr_nil w') 31) (by decide) f2)
  rw [rt_ab.1] at HR
  rw [rt_ab.2] at HR2
  rw [show plAll [Sp.mk 1 [97, 32, 98] []] = [97, 32, 98] by decide +kernel] at HP
  rw [show lnI [Sp.mk 1 [97, 32, 98] []] = 1 by decide +kernel] at HL
  have hs1 : S [97, 32, 98] = ⟨#[97, 32, 98]⟩ := rfl
  have hs2 : S [32, 97] = ⟨#[32, 97]⟩ := rfl
  rw [hs1] at HR HP HL B0
  rw [hs2] at HR2
  clear t1 f1 f2 hs1 hs2
  go_enter Try.func9, Try.ntmps9
  go_upto_region 2 with fail
  generalize w.alloc (.cells #[.int .i64 1, .string ⟨#[97, 32, 98]⟩, .slice none 0 0] 31) = w1 at *
  go_wp2_with fail
  refine (HR.out _ (Below.refl _ _)).mono ?_
  rintro e w2 ⟨rfl, b2⟩
  have H2 := Lib.hid b2
  clear b2
  go_wp2_with fail
  refine (HP.out _ H2.out).mono ?_
  rintro e w3 ⟨rfl, b3⟩
  have H3 := Lib.hid (H2.out.trans (b3.mono H2.out.size))
  have e0 : ((S [97, 32, 98]).toList == ([97, 32, 98] : List UInt8)) = true := by rw [S_toList]; rfl
  clear b3
  go_wp2_with fail
  refine (HL.out _ H3.out).mono ?_
  rintro e w4 ⟨rfl, b4⟩
  have H4 := Lib.hid (H3.out.trans (b4.mono H3.out.size))
  clear b4 HR HP HL
  go_wp2_with fail
  refine (HR2.out w4).mono ?_
  rintro e w5 ⟨rfl, b5⟩
  have H5 := Lib.hid (B0.out.trans ((H4.out.trans ((((Below.refl w4.heap.size w4).alloc (Nat.le_refl _) _).trans (b5.mono (by simp))).mono H4.out.size)).mono B0.out.size))
  clear b5
  go_wp2_with fail
  go_ret
  exact ⟨rfl, H5.out⟩

end Go.Proofs.Ytjgaggikgjibiaa.Sp
