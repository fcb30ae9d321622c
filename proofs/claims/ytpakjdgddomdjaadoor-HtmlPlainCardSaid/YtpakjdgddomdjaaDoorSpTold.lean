/-
  WHAT IS ASKED OF THE PROGRAM (span), over any world; a list of one span, as a literal lays it; the statements' own awake.
-/
import Derived.Test.YtpakjdgddomdjaaDoorSpRt
import Derived.Test.YtpakjdgddomdjaaDoorSpSame
namespace Go.Proofs.YtpakjdgddomdjaaDoor.Sp
open Go.RowKit
open Go.Proofs.YtpakjdgddomdjaaDoor.Tk (S S_of S_list S_size S_toList S_app ret_int)
open Go.Proofs.YtpakjdgddomdjaaDoor.Cm (calls_at)
set_option linter.unusedVariables false

def StrAns (w : World) (s : List UInt8) (e : Ending) (w' : World) : Prop := e = .returned (.string (S s)) ∧ Below w.heap.size w w'
def IntAns (w : World) (n : Int) (e : Ending) (w' : World) : Prop := e = .returned (.int .i64 n) ∧ Below w.heap.size w w'
def lnI (l : List Sp) : Int := 1 + (plAll l).count 10
mutual
theorem fitOne_mono {R R' : Nat} (h : R ≤ R') : ∀ x : Sp, fitOne R x → fitOne R' x
  | .mk k s l, hf => by
    unfold fitOne at hf ⊢
    exact ⟨hf.1, Nat.le_trans hf.2.1 h, fitAll_mono h l hf.2.2⟩
theorem fitAll_mono {R R' : Nat} (h : R ≤ R') : ∀ l : List Sp, fitAll R l → fitAll R' l
  | [], _ => by unfold fitAll; trivial
  | x :: r, hf => by
    unfold fitAll at hf ⊢
    exact ⟨fitOne_mono h x hf.1, fitAll_mono h r hf.2⟩
end
theorem fit_reach {l : List Sp} (h : fitAll reachBytes l) : fitAll 140737488355328 l := fitAll_mono (by decide) l h
theorem tr_nil (w : World) : Tr w (.slice none 0 0) [] := ⟨none, 0, rfl, ⟨Nat.le_refl _, by omega⟩, Or.inl rfl⟩
/-- A literal of one span. -/
theorem tr_one {w : World} {q : Int} {s : List UInt8} {ak : Option Addr} {n c : Nat} {l : List Sp} (h : Tr w (.slice ak n c) l) (t : TypeId) :
    Tr (w.alloc (.cells #[.int .i64 q, .string (S s), .slice ak n c] t)) (.slice (some ⟨w.heap.size, 0, none⟩) 1 1) [.mk q s l] := by
  have hb : Below w.heap.size w (w.alloc (.cells #[.int .i64 q, .string (S s), .slice ak n c] t)) := (Below.refl _ _).alloc (Nat.le_refl _) _
  have h2 := h.below hb
  have hn : n = l.length := by obtain ⟨_, _, hv, _⟩ := h; simp only [Value.slice.injEq] at hv; exact hv.2.1
  subst hn
  refine ⟨_, 1, rfl, ⟨Nat.le_refl _, by omega⟩, Or.inr ⟨w.heap.size, 0, rfl, by simp, ?_⟩⟩
  unfold trAll
  refine ⟨trOne_of (ao := ak) (cap := c) ⟨?_, ?_, ?_, h2⟩, by unfold trAll; trivial⟩
  · rw [World.cell?_alloc_new]; rfl
  · rw [World.cell?_alloc_new]; rfl
  · rw [World.cell?_alloc_new]; rfl

theorem rt_ab : rtB [.mk 1 [97, 32, 98] []] = true ∧ rtB [.mk 1 [32, 97] []] = false := by
  constructor <;> decide +kernel

end Go.Proofs.YtpakjdgddomdjaaDoor.Sp
