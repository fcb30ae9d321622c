/-
  HOW MUCH THERE IS: the document's spend and Size (emendationref10), the statements' few, as the machine reckons.
-/
import Derived.Test.YtpenjdnbnacebaaDoorBtCount
import Derived.Test.YtpenjdnbnacebaaDoorSpSame
import Derived.BigQuiet
import Derived.Deep.Cut
import Derived.Deep.CutRange
import Derived.Deep.CutBlock
namespace Go.Proofs.YtpenjdnbnacebaaDoor.Bt
open Go.RowKit
open Go.Proofs.YtpenjdnbnacebaaDoor.Tk (S S_of S_list S_size ret_int Rd)
open Go.Proofs.YtpenjdnbnacebaaDoor.Cm (calls_at)
open Go.Proofs.YtpenjdnbnacebaaDoor.Sp (Sp Tr ret_bool)
open Go.Proofs.YtpenjdnbnacebaaDoor.Bk (Bk)
set_option linter.unusedVariables false

theorem Rd.at {w : World} {ao : Option Addr} {n c : Nat} {xs : List (List UInt8)} (h : Rd w (.slice ao n c) xs) : ∀ j (hj : j < xs.length), ∃ b o, ao = some ⟨b, o, none⟩ ∧ w.cell? ⟨b, o + j, none⟩ = some (.string (S xs[j])) := by
  intro j hj
  obtain ⟨ao', cap, hv, _, hx⟩ := h
  simp only [Value.slice.injEq] at hv
  obtain ⟨rfl, _, _⟩ := hv
  rcases hx with hx | ⟨b, o, rfl, _, hc⟩
  · subst hx; exact absurd hj (Nat.not_lt_zero _)
  · exact ⟨b, o, rfl, hc j _ (List.getElem?_eq_getElem hj)⟩

/-- Lines, as the machine counts them. -/
def lnW (n : Int) : List (List UInt8) → Int
  | [] => n
  | s :: r => lnW (IntKind.i64.wrap (IntKind.i64.wrap (n + 1) + s.length)) r
/-- A block, ahead of its kids. -/
def hdW (n : Int) (x : Bk) : Int := lnW (IntKind.i64.wrap (IntKind.i64.wrap (IntKind.i64.wrap (n + 1) + x.info.length) + Sp.spAll 30 5000 0 x.spans)) x.lines
mutual
def spOne (deep : Nat) (left n : Int) : Bk → Int
  | .mk _ _ i ls ss l =>
    IntKind.i64.wrap (lnW (IntKind.i64.wrap (IntKind.i64.wrap (IntKind.i64.wrap (n + 1) + i.length) + Sp.spAll 30 5000 0 ss)) ls
      + spAll (deep - 1) (IntKind.i64.wrap (left - lnW (IntKind.i64.wrap (IntKind.i64.wrap (IntKind.i64.wrap (n + 1) + i.length) + Sp.spAll 30 5000 0 ss)) ls)) 0 l)
def spAll (deep : Nat) (left n : Int) : List Bk → Int
  | [] => n
  | x :: r => if deep = 0 ∨ left ≤ n then IntKind.i64.wrap (n + 1000000) else spAll deep left (spOne deep left n x) r
end
theorem spOne_eq (deep : Nat) (left n : Int) (x : Bk) : spOne deep left n x = IntKind.i64.wrap (hdW n x + spAll (deep - 1) (IntKind.i64.wrap (left - hdW n x)) 0 x.kids) := by
  obtain ⟨k, lv, i, ls, ss, l⟩ := x
  rw [spOne]
  rfl
theorem spAll_cons (deep : Nat) (left n : Int) (x : Bk) (r : List Bk) : spAll deep left n (x :: r) = if deep = 0 ∨ left ≤ n then IntKind.i64.wrap (n + 1000000) else spAll deep left (spOne deep left n x) r := by rw [spAll]
def fewB (l : List Bk) : Bool := decide (spAll 40 5000 0 l < 4000)

end Go.Proofs.YtpenjdnbnacebaaDoor.Bt
