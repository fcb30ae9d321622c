/-
  CONTRACT of common (package lcs).
-/
import Derived.Test.YtbfclmhcoelplaaLpIter
namespace Go.Proofs.Ytbfclmhcoelplaa.Lp
open Go.RowKit Go.Proofs.Ytbfclmhcoelplaa.Cm Go.Proofs.Ytbfclmhcoelplaa.Lc Go.Proofs.Ytbfclmhcoelplaa.Lcx
set_option linter.unusedVariables false
set_option maxHeartbeats 1600000 in
theorem common_any (aoa aob : Option Addr) (la ca lb cb : Nat) (w : World) :
    Calls Try.prog 37 #[.slice aoa la ca, .slice aob lb cb, .int .i64 1048576] w fun e w' => ∃ AB BB OB : Nat, e = .returned (.func (.func 41) #[] #[.pointer (some ⟨AB, 0, none⟩), .pointer (some ⟨BB, 0, none⟩), .pointer (some ⟨OB, 0, none⟩)]) ∧
      Bo w' AB (.slice aoa la ca) ∧ Bo w' BB (.slice aob lb cb) ∧ Bo w' OB (.int .i64 1048576) ∧ Keep (fun _ => False) w w' := by
  go_enter Try.func37, Try.ntmps37
  go_wp2_with fail
  go_ret
  refine ⟨_, _, _, rfl, ?_, ?_, ?_, (((Keep.refl _ w).alloc _).alloc _).alloc _⟩
  · exact (Bo.new w (.slice aoa la ca) 22 (by decide) (by decide)).kept (((Keep.refl _ _).alloc _).alloc _)
  · have := (Bo.new (w.alloc (Obj.cells #[.slice aoa la ca] 22)) (.slice aob lb cb) 22 (by decide) (by decide)).kept ((Keep.refl _ _).alloc (Obj.cells #[.int .i64 1048576] 3))
    rwa [World.size_alloc] at this
  · have := Bo.new ((w.alloc (Obj.cells #[.slice aoa la ca] 22)).alloc (Obj.cells #[.slice aob lb cb] 22)) (.int .i64 1048576) 3 (by decide) (by decide)
    rwa [World.size_alloc, World.size_alloc] at this
end Go.Proofs.Ytbfclmhcoelplaa.Lp
