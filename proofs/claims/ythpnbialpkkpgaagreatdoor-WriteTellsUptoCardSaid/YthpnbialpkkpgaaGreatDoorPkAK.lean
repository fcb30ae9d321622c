import Derived.Test.YthpnbialpkkpgaaGreatDoorPkX
import Derived.Deep.RegionLaw
import Derived.Test.YthpnbialpkkpgaaGreatDoorPkV
import Derived.Test.YthpnbialpkkpgaaGreatDoorPkW
import Derived.Test.YthpnbialpkkpgaaGreatDoorBt10Told
import Derived.Lib.QuietBelow
import Derived.BigQuiet
import Derived.Test.YthpnbialpkkpgaaGreatDoorPkAG
import Derived.Test.YthpnbialpkkpgaaGreatDoorPkAJ
namespace Go.Proofs.YthpnbialpkkpgaaGreatDoor.Pa
open Go.RowKit
open Go.Proofs.YthpnbialpkkpgaaGreatDoor.Tk (S Rd)
open Go.Proofs.YthpnbialpkkpgaaGreatDoor.Bk (Tx)
set_option linter.unusedVariables false
end Go.Proofs.YthpnbialpkkpgaaGreatDoor.Pa
namespace Go.Proofs.YthpnbialpkkpgaaGreatDoor.Pa
open Go.RowKit
open Go.Proofs.YthpnbialpkkpgaaGreatDoor.Tk (S S_of S_list S_size S_toList S_app Rd get_lt)
open Go.Proofs.YthpnbialpkkpgaaGreatDoor.Bk (Tx Bk)
set_option linter.unusedVariables false
theorem appS_empty {w : World} {B : Nat} {v : Value} {n : Nat} {xs : List Value} {i0 : TypeInfo} (hi : Tryz.prog.info? 9 = some i0) (h : w.ownsRow B 9 1 v n xs) (ty : TypeId) (ao : Option Addr) (c : Nat) :
    (Builtin.append_ #[23, 23] ty #[v, .slice ao 0 c]).run Tryz.prog w = .ok v w := by
  rcases h.2 with ⟨rfl, rfl⟩ | ⟨g, cap, cur, rfl, _, _, hnc, _⟩
  · cases ao <;> simp [Builtin.append_, run_underlying Tryz.underlying23, sizeOf, typeInfo, hi, Builtin.lenOf, Builtin.firstCells, loadCells, loadCellsFrom]
  · cases ao <;> simp [Builtin.append_, run_underlying Tryz.underlying23, sizeOf, typeInfo, hi, Builtin.lenOf, Builtin.firstCells, hnc, storeCells, loadCells, loadCellsFrom]
theorem encS_one (xs : List Tx) : ∀ u ∈ xs.map encStr, u.oneCell' = true := by
  intro u hu
  obtain ⟨x, _, rfl⟩ := List.mem_map.1 hu
  rfl
theorem encS_cells {w : World} {b o : Nat} {xs : List Tx} (h : ∀ j x, xs[j]? = some x → w.cell? ⟨b, o + j, none⟩ = some (.string (S x))) :
    ∀ j u, (xs.map encStr)[j]? = some u → w.cell? (Addr.add ⟨b, o, none⟩ j) = some u := by
  intro j u hj
  rw [List.getElem?_map] at hj
  cases hx : xs[j]? with
  | none => rw [hx] at hj; simp at hj
  | some x =>
    rw [hx] at hj
    simp only [Option.map_some, Option.some.injEq] at hj
    subst hj
    rw [show (Addr.add ⟨b, o, none⟩ j) = ⟨b, o + j, none⟩ by simp [Addr.add]]
    exact h j x hx
theorem appS_rd {w : World} {B : Nat} {v u : Value} {os ys : List Tx} (h : w.ownsRow B 9 1 v os.length (os.map encStr)) (hu : Rd w u ys) (hB : B ≤ w.heap.size) (hs : os.length + ys.length ≤ 1000000) :
    ∃ v' w', (∀ ty, (Builtin.append_ #[23, 23] ty #[v, u]).run Tryz.prog w = .ok v' w') ∧ w'.ownsRow B 9 1 v' (os ++ ys).length ((os ++ ys).map encStr) ∧ w.grownBy w' v.ownBlock := by
  obtain ⟨i0, hi, hz0, hz1, hz2⟩ := info_parts infoX
  obtain ⟨ao, c, rfl, hc, hx⟩ := hu
  by_cases h0 : ys = []
  · subst h0
    refine ⟨v, w, fun ty => appS_empty hi h ty ao c, by rw [List.append_nil]; exact h, ⟨rfl, rfl, rfl, Nat.le_refl _, fun k _ _ => rfl⟩⟩
  · rcases hx with hx | ⟨b, o, rfl, hlt, hcell⟩
    · exact absurd hx h0
    obtain ⟨v', w', h1, h2, h3, _⟩ := run_append_own (P := Tryz.prog) w B 23 0 9 i0 (.string ⟨#[]⟩) 1 16 Tryz.underlying23 hi hz0 hz1 hz2 rfl (by decide) v os.length (os.map encStr) h ⟨b, o, none⟩ ys.length c (ys.map encStr) (by simp) (encS_cells hcell) (encS_one ys) (by unfold maxLen; omega) (by omega) hB
    refine ⟨v', w', fun ty => h1, ?_, h3⟩
    rw [List.length_append, List.map_append]
    exact h2
end Go.Proofs.YthpnbialpkkpgaaGreatDoor.Pa
namespace Go.Proofs.YthpnbialpkkpgaaGreatDoor.Pa
open Go.RowKit
open Go.Proofs.YthpnbialpkkpgaaGreatDoor.Tk (S S_of S_list S_size S_toList S_app ret_int eq8 ne8 at_data len_data Rd)
open Go.Proofs.YthpnbialpkkpgaaGreatDoor.Cm (Keep)
open Go.Proofs.YthpnbialpkkpgaaGreatDoor.Bk (Tx Bk kindOf)
open Go.Proofs.YthpnbialpkkpgaaGreatDoor.Ln (run trim)
open Go.Proofs.YthpnbialpkkpgaaGreatDoor.Kd (E0)
set_option linter.unusedVariables false
end Go.Proofs.YthpnbialpkkpgaaGreatDoor.Pa
namespace Go.Proofs.YthpnbialpkkpgaaGreatDoor.Pa
open Go.RowKit
open Go.Proofs.YthpnbialpkkpgaaGreatDoor.Tk (S S_of S_list S_size S_toList S_app ret_int eq8 ne8 at_data len_data Rd)
open Go.Proofs.YthpnbialpkkpgaaGreatDoor.Cm (Keep own_keep alloc_new alloc_at cell_at frozen_at lt_of_at)
open Go.Proofs.YthpnbialpkkpgaaGreatDoor.Bk (Tx Bk kindOf)
open Go.Proofs.YthpnbialpkkpgaaGreatDoor.Kd (E0)
set_option linter.unusedVariables false
end Go.Proofs.YthpnbialpkkpgaaGreatDoor.Pa
namespace Go.Proofs.YthpnbialpkkpgaaGreatDoor.Pa
open Go.RowKit
open Go.Proofs.YthpnbialpkkpgaaGreatDoor.Tk (S S_of S_list S_size S_toList S_app ret_int eq8 ne8 at_data len_data Rd)
open Go.Proofs.YthpnbialpkkpgaaGreatDoor.Cm (Keep alloc_new alloc_at cell_at frozen_at lt_of_at)
open Go.Proofs.YthpnbialpkkpgaaGreatDoor.Bk (Tx Bk kindOf)
open Go.Proofs.YthpnbialpkkpgaaGreatDoor.Ln (run trim)
open Go.Proofs.YthpnbialpkkpgaaGreatDoor.Kd (E0)
set_option linter.unusedVariables false
end Go.Proofs.YthpnbialpkkpgaaGreatDoor.Pa
