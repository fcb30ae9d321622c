/-
  THE PROGRAM's functions as the walks ask for them, Pairs too.
-/
import Derived.Test.YtgmonfeookljmaaLpPairs
import Derived.Test.YtgmonfeookljmaaLcProg
namespace Go.Proofs.Ytgmonfeookljmaa.Lc
open Go.RowKit Go.Proofs.Ytgmonfeookljmaa.Cm
theorem told : Told where
  toToldL := toldL
  pairs := fun va vb a b w ha hb hla hlb => Go.Proofs.Ytgmonfeookljmaa.Lp.pairs_any va vb a b w ha hb (by omega) (by omega)
end Go.Proofs.Ytgmonfeookljmaa.Lc
