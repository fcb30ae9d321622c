/-
  THE PROGRAM's Length and Dice as the walks ask for them.
-/
import Derived.Test.YtgmonfeookljmaaLpLength
import Derived.Test.YtgmonfeookljmaaLcTold
namespace Go.Proofs.Ytgmonfeookljmaa.Lc
open Go.RowKit Go.Proofs.Ytgmonfeookljmaa.Cm
theorem toldL : ToldL where
  length := fun va vb a b w ha hb hla hlb => Go.Proofs.Ytgmonfeookljmaa.Lp.length_any va vb a b w ha hb (by omega) (by omega)
  dice := fun va vb a b w ha hb hla hlb => Go.Proofs.Ytgmonfeookljmaa.Lp.dice_any va vb a b w ha hb (by omega) (by omega)
end Go.Proofs.Ytgmonfeookljmaa.Lc
