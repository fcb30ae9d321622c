/-
  BLOCKS, the type alone. No program.
-/
import Derived.Test.YtpakjdgddomdjaaDoorSpPlain
namespace Go.Proofs.YtpakjdgddomdjaaDoor.Bk
open Go.Proofs.YtpakjdgddomdjaaDoor.Sp (Sp)
set_option linter.unusedVariables false
abbrev Tx := List UInt8
/-- A block. -/
inductive Bk where
  | mk (kind level : Int) (info : Tx) (lines : List Tx) (spans : List Sp) (kids : List Bk)
namespace Bk
def kind : Bk → Int | .mk k _ _ _ _ _ => k
def level : Bk → Int | .mk _ k _ _ _ _ => k
def info : Bk → Tx | .mk _ _ i _ _ _ => i
def lines : Bk → List Tx | .mk _ _ _ l _ _ => l
def spans : Bk → List Sp | .mk _ _ _ _ s _ => s
def kids : Bk → List Bk | .mk _ _ _ _ _ k => k
end Bk
end Go.Proofs.YtpakjdgddomdjaaDoor.Bk
