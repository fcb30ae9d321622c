/-
  WHAT IS ASKED OF THE PROGRAM (spanout, and spanin as far as layer 9's statements call it), over any world.
-/
import Derived.Test.YtjgmfgnfdaeelaaGreatDoorSo9TellW
import Derived.Test.YtjgmfgnfdaeelaaGreatDoorSiPlain
import Derived.Test.YtjgmfgnfdaeelaaGreatDoorPkG
namespace Go.Proofs.YtjgmfgnfdaeelaaGreatDoor.Sp
open Go.RowKit
open Go.Proofs.YtjgmfgnfdaeelaaGreatDoor.Tk (S S_of S_list S_size S_toList S_app ret_int eq8 ne8 at_data len_data)
open Go.Proofs.YtjgmfgnfdaeelaaGreatDoor.Cm (calls_at)
set_option linter.unusedVariables false

def rdB (s : ByteArray) : List Sp := (Rdr false false s.data.toList).1
def PrAns (w : World) (L : List Sp) (e : Ending) (w' : World) : Prop := ∃ v, e = .returned v ∧ Below w.heap.size w w' ∧ Tr w' v L
structure Told9 : Prop extends Told9w where
  clean : ∀ (s : ByteArray) (w : World), s.size ≤ 20000 → Calls Tryz.prog 17 #[.string s] w (OkAns w (clnB s))
  parse : ∀ (s : ByteArray) (w : World), s.size ≤ 20000 → Calls Tryz.prog 15 #[.string s] w (PrAns w (rdB s))
end Go.Proofs.YtjgmfgnfdaeelaaGreatDoor.Sp
