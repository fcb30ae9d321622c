import Derived.Test.YtihihgfcklkkhaaGreatDoorBtCountP
import Derived.Test.YtihihgfcklkkhaaGreatDoorPkAB
namespace Go.Proofs.YtihihgfcklkkhaaGreatDoor.Pa
open Go.RowKit
open Go.Proofs.YtihihgfcklkkhaaGreatDoor.Bt (deepP_any countP_any szAll)
set_option linter.unusedVariables false
theorem deepC : DeepC := fun v l w ht _ _ => deepP_any (szAll l) l v w (Nat.le_refl _) ht
theorem countC : CountC := fun v l w ht _ _ => countP_any (szAll l) l v w (Nat.le_refl _) ht
end Go.Proofs.YtihihgfcklkkhaaGreatDoor.Pa
