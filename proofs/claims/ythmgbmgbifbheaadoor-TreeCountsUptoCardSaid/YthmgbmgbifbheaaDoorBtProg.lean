/-
  WHAT IS ASKED OF THE PROGRAM (tree) holds.
-/
import Derived.Test.YthmgbmgbifbheaaDoorBtRightP
import Derived.Test.YthmgbmgbifbheaaDoorBtSameP
import Derived.Test.YthmgbmgbifbheaaDoorBtCountP
import Derived.Test.YthmgbmgbifbheaaDoorBt10Told
namespace Go.Proofs.YthmgbmgbifbheaaDoor.Bt
open Go.RowKit
set_option linter.unusedVariables false

theorem told10 : Told10 where
  right := fun v l w ht hf htt => by
    have h := rightBP_any l v w (fitAll_wide (by decide) l hf) ht
    rwa [rgW_rgB hf htt] at h
  same := fun va vb a b w ta tb _ _ => sameBP_any (szAll a) a b va vb w (Nat.le_refl _) ta tb
  deep := fun v l w ht _ _ => deepP_any (szAll l) l v w (Nat.le_refl _) ht
  count := fun v l w ht _ _ => countP_any (szAll l) l v w (Nat.le_refl _) ht
  label := fun s w hs => labelP_any s hs w

end Go.Proofs.YthmgbmgbifbheaaDoor.Bt
