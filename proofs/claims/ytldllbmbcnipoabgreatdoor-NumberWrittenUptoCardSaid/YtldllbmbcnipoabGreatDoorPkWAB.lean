/-
  Several texts in one:
  
  
  
  
  
  
  
  
  
  
  
  
  
  
  
  
  
  
  
  
  
-/
import Derived.Test.YtldllbmbcnipoabGreatDoorPkWZ
import Derived.Test.YtldllbmbcnipoabGreatDoorPkWG
import Derived.Test.YtldllbmbcnipoabGreatDoorPkWC
import Derived.BigQuiet
import Derived.Deep.QuietTactic
import Derived.OwnWalk
import Derived.Test.YtldllbmbcnipoabGreatDoorPkWV
import Derived.Deep.Cut
import Derived.Test.YtldllbmbcnipoabGreatDoorBtTree
import Derived.Test.YtldllbmbcnipoabGreatDoorPkWH
import Derived.Test.YtldllbmbcnipoabGreatDoorPkWAA
import Derived.Test.YtldllbmbcnipoabGreatDoorPkWK
import Derived.Maps.AppendAt
import Derived.Test.YtldllbmbcnipoabGreatDoorPkWQ
import Derived.Deep.RegionLaw
import Derived.Lib.Walk
import Derived.Test.YtldllbmbcnipoabGreatDoorPkWY
import Derived.Test.YtldllbmbcnipoabGreatDoorLnSplit
import Derived.WalkSmall
import Derived.Lib.SlBytesRow
import Derived.Test.YtldllbmbcnipoabGreatDoorPkWD
import Derived.Test.YtldllbmbcnipoabGreatDoorBtRightP
namespace Go.Proofs.YtldllbmbcnipoabGreatDoor.Kd
open Go.RowKit
open Go.Proofs.YtldllbmbcnipoabGreatDoor.Tk (S S_of S_list S_size S_toList S_app ret_int eq8 ne8 at_data len_data)
open Go.Proofs.YtldllbmbcnipoabGreatDoor.Sp (dsB)
open Go.Proofs.YtldllbmbcnipoabGreatDoor.Bt (labB)
open Go.Proofs.YtldllbmbcnipoabGreatDoor.Bk (Tx define)
set_option linter.unusedVariables false
end Go.Proofs.YtldllbmbcnipoabGreatDoor.Kd

namespace Go.Proofs.YtldllbmbcnipoabGreatDoor.Kd
open Go.RowKit
open Go.Proofs.YtldllbmbcnipoabGreatDoor.Tk (S S_of S_list S_size S_toList S_app ret_int eq8 ne8 at_data len_data)
open Go.Proofs.YtldllbmbcnipoabGreatDoor.Bk (Tx define kindOf)
open Go.Proofs.YtldllbmbcnipoabGreatDoor.Ln (run mx trim run_le)
set_option linter.unusedVariables false
end Go.Proofs.YtldllbmbcnipoabGreatDoor.Kd

namespace Go.Proofs.YtldllbmbcnipoabGreatDoor.Kd
open Go.RowKit
open Go.Proofs.YtldllbmbcnipoabGreatDoor.Tk (S S_of S_list S_size S_toList S_app ret_int eq8 ne8 at_data len_data Rd)
open Go.Proofs.YtldllbmbcnipoabGreatDoor.Sp (Sp Tr ret_bool)
open Go.Proofs.YtldllbmbcnipoabGreatDoor.Bt (TrB)
open Go.Proofs.YtldllbmbcnipoabGreatDoor.Cm (alloc_new alloc_at cell_at frozen_at set_at lt_of_at)
open Go.Proofs.YtldllbmbcnipoabGreatDoor.Bk (Tx Bk define kindOf inner unquote)
open Go.Proofs.YtldllbmbcnipoabGreatDoor.Ln (run mx trim run_le)
set_option linter.unusedVariables false
end Go.Proofs.YtldllbmbcnipoabGreatDoor.Kd

namespace Go.Proofs.YtldllbmbcnipoabGreatDoor.Pa
open Go.RowKit
open Go.Proofs.YtldllbmbcnipoabGreatDoor.Tk (S S_of S_list S_size S_toList S_app ret_int eq8 ne8 at_data len_data Rd)
open Go.Proofs.YtldllbmbcnipoabGreatDoor.Cm (Keep)
open Go.Proofs.YtldllbmbcnipoabGreatDoor.Bk (Tx Bk fenceL spanK itemL dropBlank listL kindOf closes unquote unitem inner)
open Go.Proofs.YtldllbmbcnipoabGreatDoor.Ln (run)
open Go.Proofs.YtldllbmbcnipoabGreatDoor.Kd (E0)
set_option linter.unusedVariables false
end Go.Proofs.YtldllbmbcnipoabGreatDoor.Pa

namespace Go.Proofs.YtldllbmbcnipoabGreatDoor.Pa
open Go.RowKit
open Go.Proofs.YtldllbmbcnipoabGreatDoor.Tk (S S_of S_list S_size S_toList S_app ret_int eq8 ne8 at_data len_data Rd)
open Go.Proofs.YtldllbmbcnipoabGreatDoor.Cm (Keep cell_at alloc_new)
open Go.Proofs.YtldllbmbcnipoabGreatDoor.Bk (Tx Bk fenceL spanK itemL dropBlank listL kindOf closes unquote unitem inner)
open Go.Proofs.YtldllbmbcnipoabGreatDoor.Ln (run)
open Go.Proofs.YtldllbmbcnipoabGreatDoor.Kd (E0)
set_option linter.unusedVariables false
end Go.Proofs.YtldllbmbcnipoabGreatDoor.Pa

namespace Go.Proofs.YtldllbmbcnipoabGreatDoor.Pa
open Go.RowKit
open Go.Proofs.YtldllbmbcnipoabGreatDoor.Tk (S S_of S_list S_size S_toList S_app ret_int eq8 ne8 at_data len_data Rd)
open Go.Proofs.YtldllbmbcnipoabGreatDoor.Cm (Keep cell_at alloc_new)
open Go.Proofs.YtldllbmbcnipoabGreatDoor.Bk (Tx Bk fenceL spanK itemL dropBlank listL kindOf closes unquote unitem inner)
open Go.Proofs.YtldllbmbcnipoabGreatDoor.Ln (run)
open Go.Proofs.YtldllbmbcnipoabGreatDoor.Kd (E0)
set_option linter.unusedVariables false
end Go.Proofs.YtldllbmbcnipoabGreatDoor.Pa

namespace Go.Proofs.YtldllbmbcnipoabGreatDoor.Pa
open Go.RowKit
open Go.Proofs.YtldllbmbcnipoabGreatDoor.Tk (S S_of S_list S_size S_toList S_app ret_int eq8 ne8 at_data len_data Rd)
open Go.Proofs.YtldllbmbcnipoabGreatDoor.Sp (Sp Tr ret_bool)
open Go.Proofs.YtldllbmbcnipoabGreatDoor.Bt (TrB KB)
open Go.Proofs.YtldllbmbcnipoabGreatDoor.Cm (Keep alloc_new alloc_at cell_at frozen_at set_at lt_of_at)
open Go.Proofs.YtldllbmbcnipoabGreatDoor.Bk (Tx Bk define kindOf)
open Go.Proofs.YtldllbmbcnipoabGreatDoor.Kd
set_option linter.unusedVariables false
end Go.Proofs.YtldllbmbcnipoabGreatDoor.Pa

namespace Go.Proofs.YtldllbmbcnipoabGreatDoor.Sp
open Go.RowKit
open Go.Proofs.YtldllbmbcnipoabGreatDoor.Tk (S S_of S_list S_size S_toList S_app ret_int)
open Go.Proofs.YtldllbmbcnipoabGreatDoor.Cm (calls_at Rk Rk.of_own flat_get Keep own_keep cell_at alloc_new alloc_at lt_of_at own_obj)
set_option linter.unusedVariables false
def KidS (B : Nat) (g : Option Nat) (w : World) (p : Sp × Value) : Prop := ∀ w', Keep (fun k => k < B ∨ some k = g) w w' → Tr w' p.2 p.1.kids
structure Out (w0 w : World) (v : Value) (L : List Sp) : Prop where
  ex : ∃ ps : List (Sp × Value), ps.map (·.1) = L ∧ Acc w0 w v ps ∧ ∀ p ∈ ps, KidS w0.heap.size v.ownBlock w p
end Go.Proofs.YtldllbmbcnipoabGreatDoor.Sp

namespace Go.Proofs.YtldllbmbcnipoabGreatDoor.Sp
open Go.RowKit
open Go.Proofs.YtldllbmbcnipoabGreatDoor.Tk (S S_of S_list S_size S_toList S_app ret_int)
open Go.Proofs.YtldllbmbcnipoabGreatDoor.Cm (calls_at Rk Keep cell_at alloc_new alloc_at lt_of_at step_append_run set_at)
set_option linter.unusedVariables false
end Go.Proofs.YtldllbmbcnipoabGreatDoor.Sp

namespace Go.Proofs.YtldllbmbcnipoabGreatDoor.Sp
open Go.RowKit
open Go.Proofs.YtldllbmbcnipoabGreatDoor.Tk (S S_of S_list S_size S_toList S_app ret_int eq8 ne8 at_data len_data cls)
open Go.Proofs.YtldllbmbcnipoabGreatDoor.Cm (calls_at Keep cell_at alloc_new alloc_at lt_of_at)
set_option linter.unusedVariables false
end Go.Proofs.YtldllbmbcnipoabGreatDoor.Sp

namespace Go.Proofs.YtldllbmbcnipoabGreatDoor.Pa
open Go.RowKit
open Go.Proofs.YtldllbmbcnipoabGreatDoor.Tk (S S_of S_list S_size S_toList S_app ret_int eq8 ne8 at_data len_data Rd)
open Go.Proofs.YtldllbmbcnipoabGreatDoor.Sp (Sp Tr)
open Go.Proofs.YtldllbmbcnipoabGreatDoor.Bt (TrB KB)
open Go.Proofs.YtldllbmbcnipoabGreatDoor.Cm (Keep alloc_new alloc_at cell_at frozen_at set_at lt_of_at)
open Go.Proofs.YtldllbmbcnipoabGreatDoor.Bk (Tx Bk fenceL spanK itemL dropBlank listL kindOf closes unquote unitem inner parse joinLF define items)
open Go.Proofs.YtldllbmbcnipoabGreatDoor.Ln (run trim)
open Go.Proofs.YtldllbmbcnipoabGreatDoor.Kd (E0)
set_option linter.unusedVariables false
end Go.Proofs.YtldllbmbcnipoabGreatDoor.Pa

namespace Go.Proofs.YtldllbmbcnipoabGreatDoor.Pa
open Go.RowKit
open Go.Proofs.YtldllbmbcnipoabGreatDoor.Tk (S S_of S_list S_size S_toList S_app ret_int eq8 ne8 at_data len_data Rd)
open Go.Proofs.YtldllbmbcnipoabGreatDoor.Sp (Sp Tr)
open Go.Proofs.YtldllbmbcnipoabGreatDoor.Bt (TrB KB)
open Go.Proofs.YtldllbmbcnipoabGreatDoor.Cm (Keep alloc_new alloc_at cell_at frozen_at set_at lt_of_at)
open Go.Proofs.YtldllbmbcnipoabGreatDoor.Bk (Tx Bk fenceL spanK itemL dropBlank listL kindOf closes unquote unitem inner parse joinLF define items)
open Go.Proofs.YtldllbmbcnipoabGreatDoor.Ln (run trim)
open Go.Proofs.YtldllbmbcnipoabGreatDoor.Kd (E0)
set_option linter.unusedVariables false
end Go.Proofs.YtldllbmbcnipoabGreatDoor.Pa

namespace Go.Proofs.YtldllbmbcnipoabGreatDoor.Pa
open Go.RowKit
open Go.Proofs.YtldllbmbcnipoabGreatDoor.Tk (S S_of S_list S_size S_toList S_app ret_int eq8 ne8 at_data len_data Rd)
open Go.Proofs.YtldllbmbcnipoabGreatDoor.Sp (Sp Tr)
open Go.Proofs.YtldllbmbcnipoabGreatDoor.Bt (TrB KB)
open Go.Proofs.YtldllbmbcnipoabGreatDoor.Cm (Keep alloc_new alloc_at cell_at frozen_at set_at lt_of_at)
open Go.Proofs.YtldllbmbcnipoabGreatDoor.Bk (Tx Bk fenceL spanK itemL dropBlank listL kindOf closes unquote unitem inner parse joinLF define items)
open Go.Proofs.YtldllbmbcnipoabGreatDoor.Ln (run trim)
open Go.Proofs.YtldllbmbcnipoabGreatDoor.Kd (E0)
set_option linter.unusedVariables false
end Go.Proofs.YtldllbmbcnipoabGreatDoor.Pa

namespace Go.Proofs.YtldllbmbcnipoabGreatDoor.Pa
open Go.RowKit
open Go.Proofs.YtldllbmbcnipoabGreatDoor.Tk (S S_of S_list S_size S_toList S_app ret_int eq8 ne8 at_data len_data Rd)
open Go.Proofs.YtldllbmbcnipoabGreatDoor.Sp (Sp Tr)
open Go.Proofs.YtldllbmbcnipoabGreatDoor.Bt (TrB KB)
open Go.Proofs.YtldllbmbcnipoabGreatDoor.Cm (Keep alloc_new alloc_at cell_at frozen_at set_at lt_of_at)
open Go.Proofs.YtldllbmbcnipoabGreatDoor.Bk (Tx Bk fenceL spanK itemL dropBlank listL kindOf closes unquote unitem inner parse joinLF define items)
open Go.Proofs.YtldllbmbcnipoabGreatDoor.Ln (run trim)
open Go.Proofs.YtldllbmbcnipoabGreatDoor.Kd (E0)
set_option linter.unusedVariables false
end Go.Proofs.YtldllbmbcnipoabGreatDoor.Pa

namespace Go.Proofs.YtldllbmbcnipoabGreatDoor.Ln
open Go.RowKit
set_option linter.unusedVariables false
end Go.Proofs.YtldllbmbcnipoabGreatDoor.Ln

namespace Go.Proofs.YtldllbmbcnipoabGreatDoor.Ln
open Go.RowKit
set_option linter.unusedVariables false
end Go.Proofs.YtldllbmbcnipoabGreatDoor.Ln

namespace Go.Proofs.YtldllbmbcnipoabGreatDoor.Pa
open Go.RowKit
open Go.Proofs.YtldllbmbcnipoabGreatDoor.Tk (S S_of S_list S_size S_toList S_app ret_int eq8 ne8 at_data len_data Rd)
open Go.Proofs.YtldllbmbcnipoabGreatDoor.Sp (Sp Tr)
open Go.Proofs.YtldllbmbcnipoabGreatDoor.Bt (TrB KB)
open Go.Proofs.YtldllbmbcnipoabGreatDoor.Cm (Keep alloc_new alloc_at cell_at frozen_at set_at lt_of_at)
open Go.Proofs.YtldllbmbcnipoabGreatDoor.Bk (Tx Bk kindOf define)
open Go.Proofs.YtldllbmbcnipoabGreatDoor.Kd (E0)
set_option linter.unusedVariables false
end Go.Proofs.YtldllbmbcnipoabGreatDoor.Pa

namespace Go.Proofs.YtldllbmbcnipoabGreatDoor.Pa
open Go.RowKit
open Go.Proofs.YtldllbmbcnipoabGreatDoor.Tk (S S_of S_list S_size S_toList S_app ret_int eq8 ne8 at_data len_data Rd)
open Go.Proofs.YtldllbmbcnipoabGreatDoor.Bt (TrB KB)
open Go.Proofs.YtldllbmbcnipoabGreatDoor.Cm (Keep)
open Go.Proofs.YtldllbmbcnipoabGreatDoor.Bk (Tx Bk kindOf)
open Go.Proofs.YtldllbmbcnipoabGreatDoor.Kd (E0)
open Go.Proofs.YtldllbmbcnipoabGreatDoor.Utf (chk)
set_option linter.unusedVariables false
end Go.Proofs.YtldllbmbcnipoabGreatDoor.Pa

namespace Go.Proofs.YtldllbmbcnipoabGreatDoor.Pa
open Go.RowKit
open Go.Proofs.YtldllbmbcnipoabGreatDoor.Tk (S S_of S_list S_size S_toList S_app ret_int eq8 ne8 at_data len_data Rd)
open Go.Proofs.YtldllbmbcnipoabGreatDoor.Bt (TrB KB)
open Go.Proofs.YtldllbmbcnipoabGreatDoor.Cm (Keep Rk alloc_new alloc_at cell_at frozen_at set_at lt_of_at)
open Go.Proofs.YtldllbmbcnipoabGreatDoor.Bk (Tx Bk kindOf)
open Go.Proofs.YtldllbmbcnipoabGreatDoor.Kd (E0)
set_option linter.unusedVariables false
end Go.Proofs.YtldllbmbcnipoabGreatDoor.Pa

namespace Go.Proofs.YtldllbmbcnipoabGreatDoor.Pa
open Go.RowKit
open Go.Proofs.YtldllbmbcnipoabGreatDoor.Tk (S S_of S_list S_size S_toList S_app ret_int eq8 ne8 at_data len_data Rd)
open Go.Proofs.YtldllbmbcnipoabGreatDoor.Sp (ret_bool OkAns)
open Go.Proofs.YtldllbmbcnipoabGreatDoor.Bt (TrB KB fitAll ttAll rgB dp)
open Go.Proofs.YtldllbmbcnipoabGreatDoor.Cm (Keep)
open Go.Proofs.YtldllbmbcnipoabGreatDoor.Bk (Tx Bk kindOf)
open Go.Proofs.YtldllbmbcnipoabGreatDoor.Kd (E0)
set_option linter.unusedVariables false
def RightC : Prop := ∀ (v : Value) (l : List Bk) (w : World), TrB w v l → fitAll 1048576 l → ttAll l ≤ 9000000 → Calls Tryz.prog 19 #[v] w (OkAns w (rgB l))
end Go.Proofs.YtldllbmbcnipoabGreatDoor.Pa

namespace Go.Proofs.YtldllbmbcnipoabGreatDoor.Pa
open Go.RowKit
open Go.Proofs.YtldllbmbcnipoabGreatDoor.Bt (rightBP_any rgW_rgB fitAll_wide)
set_option linter.unusedVariables false
theorem rightC : RightC := fun v l w ht hf htt => by
  have h := rightBP_any l v w (fitAll_wide (by decide) l hf) ht
  rwa [rgW_rgB hf htt] at h
end Go.Proofs.YtldllbmbcnipoabGreatDoor.Pa
