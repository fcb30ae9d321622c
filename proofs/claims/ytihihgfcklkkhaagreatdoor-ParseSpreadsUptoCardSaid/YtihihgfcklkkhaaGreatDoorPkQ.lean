import Derived.Test.YtihihgfcklkkhaaGreatDoorPkC
import Derived.Test.YtihihgfcklkkhaaGreatDoorPkD
import Derived.Test.YtihihgfcklkkhaaGreatDoorPkG
import Derived.Test.YtihihgfcklkkhaaGreatDoorPkE
namespace Go.Proofs.YtihihgfcklkkhaaGreatDoor.Utf
open Go.RowKit
end Go.Proofs.YtihihgfcklkkhaaGreatDoor.Utf
namespace Go.Proofs.YtihihgfcklkkhaaGreatDoor.Utf
open Go.RowKit
set_option linter.unusedVariables false
theorem chk_zero_iff (t:ByteArray):chk t=0↔¬ 1048576 < (t.size:Int)∧zeroB t=false∧goesAt t 0=true:=by
 unfold chk
 split
 · rename_i h;exact ⟨fun h1=>by omega,fun h1=>absurd h h1.1⟩
 · rename_i h
   split
   · rename_i h2;exact ⟨fun h1=>by omega,fun h1=>by rw [h2] at h1;cases h1.2.1⟩
   · rename_i h2
     split
     · rename_i h3;exact ⟨fun _=>⟨h,by simpa using h2,h3⟩,fun _=>rfl⟩
     · rename_i h3;exact ⟨fun h1=>by omega,fun h1=>absurd h1.2.2 h3⟩
end Go.Proofs.YtihihgfcklkkhaaGreatDoor.Utf
namespace Go.Proofs.YtihihgfcklkkhaaGreatDoor.Sp
open Go.Proofs.YtihihgfcklkkhaaGreatDoor.Tk (S S_of S_list S_size S_toList S_app at_data len_data)
open Go.Proofs.YtihihgfcklkkhaaGreatDoor.Utf (chk goesAt goesAt_end nxt nxt_le bt bt_eq ln conts chk_zero_iff zeroB)
set_option linter.unusedVariables false
def V (l:List UInt8):Prop:=goesAt (S l) 0=true
end Go.Proofs.YtihihgfcklkkhaaGreatDoor.Sp
namespace Go.Proofs.YtihihgfcklkkhaaGreatDoor.Sp
open Go.Proofs.YtihihgfcklkkhaaGreatDoor.Tk (S S_of S_list S_size S_toList S_app cls at_data len_data)
set_option linter.unusedVariables false
def Wt (l:List UInt8):Prop:=V l∧(0:UInt8)∉l∧(13:UInt8)∉l
end Go.Proofs.YtihihgfcklkkhaaGreatDoor.Sp
namespace Go.Proofs.YtihihgfcklkkhaaGreatDoor.Sp
open Go.RowKit
open Go.Proofs.YtihihgfcklkkhaaGreatDoor.Tk (S S_of S_list S_size S_toList S_app ret_int eq8 ne8 at_data len_data)
set_option linter.unusedVariables false
end Go.Proofs.YtihihgfcklkkhaaGreatDoor.Sp
