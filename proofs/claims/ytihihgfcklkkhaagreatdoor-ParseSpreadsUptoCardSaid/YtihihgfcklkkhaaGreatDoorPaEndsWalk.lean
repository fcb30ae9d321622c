import Derived.Test.YtihihgfcklkkhaaGreatDoorPkAB
import Derived.Test.YtihihgfcklkkhaaGreatDoorPkAE
namespace Go.Proofs.YtihihgfcklkkhaaGreatDoor.Pa
open Go.RowKit
open Go.Proofs.YtihihgfcklkkhaaGreatDoor.Tk (S S_of S_list S_size S_toList S_app ret_int eq8 ne8 at_data len_data Rd)
open Go.Proofs.YtihihgfcklkkhaaGreatDoor.Sp (ret_bool OkAns V Wt)
open Go.Proofs.YtihihgfcklkkhaaGreatDoor.Bt (TrB smB smB_iff rsameB_any szAll)
open Go.Proofs.YtihihgfcklkkhaaGreatDoor.Bk (Tx Bk kindOf)
open Go.Proofs.YtihihgfcklkkhaaGreatDoor.Ln (jn)
open Go.Proofs.YtihihgfcklkkhaaGreatDoor.Utf (chk)
set_option linter.unusedVariables false
theorem lnB_lt {s:Tx} (h:lnB s=true):Lt s:=by
 unfold lnB at h
 rw [Bool.and_eq_true,decide_eq_true_iff,decide_eq_true_iff] at h
 have hz:=(Utf.chk_zero_iff (S s)).1 h.1
 have h0:(0:UInt8)∉s:=by
   have:=hz.2.1
   unfold Utf.zeroB at this
   have h1:=of_decide_eq_false this
   rwa [S_list] at h1
 exact ⟨⟨hz.2.2,h0,Ln.mx_zero 13 s (by omega)⟩,Ln.mx_zero 10 s (by omega)⟩
theorem fits_lt {l:List Tx} {m:Nat} (h:fitsB l m=true):(∀ s∈l,Lt s)∧tot l≤m:=by
 unfold fitsB at h
 rw [Bool.and_eq_true,decide_eq_true_iff,List.all_eq_true] at h
 exact ⟨fun s hs=>lnB_lt (h.1 s hs),h.2⟩
end Go.Proofs.YtihihgfcklkkhaaGreatDoor.Pa
