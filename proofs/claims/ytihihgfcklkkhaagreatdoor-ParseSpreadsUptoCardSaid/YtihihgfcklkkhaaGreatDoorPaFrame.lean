import Derived.Test.YtihihgfcklkkhaaGreatDoorPkAQ
import Derived.Test.YtihihgfcklkkhaaGreatDoorPkAD
namespace Go.Proofs.YtihihgfcklkkhaaGreatDoor.Pa
open Go.ChangeShapes Go.WideShapes Go.ChangeAt Go.RowKit
open Go.Proofs.YtihihgfcklkkhaaGreatDoor.Tk (Rd)
open Go.Proofs.YtihihgfcklkkhaaGreatDoor.Bt (rd_fuel Bulk lnTot)
open Go.Proofs.YtihihgfcklkkhaaGreatDoor.Bk (Tx)
set_option linter.unusedVariables false
theorem lnTot_tot:∀ l:List Tx,tot l≤lnTot l
 | []=>Nat.zero_le _
 | s :: l=>by have:=lnTot_tot l;rw [tot,lnTot];omega
theorem strings_of {H:Type} {enc:TypeId × Value→H} {W:World} {a:Option Addr} {len cap:Nat} {d:DataW H} {ps:List MemPlace}
   (h:DataW.Trod enc Tryz.prog W 0 (fun _=>true) true 32 (.slice a len cap) d ps) :
   ∃ xs:List Tx,Rd W (.slice a len cap) xs∧xs.length≤9223372036854775807∧∀ (f:DataW H→Nat) (fa:List (DataW H)→Nat),Bulk f fa→tot xs≤f d:=by
 obtain ⟨fuel,hf⟩:=h
 obtain ⟨xs,h1,h2,_,h4⟩:=rd_fuel fuel (.slice a len cap) (d,ps) (by simpa [Value.cells] using hf)
 exact ⟨xs,h1,h2,fun f fa B=>Nat.le_trans (lnTot_tot xs) (h4 f fa B)⟩
end Go.Proofs.YtihihgfcklkkhaaGreatDoor.Pa
