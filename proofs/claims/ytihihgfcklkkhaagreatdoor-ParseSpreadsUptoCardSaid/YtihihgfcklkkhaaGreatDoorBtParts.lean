import Derived.Test.YtihihgfcklkkhaaGreatDoorPkAD
import Derived.Test.YtihihgfcklkkhaaGreatDoorPkAC
namespace Go.Proofs.YtihihgfcklkkhaaGreatDoor.Bt
open Go.RowKit
open Go.Proofs.YtihihgfcklkkhaaGreatDoor.Tk (S Rd)
open Go.Proofs.YtihihgfcklkkhaaGreatDoor.Sp (Sp Tr)
open Go.Proofs.YtihihgfcklkkhaaGreatDoor.Bk (Bk)
set_option linter.unusedVariables false
theorem sliceB {w:World} {b o n c:Nat} {l:List Bk} (h:TrB w (.slice (some ⟨b,o,none⟩) n c) l) (k:Nat) (hk:k < l.length):TrB w (.slice (some ⟨b,o+k*6,none⟩) 1 (c - k)) [l[k]]∧l.length≤c:=by
 obtain ⟨ao,cap,hv,hc,hx⟩:=h
 simp only [Value.slice.injEq] at hv
 obtain ⟨rfl,rfl,rfl⟩:=hv
 rcases hx with hx | ⟨b',o',hao,hb,hx⟩
 · subst hx;exact absurd hk (Nat.not_lt_zero _)
 · simp only [Option.some.injEq,Addr.mk.injEq,and_true] at hao
   obtain ⟨rfl,rfl⟩:=hao
   refine ⟨⟨_,c - k,rfl,⟨by simp only [List.length_cons,List.length_nil];omega,by omega⟩,Or.inr ⟨b,o+k*6,rfl,hb,?_⟩⟩,hc.1⟩
   unfold trAll
   exact ⟨trAll_at l o hx k hk,by unfold trAll;trivial⟩
end Go.Proofs.YtihihgfcklkkhaaGreatDoor.Bt
