import Derived.Test.YthpnbialpkkpgaaGreatDoorPkAC
set_option linter.unusedVariables false
namespace Go.Proofs.YthpnbialpkkpgaaGreatDoor
namespace Bt
open Go.RowKit
open Tk (S S_of S_list S_size S_toList ret_int Rd)
open Cm (calls_at)
open Sp (Sp Tr ret_bool OkAns)
open Bk (Bk)
mutual
theorem sp1W {R R':Nat} (h:R≤R'):∀x:Sp,Sp.fitOne R x→Sp.fitOne R' x
 |.mk k s l,hf=>by
  unfold Sp.fitOne at hf ⊢
  exact⟨hf.1,Nat.le_trans hf.2.1 h,spW h l hf.2.2⟩
theorem spW {R R':Nat} (h:R≤R'):∀l:List Sp,Sp.fitAll R l→Sp.fitAll R' l
 |[],_=>by unfold Sp.fitAll;trivial
 |x::r,hf=>by
  unfold Sp.fitAll at hf ⊢
  exact⟨sp1W h x hf.1,spW h r hf.2⟩
end
mutual
theorem fitOne_wide {R R':Nat} (h:R≤R'):∀x:Bk,fitOne R x→fitOne R' x
 |.mk k lv i ls ss l,hf=>by
  rw[fitOne]at hf ⊢
  exact⟨hf.1,hf.2.1,Nat.le_trans hf.2.2.1 h,fun s hs=>Nat.le_trans (hf.2.2.2.1 s hs) h,spW h ss hf.2.2.2.2.1,fitAll_wide h l hf.2.2.2.2.2⟩
theorem fitAll_wide {R R':Nat} (h:R≤R'):∀l:List Bk,fitAll R l→fitAll R' l
 |[],_=>by unfold fitAll;trivial
 |x::r,hf=>by
  unfold fitAll at hf ⊢
  exact⟨fitOne_wide h x hf.1,fitAll_wide h r hf.2⟩
end
theorem ln_mem:∀{ls:List (List UInt8)} {s:List UInt8},s∈ls→s.length≤lnTot ls
 |[],_,h=>by cases h
 |x::r,s,h=>by
  rw[lnTot]
  rcases List.mem_cons.1 h with rfl |h
  ·omega
  ·have:=ln_mem h;omega
theorem nilB (w:World):TrB w (.slice none 0 0) []:=⟨none,0,rfl,⟨Nat.le_refl _,by omega⟩,Or.inl rfl⟩
theorem nilS (w:World):Tr w (.slice none 0 0) []:=⟨none,0,rfl,⟨Nat.le_refl _,by omega⟩,Or.inl rfl⟩
theorem nilR (w:World):Rd w (.slice none 0 0) []:=⟨none,0,rfl,Nat.le_refl _,Or.inl rfl⟩
end Bt
end Go.Proofs.YthpnbialpkkpgaaGreatDoor
