import Derived.Test.YtihihgfcklkkhaaGreatDoorPkD
import Derived.Test.YtihihgfcklkkhaaGreatDoorPkC
import Derived.Deep.RegionHeld3
import Derived.Lib.QuietBelow
import Derived.BigQuiet
import Derived.Deep.Cut
import Derived.Deep.CutRange
import Derived.Deep.CutBlock
import Derived.Test.YtihihgfcklkkhaaGreatDoorPkB
namespace Go.Proofs.YtihihgfcklkkhaaGreatDoor.Sp
open Go.RowKit
open Go.Proofs.YtihihgfcklkkhaaGreatDoor.Tk (S S_of S_list S_size S_toList S_app ret_int eq8 ne8 at_data len_data)
open Go.Proofs.YtihihgfcklkkhaaGreatDoor.Cm (calls_at Keep alloc_new alloc_at cell_at lt_of_at)
open Go.Proofs.YtihihgfcklkkhaaGreatDoor.Utf (chk)
set_option linter.unusedVariables false
def ckB (s:List UInt8):Bool:=decide (chk (S s)=0)
def OkAns (w:World) (b:Bool) (e:Ending) (w':World):Prop:=e = .returned (.bool b)∧Below w.heap.size w w'
end Go.Proofs.YtihihgfcklkkhaaGreatDoor.Sp
namespace Go.Proofs.YtihihgfcklkkhaaGreatDoor.Sp
open Go.RowKit
open Go.Proofs.YtihihgfcklkkhaaGreatDoor.Tk (S S_of S_list S_size S_toList S_app ret_int eq8 ne8 at_data len_data)
open Go.Proofs.YtihihgfcklkkhaaGreatDoor.Cm (calls_at Keep alloc_new alloc_at cell_at lt_of_at)
set_option linter.unusedVariables false
end Go.Proofs.YtihihgfcklkkhaaGreatDoor.Sp
namespace Go.Proofs.YtihihgfcklkkhaaGreatDoor.Sp
open Go.RowKit
open Go.Proofs.YtihihgfcklkkhaaGreatDoor.Tk (S S_of S_list S_size S_toList S_app ret_int eq8 ne8 at_data len_data)
open Go.Proofs.YtihihgfcklkkhaaGreatDoor.Cm (calls_at Keep alloc_new alloc_at cell_at lt_of_at)
set_option linter.unusedVariables false
def hdB (x:Sp):Bool:=!decide (x.kind=1) || !edB (x.s.headD 0)
end Go.Proofs.YtihihgfcklkkhaaGreatDoor.Sp
namespace Go.Proofs.YtihihgfcklkkhaaGreatDoor.Sp
open Go.RowKit
open Go.Proofs.YtihihgfcklkkhaaGreatDoor.Tk (S S_of S_list S_size S_toList S_app ret_int)
open Go.Proofs.YtihihgfcklkkhaaGreatDoor.Cm (calls_at)
set_option linter.unusedVariables false
mutual
def smOne:Sp→Sp→Bool
 | .mk k s l,.mk q t m=>decide (k=q) && decide (s=t) && smAll l m
def smAll:List Sp→List Sp→Bool
 | [],[]=>true
 | x :: r,y :: t=>smOne x y && smAll r t
 | _,_=>false
end
theorem smOne_eq (x y:Sp):smOne x y=(decide (x.kind=y.kind) && decide (x.s=y.s) && smAll x.kids y.kids):=by
 obtain ⟨k,s,l⟩:=x
 obtain ⟨q,t,m⟩:=y
 unfold smOne
 rfl
theorem smAll_cons (x y:Sp) (r t:List Sp):smAll (x :: r) (y :: t)=(smOne x y && smAll r t):=by rw [smAll]
mutual
theorem smOne_iff:∀ x y:Sp,smOne x y=true↔x=y
 | .mk k s l,.mk q t m=>by
   unfold smOne
   rw [Bool.and_eq_true,Bool.and_eq_true,decide_eq_true_iff,decide_eq_true_iff,smAll_iff l m]
   simp [and_assoc]
theorem smAll_iff:∀ a b:List Sp,smAll a b=true↔a=b
 | [],[]=>by simp [smAll]
 | [],_ :: _=>by simp [smAll]
 | _ :: _,[]=>by simp [smAll]
 | x :: r,y :: t=>by
   rw [smAll_cons,Bool.and_eq_true,smOne_iff x y,smAll_iff r t]
   simp
end
theorem smAll_len:∀ a b:List Sp,a.length≠b.length→smAll a b=false
 | [],[],h=>absurd rfl h
 | [],_ :: _,_=>by simp [smAll]
 | _ :: _,[],_=>by simp [smAll]
 | x :: r,y :: t,h=>by
   rw [smAll_cons,smAll_len r t (by simpa using h),Bool.and_false]
theorem Tr.drewN {w:World} {v:Value} {l:List Sp} (h:Tr w v l) (n:Nat):Tr (w.drewN n) v l:=h.below (below_drewN (Below.refl _ _) n)
set_option maxHeartbeats 6400000 in
set_option maxRecDepth 100000 in
theorem rsame_any (m:Nat):∀ (a b:List Sp) (va vb:Value) (w:World),totAll a≤m→Tr w va a→Tr w vb b →
   Calls Tryz.prog 31 #[va,vb] w fun e w'=>e = .returned (.bool (smAll a b))∧∃ n,w'=w.drewN n:=by
 induction m using Nat.strongRecOn with
 | ind m ih =>
   intro a b va vb w hm ta tb
   obtain ⟨ao,ca,rfl⟩:=ta.len
   obtain ⟨bo,cb,rfl⟩:=tb.len
   have FA:=Lib.hid (fun n=>(ta.drewN n).at)
   have FB:=Lib.hid (fun n=>(tb.drewN n).at)
   have hla:=ta.short
   have hlb:=tb.short
   by_cases hl:a.length=b.length
   · have e0 : ((a.length:Int) != (b.length:Int))=false:=by simp [hl]
     have HIH:Hid (∀ k (hk:k < a.length) (l2:List Sp) (v1 v2:Value) (w':World),Tr w' v1 a[k].kids→Tr w' v2 l2→Calls Tryz.prog 31 #[v1,v2] w' fun e w''=>e = .returned (.bool (smAll a[k].kids l2))∧∃ n,w''=w'.drewN n):=Lib.hid (fun k hk l2 v1 v2 w' t1 t2 =>
       ih (totAll a[k].kids) (Nat.lt_of_lt_of_le (totAll_kids (List.getElem_mem hk)) hm) a[k].kids l2 v1 v2 w' (Nat.le_refl _) t1 t2)
     have H0:Hid (smAll a b=smAll (a.drop 0) (b.drop 0)):=Lib.hid (by rw [List.drop_zero,List.drop_zero])
     obtain ⟨X,hX⟩:∃ X,smAll a b=X:=⟨_,rfl⟩
     rw [hX] at H0
     rw [hX]
     clear ih ta tb hm hX
     go_enter Tryz.func31,Tryz.ntmps31
     go_wp2_with fail
     go_loopw [13] (fun i wr=>∃ k n:Nat,k≤a.length∧i = .int .i64 k∧wr=w.drewN n∧Hid (X=smAll (a.drop k) (b.drop k))) (fun i _=>a.length - (intOf i).toNat)
     case atStart=>exact ⟨0,0,Nat.zero_le _,rfl,rfl,H0⟩
     case round =>
       clear H0
       obtain ⟨k,n,hk,rfl,hwr,HN⟩:=hrel
       have HW:=Lib.hid hwr
       by_cases hlt:k < a.length
       · have hlt2:k < b.length:=by omega
         have hnx:=HN.out
         rw [drop_cons a k hlt,drop_cons b k hlt2,smAll_cons,smOne_eq] at hnx
         have hi1:(k:Int) < (a.length:Int):=by omega
         have hi2:(k:Int) < (b.length:Int):=by omega
         obtain ⟨b1,o1,ak1,ck1,rfl,hb1,hC1⟩:=FA.out n k hlt
         obtain ⟨b2,o2,ak2,ck2,rfl,hb2,hC2⟩:=FB.out n k hlt2
         rw [← hwr] at hC1 hC2
         have c0:=hC1.kind
         have c1:=hC1.s
         have c2:=hC1.kids
         have d0:=hC2.kind
         have d1:=hC2.s
         have d2:=hC2.kids
         have HC:=Lib.hid (fun q=>HIH.out k hlt b[k].kids _ _ (wr.drewN q) (hC1.tr.drewN q) (hC2.tr.drewN q))
         have HQ:=Lib.hid hnx
         have hs1:=S_toList a[k].s
         have hs2:=S_toList b[k].s
         clear hnx HN hC1 hC2 hwr
         generalize smAll a[k].kids b[k].kids=y at *
         generalize a[k].kids.length=kn1 at *
         generalize b[k].kids.length=kn2 at *
         generalize a[k].kind=z1 at *
         generalize b[k].kind=z2 at *
         generalize a[k].s=s1 at *
         generalize b[k].s=s2 at *
         by_cases hz:z1=z2
         · have e1:(z1 != z2)=false:=by simp [hz]
           by_cases hs:s1=s2
           · have e2:((S s1).toList == (S s2).toList)=true:=by rw [hs];simp
             have e2':((S s1).toList != (S s2).toList)=false:=by rw [hs];simp
             have HQ2:Hid (X=(y && smAll (a.drop (k+1)) (b.drop (k+1)))):=Lib.hid (by rw [HQ.out,decide_eq_true hz,decide_eq_true hs];simp)
             clear HQ hz hs hs1 hs2
             generalize S s1=t1 at *
             generalize S s2=t2 at *
             go_wp2_with fail
             go_quiet (first | (go_at_call 31;refine Calls.quiet_of (calls_at (args:=#[.slice ak1 kn1 ck1,.slice ak2 kn2 ck2]) rfl (HC.out _) (fun _ _ h=>h))))
             cases y with
             | true =>
               have HR:Hid (X=smAll (a.drop (k+1)) (b.drop (k+1))):=Lib.hid (by rw [HQ2.out];rfl)
               go_wp2_with fail
               go_roundw
               case rel=>exact ⟨k+1,n+nq,by omega,by go_num,by rw [HW.out,World.drewN_drewN],HR⟩
               case measure=>simp [intOf] <;> omega
             | false =>
               have HR:Hid (X=false):=Lib.hid (by rw [HQ2.out];rfl)
               go_wp2_with fail
               go_ret
               exact ⟨ret_bool HR.out.symm,n+nq,by rw [HW.out,World.drewN_drewN]⟩
           · have e2:((S s1).toList == (S s2).toList)=false:=by rw [hs1,hs2];simpa using hs
             have e2':((S s1).toList != (S s2).toList)=true:=by rw [hs1,hs2];simpa using hs
             have HR:Hid (X=false):=Lib.hid (by rw [HQ.out,decide_eq_false hs];simp)
             clear HQ hz hs HC hs1 hs2
             generalize S s1=t1 at *
             generalize S s2=t2 at *
             go_wp2_with fail
             go_quiet (fail)
             go_wp2_with fail
             go_ret
             exact ⟨ret_bool HR.out.symm,n+nq,by rw [HW.out,World.drewN_drewN]⟩
         · have e1:(z1 != z2)=true:=by rw [bne_iff_ne];exact hz
           have HR:Hid (X=false):=Lib.hid (by rw [HQ.out,decide_eq_false hz];simp)
           clear HQ hz HC hs1 hs2
           generalize S s1=t1 at *
           generalize S s2=t2 at *
           go_wp2_with fail
           go_quiet (fail)
           go_wp2_with fail
           go_ret
           exact ⟨ret_bool HR.out.symm,n+nq,by rw [HW.out,World.drewN_drewN]⟩
       · obtain rfl:k=a.length:=by omega
         have hnx:=HN.out
         rw [List.drop_length,List.drop_eq_nil_of_le (by omega)] at hnx
         have HR:Hid (X=true):=Lib.hid (by rw [hnx];unfold smAll;rfl)
         clear hnx HN hlt hwr
         go_wp2_with fail
         go_ret
         exact ⟨ret_bool HR.out.symm,n,HW.out⟩
   · have e0:((a.length:Int) != (b.length:Int))=true:=by simp;omega
     have HR:=Lib.hid (smAll_len a b hl)
     clear ih ta tb hm hl FA FB
     go_enter Tryz.func31,Tryz.ntmps31
     go_wp2_with fail
     go_ret
     exact ⟨ret_bool HR.out.symm,0,rfl⟩
end Go.Proofs.YtihihgfcklkkhaaGreatDoor.Sp
namespace Go.Proofs.YtihihgfcklkkhaaGreatDoor.Sp
open Go.RowKit
open Go.Proofs.YtihihgfcklkkhaaGreatDoor.Tk (S S_of S_list S_size S_toList S_app ret_int)
open Go.Proofs.YtihihgfcklkkhaaGreatDoor.Cm (calls_at)
set_option linter.unusedVariables false
theorem tr_nil (w:World):Tr w (.slice none 0 0) []:=⟨none,0,rfl,⟨Nat.le_refl _,by omega⟩,Or.inl rfl⟩
end Go.Proofs.YtihihgfcklkkhaaGreatDoor.Sp
