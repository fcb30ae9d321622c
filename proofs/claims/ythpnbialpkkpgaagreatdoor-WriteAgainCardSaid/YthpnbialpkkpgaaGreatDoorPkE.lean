import Derived.Test.YthpnbialpkkpgaaGreatDoorPkD
import Derived.Test.YthpnbialpkkpgaaGreatDoorPkC
import Derived.Deep.RegionHeld3
import Derived.Lib.QuietBelow
import Derived.BigQuiet
import Derived.Deep.Cut
import Derived.Deep.CutRange
import Derived.Deep.CutBlock
import Derived.Test.YthpnbialpkkpgaaGreatDoorPkB
set_option linter.unusedVariables false
namespace Go.Proofs.YthpnbialpkkpgaaGreatDoor
namespace Sp
open Go.RowKit
open Tk (S S_of S_list S_size S_toList S_app ret_int eq8 ne8 at_data len_data)
open Cm (calls_at Keep alloc_new alloc_at cell_at lt_of_at)
open Utf (chk)
def ckB (s:List UInt8):Bool:=decide (chk (S s)=0)
mutual
def okOne (e k:Bool):Sp→Bool
 |.mk q s l=>ckB s&&(if q=1 then(l.isEmpty&&ttB s)else if q=2 then(l.isEmpty&&(!s.isEmpty&&(!hsB 10 s&&!hsB 13 s)))
  else if q=3 then(s.isEmpty&&(!l.isEmpty&&(!e&&okAll true k 0 l)))else if q=4 then(dsB s&&(!l.isEmpty&&(!k&&okAll e true 0 l)))else false)
def okAll (e k:Bool) (p:Int):List Sp→Bool
 |[]=>true
 |x::r=>okOne e k x&&!(decide (x.kind=p)&&decide (x.kind≤2))&&okAll e k x.kind r
end
theorem okAll_cons (e k:Bool) (p:Int) (x:Sp) (r:List Sp):okAll e k p (x::r)=(okOne e k x&&!(decide (x.kind=p)&&decide (x.kind≤2))&&okAll e k x.kind r):=by rw[okAll]
theorem okOne_eq (e k:Bool) (x:Sp):okOne e k x=(ckB x.s&&(if x.kind=1 then(x.kids.isEmpty&&ttB x.s)else if x.kind=2 then(x.kids.isEmpty&&(!x.s.isEmpty&&(!hsB 10 x.s&&!hsB 13 x.s)))
  else if x.kind=3 then(x.s.isEmpty&&(!x.kids.isEmpty&&(!e&&okAll true k 0 x.kids)))else if x.kind=4 then(dsB x.s&&(!x.kids.isEmpty&&(!k&&okAll e true 0 x.kids)))else false)):=by
 obtain⟨q,s,l⟩:=x
 rw[okOne]
 rfl
theorem okOne_kind {e k:Bool} {x:Sp} (h:okOne e k x=true):1≤x.kind∧x.kind≤4:=by
 rw[okOne_eq,Bool.and_eq_true]at h
 have h2:=h.2
 split at h2
 ·omega
 ·split at h2
  ·omega
  ·split at h2
   ·omega
   ·split at h2
    ·omega
    ·simp at h2
theorem isEmpty_len {α:Type} (l:List α):((l.length:Int)==0)=l.isEmpty:=by
 cases l with
 |nil=>rfl
 |cons a r=>
  rw[List.isEmpty_cons,beq_eq_false_iff_ne]
  simp
  omega
theorem gt_len {α:Type} (l:List α):decide ((l.length:Int)>0)= !l.isEmpty:=by
 cases l with
 |nil=>rfl
 |cons a r=>
  rw[List.isEmpty_cons]
  exact decide_eq_true (by simp)
def OkAns (w:World) (b:Bool) (e:Ending) (w':World):Prop:=e=.returned (.bool b)∧Below w.heap.size w w'
end Sp
namespace Sp
open Go.RowKit
open Tk (S S_of S_list S_size S_toList S_app ret_int eq8 ne8 at_data len_data)
open Cm (calls_at Keep alloc_new alloc_at cell_at lt_of_at)
def pkAt (l:List Sp):Nat→Int
 |0=>0
 |j+1=>(l[j]?.map Sp.kind).getD 0
theorem pkAt_next (l:List Sp) (j:Nat) (h:j<l.length):pkAt l (j+1)=l[j].kind:=by
 show(l[j]?.map Sp.kind).getD 0=_
 rw[List.getElem?_eq_getElem h]
 rfl
end Sp
namespace Sp
open Go.RowKit
open Tk (S S_of S_list S_size S_toList S_app ret_int eq8 ne8 at_data len_data)
open Cm (calls_at Keep alloc_new alloc_at cell_at lt_of_at)
def hdB (x:Sp):Bool:=!decide (x.kind=1)||!edB (x.s.headD 0)
def ltB (x:Sp):Bool:=!decide (x.kind=1)||!edB (x.s.getLastD 0)
def endB (l:List Sp):Bool:=(l.head?.elim true hdB)&&(l.getLast?.elim true ltB)
def rtB (l:List Sp):Bool:=okAll false false 0 l&&endB l
theorem okAll_mem {e k:Bool}:∀{l:List Sp} {p:Int},okAll e k p l=true→∀x∈l,okOne e k x=true
 |[],_,_,x,hx=>by cases hx
 |y::r,p,h,x,hx=>by
  rw[okAll_cons,Bool.and_eq_true,Bool.and_eq_true]at h
  rcases List.mem_cons.1 hx with rfl |hx
  ·exact h.1.1
  ·exact okAll_mem h.2 x hx
theorem okOne_text {e k:Bool} {x:Sp} (h:okOne e k x=true) (h1:x.kind=1):x.s≠[]:=by
 rw[okOne_eq,if_pos h1,Bool.and_eq_true,Bool.and_eq_true]at h
 have:=h.2.2
 unfold ttB at this
 rw[Bool.and_eq_true,Bool.and_eq_true]at this
 have:=this.2.1
 intro e
 rw[e]at this
 simp at this
def fstB (t:ByteArray):UInt8:=t.data.toList.headD 0
def lstB (t:ByteArray):UInt8:=t.data.toList.getLastD 0
theorem fstB_eq (t:ByteArray) (h:0<t.size):fstB t=t[0]:=by
 have:=at_data t 0 h
 rw[List.drop_zero]at this
 have h2:t.data.toList.head? = some t[0]:=congrArg List.head? this
 unfold fstB
 rw[List.headD_eq_head?_getD,h2]
 rfl
theorem lstB_eq (t:ByteArray) (h:t.size-1<t.size):lstB t=t[t.size-1]:=by
 have h1:=at_data t (t.size-1) h
 have hl:=len_data t
 have h2:(t.data.toList.drop (t.size-1)).head? = some t[t.size-1]:=congrArg List.head? h1
 unfold lstB
 rw[List.getLastD_eq_getLast?,List.getLast?_eq_getElem?,←List.head?_drop,hl,h2]
 rfl
theorem fst_S (s:List UInt8):fstB (S s)=s.headD 0:=by unfold fstB;rw[S_list]
theorem lst_S (s:List UInt8):lstB (S s)=s.getLastD 0:=by unfold lstB;rw[S_list]
end Sp
namespace Sp
open Go.RowKit
open Tk (S S_of S_list S_size S_toList S_app ret_int)
open Cm (calls_at)
mutual
def smOne:Sp→Sp→Bool
 |.mk k s l,.mk q t m=>decide (k=q)&&decide (s=t)&&smAll l m
def smAll:List Sp→List Sp→Bool
 |[],[]=>true
 |x::r,y::t=>smOne x y&&smAll r t
 |_,_=>false
end
theorem smOne_eq (x y:Sp):smOne x y=(decide (x.kind=y.kind)&&decide (x.s=y.s)&&smAll x.kids y.kids):=by
 obtain⟨k,s,l⟩:=x
 obtain⟨q,t,m⟩:=y
 unfold smOne
 rfl
theorem smAll_cons (x y:Sp) (r t:List Sp):smAll (x::r) (y::t)=(smOne x y&&smAll r t):=by rw[smAll]
mutual
theorem smOne_iff:∀x y:Sp,smOne x y=true↔x=y
 |.mk k s l,.mk q t m=>by
  unfold smOne
  rw[Bool.and_eq_true,Bool.and_eq_true,decide_eq_true_iff,decide_eq_true_iff,smAll_iff l m]
  simp[and_assoc]
theorem smAll_iff:∀a b:List Sp,smAll a b=true↔a=b
 |[],[]=>by simp[smAll]
 |[],_::_=>by simp[smAll]
 |_::_,[]=>by simp[smAll]
 |x::r,y::t=>by
  rw[smAll_cons,Bool.and_eq_true,smOne_iff x y,smAll_iff r t]
  simp
end
theorem smAll_len:∀a b:List Sp,a.length≠b.length→smAll a b=false
 |[],[],h=>absurd rfl h
 |[],_::_,_=>by simp[smAll]
 |_::_,[],_=>by simp[smAll]
 |x::r,y::t,h=>by
  rw[smAll_cons,smAll_len r t (by simpa using h),Bool.and_false]
theorem Tr.drewN {w:World} {v:Value} {l:List Sp} (h:Tr w v l) (n:Nat):Tr (w.drewN n) v l:=h.below (below_drewN (Below.refl _ _) n)
set_option maxHeartbeats 6400000 in
set_option maxRecDepth 100000 in
theorem rsame_any (m:Nat):∀ (a b:List Sp) (va vb:Value) (w:World),totAll a≤m→Tr w va a→Tr w vb b →
   Calls Tryz.prog 39 #[va,vb] w fun e w'=>e = .returned (.bool (smAll a b))∧∃ n,w'=w.drewN n:=by
 induction m using Nat.strongRecOn with
 | ind m ih =>
   intro a b va vb w hm ta tb
   obtain ⟨ao,ca,rfl⟩:=ta.len
   obtain ⟨bo,cb,rfl⟩:=tb.len
   have FA:=Lib.hid (fun n=>(ta.drewN n).at)
   have FB:=Lib.hid (fun n=>(tb.drewN n).at)
   have hla:=ta.short
   have hlb:=tb.short
   by_cases hl:a.length=b.length
   · have e0 : ((a.length:Int) != (b.length:Int))=false:=by simp [hl]
     have HIH:Hid (∀ k (hk:k < a.length) (l2:List Sp) (v1 v2:Value) (w':World),Tr w' v1 a[k].kids→Tr w' v2 l2→Calls Tryz.prog 39 #[v1,v2] w' fun e w''=>e = .returned (.bool (smAll a[k].kids l2))∧∃ n,w''=w'.drewN n):=Lib.hid (fun k hk l2 v1 v2 w' t1 t2 =>
       ih (totAll a[k].kids) (Nat.lt_of_lt_of_le (totAll_kids (List.getElem_mem hk)) hm) a[k].kids l2 v1 v2 w' (Nat.le_refl _) t1 t2)
     have H0:Hid (smAll a b=smAll (a.drop 0) (b.drop 0)):=Lib.hid (by rw [List.drop_zero,List.drop_zero])
     obtain ⟨X,hX⟩:∃ X,smAll a b=X:=⟨_,rfl⟩
     rw [hX] at H0
     rw [hX]
     clear ih ta tb hm hX
     go_enter Tryz.func39,Tryz.ntmps39
     go_wp2_with fail
     go_loopw [13] (fun i wr=>∃ k n:Nat,k≤a.length∧i = .int .i64 k∧wr=w.drewN n∧Hid (X=smAll (a.drop k) (b.drop k))) (fun i _=>a.length - (intOf i).toNat)
     case atStart=>exact ⟨0,0,Nat.zero_le _,rfl,rfl,H0⟩
     case round =>
       clear H0
       obtain ⟨k,n,hk,rfl,hwr,HN⟩:=hrel
       have HW:=Lib.hid hwr
       by_cases hlt:k < a.length
       · have hlt2:k < b.length:=by omega
         have hnx:=HN.out
         rw [drop_cons a k hlt,drop_cons b k hlt2,smAll_cons,smOne_eq] at hnx
         have hi1:(k:Int) < (a.length:Int):=by omega
         have hi2:(k:Int) < (b.length:Int):=by omega
         obtain ⟨b1,o1,ak1,ck1,rfl,hb1,hC1⟩:=FA.out n k hlt
         obtain ⟨b2,o2,ak2,ck2,rfl,hb2,hC2⟩:=FB.out n k hlt2
         rw [← hwr] at hC1 hC2
         have c0:=hC1.kind
         have c1:=hC1.s
         have c2:=hC1.kids
         have d0:=hC2.kind
         have d1:=hC2.s
         have d2:=hC2.kids
         have HC:=Lib.hid (fun q=>HIH.out k hlt b[k].kids _ _ (wr.drewN q) (hC1.tr.drewN q) (hC2.tr.drewN q))
         have HQ:=Lib.hid hnx
         have hs1:=S_toList a[k].s
         have hs2:=S_toList b[k].s
         clear hnx HN hC1 hC2 hwr
         generalize smAll a[k].kids b[k].kids=y at *
         generalize a[k].kids.length=kn1 at *
         generalize b[k].kids.length=kn2 at *
         generalize a[k].kind=z1 at *
         generalize b[k].kind=z2 at *
         generalize a[k].s=s1 at *
         generalize b[k].s=s2 at *
         by_cases hz:z1=z2
         · have e1:(z1 != z2)=false:=by simp [hz]
           by_cases hs:s1=s2
           · have e2:((S s1).toList == (S s2).toList)=true:=by rw [hs];simp
             have e2':((S s1).toList != (S s2).toList)=false:=by rw [hs];simp
             have HQ2:Hid (X=(y && smAll (a.drop (k+1)) (b.drop (k+1)))):=Lib.hid (by rw [HQ.out,decide_eq_true hz,decide_eq_true hs];simp)
             clear HQ hz hs hs1 hs2
             generalize S s1=t1 at *
             generalize S s2=t2 at *
             go_wp2_with fail
             go_quiet (first | (go_at_call 39;refine Calls.quiet_of (calls_at (args:=#[.slice ak1 kn1 ck1,.slice ak2 kn2 ck2]) rfl (HC.out _) (fun _ _ h=>h))))
             cases y with
             | true =>
               have HR:Hid (X=smAll (a.drop (k+1)) (b.drop (k+1))):=Lib.hid (by rw [HQ2.out];rfl)
               go_wp2_with fail
               go_roundw
               case rel=>exact ⟨k+1,n+nq,by omega,by go_num,by rw [HW.out,World.drewN_drewN],HR⟩
               case measure=>simp [intOf] <;> omega
             | false =>
               have HR:Hid (X=false):=Lib.hid (by rw [HQ2.out];rfl)
               go_wp2_with fail
               go_ret
               exact ⟨ret_bool HR.out.symm,n+nq,by rw [HW.out,World.drewN_drewN]⟩
           · have e2:((S s1).toList == (S s2).toList)=false:=by rw [hs1,hs2];simpa using hs
             have e2':((S s1).toList != (S s2).toList)=true:=by rw [hs1,hs2];simpa using hs
             have HR:Hid (X=false):=Lib.hid (by rw [HQ.out,decide_eq_false hs];simp)
             clear HQ hz hs HC hs1 hs2
             generalize S s1=t1 at *
             generalize S s2=t2 at *
             go_wp2_with fail
             go_quiet (fail)
             go_wp2_with fail
             go_ret
             exact ⟨ret_bool HR.out.symm,n+nq,by rw [HW.out,World.drewN_drewN]⟩
         · have e1:(z1 != z2)=true:=by rw [bne_iff_ne];exact hz
           have HR:Hid (X=false):=Lib.hid (by rw [HQ.out,decide_eq_false hz];simp)
           clear HQ hz HC hs1 hs2
           generalize S s1=t1 at *
           generalize S s2=t2 at *
           go_wp2_with fail
           go_quiet (fail)
           go_wp2_with fail
           go_ret
           exact ⟨ret_bool HR.out.symm,n+nq,by rw [HW.out,World.drewN_drewN]⟩
       · obtain rfl:k=a.length:=by omega
         have hnx:=HN.out
         rw [List.drop_length,List.drop_eq_nil_of_le (by omega)] at hnx
         have HR:Hid (X=true):=Lib.hid (by rw [hnx];unfold smAll;rfl)
         clear hnx HN hlt hwr
         go_wp2_with fail
         go_ret
         exact ⟨ret_bool HR.out.symm,n,HW.out⟩
   · have e0:((a.length:Int) != (b.length:Int))=true:=by simp;omega
     have HR:=Lib.hid (smAll_len a b hl)
     clear ih ta tb hm hl FA FB
     go_enter Tryz.func39,Tryz.ntmps39
     go_wp2_with fail
     go_ret
     exact ⟨ret_bool HR.out.symm,0,rfl⟩
end Sp
namespace Sp
open Go.RowKit
open Tk (S S_of S_list S_size S_toList S_app ret_int)
open Cm (calls_at)
theorem tr_nil (w:World):Tr w (.slice none 0 0) []:=⟨none,0,rfl,⟨Nat.le_refl _,by omega⟩,Or.inl rfl⟩
end Sp
end Go.Proofs.YthpnbialpkkpgaaGreatDoor
