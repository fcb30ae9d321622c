import Derived.Test.YtpakjdgddomdjabGreatDoorPkD
import Derived.Test.YtpakjdgddomdjabGreatDoorPkC
import Derived.Deep.RegionHeld3
import Derived.Lib.QuietBelow
import Derived.BigQuiet
import Derived.Deep.Cut
import Derived.Deep.CutRange
import Derived.Deep.CutBlock
import Derived.Test.YtpakjdgddomdjabGreatDoorPkB
set_option linter.unusedVariables false
namespace Go.Proofs.YtpakjdgddomdjabGreatDoor
namespace Sp
open Go.RowKit
open Tk (S S_list S_size S_toList)
open Cm (alloc_new cell_at)
open Utf (chk)
def ckB (s:List UInt8):Bool:=decide (chk (S s)=0)
mutual
def okOne (e k:Bool):Sp→Bool
 |.mk q s l=>ckB s&&(if q=1 then(l.isEmpty&&ttB s)else if q=2 then(l.isEmpty&&(!s.isEmpty&&(!hsB 10 s&&!hsB 13 s)))
  else if q=3 then(s.isEmpty&&(!l.isEmpty&&(!e&&okAll true k 0 l)))else if q=4 then(dsB s&&(!l.isEmpty&&(!k&&okAll e true 0 l)))else false)
def okAll (e k:Bool) (p:Int):List Sp→Bool
 |[]=>true
 |x::r=>okOne e k x&&!(decide (x.kind=p)&&decide (x.kind≤2))&&okAll e k x.kind r
end
theorem okAll_cons (e k:Bool) (p:Int) (x:Sp) (r:List Sp):okAll e k p (x::r)=(okOne e k x&&!(decide (x.kind=p)&&decide (x.kind≤2))&&okAll e k x.kind r):=by rw[okAll]
theorem okOne_eq (e k:Bool) (x:Sp):okOne e k x=(ckB x.s&&(if x.kind=1 then(x.kids.isEmpty&&ttB x.s)else if x.kind=2 then(x.kids.isEmpty&&(!x.s.isEmpty&&(!hsB 10 x.s&&!hsB 13 x.s)))
  else if x.kind=3 then(x.s.isEmpty&&(!x.kids.isEmpty&&(!e&&okAll true k 0 x.kids)))else if x.kind=4 then(dsB x.s&&(!x.kids.isEmpty&&(!k&&okAll e true 0 x.kids)))else false)):=by
 obtain⟨q,s,l⟩:=x;rw[okOne];rfl
theorem okOne_kind {e k:Bool} {x:Sp} (h:okOne e k x=true):1≤x.kind∧x.kind≤4:=by
 rw[okOne_eq,Bool.and_eq_true]at h;have h2:=h.2;split at h2
 ·omega
 ·split at h2
  ·omega
  ·split at h2
   ·omega
   ·split at h2
    ·omega
    ·simp at h2
theorem isEmpty_len {α:Type} (l:List α):((l.length:Int)==0)=l.isEmpty:=by
 cases l with
 |nil=>rfl
 |cons a r=>
  rw[List.isEmpty_cons,beq_eq_false_iff_ne];simp;omega
theorem gt_len {α:Type} (l:List α):decide ((l.length:Int)>0)= !l.isEmpty:=by
 cases l with
 |nil=>rfl
 |cons a r=>
  rw[List.isEmpty_cons];exact decide_eq_true (by simp)
def OkAns (w:World) (b:Bool) (e:Ending) (w':World):Prop:=e=.returned (.bool b)∧Below w.heap.size w w'
set_option maxHeartbeats 3200000 in
set_option maxRecDepth 100000 in
theorem one_of (x:Sp) (e k:Bool) (ak:Option Addr) (ck:Nat) (w:World) (hs:x.s.length≤140737488355328)
   (IH:∀ (e k:Bool) (w':World),Below w.heap.size w w'→Calls Tryz.prog 87 #[.slice ak x.kids.length ck,.bool e,.bool k] w' (OkAns w' (okAll e k 0 x.kids))) :
   Calls Tryz.prog 122 #[.agg #[.int .i64 x.kind,.string (S x.s),.slice ak x.kids.length ck],.bool e,.bool k] w (OkAns w (okOne e k x)):=by
 have HI3:=Lib.hid (IH true k);have HI4:=Lib.hid (IH e true);obtain ⟨q,s,l⟩:=x;simp only [Sp.kind,Sp.s,Sp.kids] at HI3 HI4 hs ⊢
 have HE:Hid (okOne e k (.mk q s l)=(ckB s && (if q=1 then (l.isEmpty && ttB s) else if q=2 then (l.isEmpty && (!s.isEmpty && (!hsB 10 s && !hsB 13 s)))
     else if q=3 then (s.isEmpty && (!l.isEmpty && (!e && okAll true k 0 l))) else if q=4 then (dsB s && (!l.isEmpty && (!k && okAll e true 0 l))) else false))):=Lib.hid (by rw [okOne])
 have hsz:(S s).size≤140737488355328:=by rw [S_size];exact hs
 have HK:=Lib.hid (fun w'=>Go.Proofs.YtpakjdgddomdjabGreatDoor.Utf.rcheck_any (S s) hsz w');have HT:=Lib.hid (fun w'=>text_any (S s) hsz w');have H10:=Lib.hid (fun w'=>has_any (S s) 10 hsz w');have H13:=Lib.hid (fun w'=>has_any (S s) 13 hsz w');have HD:=Lib.hid (fun w'=>dest_any (S s) hsz w');rw [S_list] at HT H10 H13 HD;have HEm:Hid ((S s).toList.isEmpty=s.isEmpty):=Lib.hid (by rw [S_toList]);have HCk:Hid (ckB s=decide (chk (S s)=0)):=Lib.hid rfl;have g1:=isEmpty_len l;have g2:=gt_len l;obtain ⟨X,hX⟩:∃ X,okOne e k (.mk q s l)=X:=⟨_,rfl⟩;rw [hX] at HE;rw [hX];clear IH hX;generalize ttB s=tt at *;generalize hsB 10 s=t10 at *;generalize hsB 13 s=t13 at *;generalize dsB s=td at *;generalize ckB s=tc at *;generalize chk (S s)=cv at *;generalize okAll true k 0 l=y3 at *;generalize okAll e true 0 l=y4 at *;generalize s.isEmpty=te at *;generalize l.isEmpty=tl at *;generalize l.length=ln at *;generalize S s=ss at *;go_enter Tryz.func122,Tryz.ntmps122;go_upto_region 1 with fail;have HC1:=Lib.hid (alloc_new w (.cells #[.int .i64 q,.string ss,.slice ak ln ck] 71));have HB1:=Lib.hid ((Below.refl w.heap.size w).alloc (Nat.le_refl _) (.cells #[.int .i64 q,.string ss,.slice ak ln ck] 71));generalize w.alloc (.cells #[.int .i64 q,.string ss,.slice ak ln ck] 71)=w1 at *;have k0:w1.cell? ⟨w.heap.size,0,none⟩=some (.int .i64 q):=cell_at HC1.out 0;have k1:w1.cell? ⟨w.heap.size,1,none⟩=some (.string ss):=cell_at HC1.out 1;have k2:w1.cell? ⟨w.heap.size,2,none⟩=some (.slice ak ln ck):=cell_at HC1.out 2;have HY3:=Lib.hid (HI3.out w1 HB1.out);have HY4:=Lib.hid (HI4.out w1 HB1.out);have em1:ss.toList.isEmpty=te:=HEm.out;have em2:(ss.toList == ([]:List UInt8))=te:=by rw [← HEm.out];cases ss.toList <;> rfl
 clear HI3 HI4 HC1;go_wp2_with fail;refine (HK.out _).mono ?_;rintro e1 w2 ⟨rfl,rfl⟩;clear HK;by_cases hc:cv=0
 · have htc:tc=true:=by rw [HCk.out,decide_eq_true hc]
   have c1:(cv != 0)=false:=by rw [hc];rfl
   clear hc HCk;by_cases q1:q=1
   · have f1:(q == 1)=true:=by rw [q1];rfl
     cases tl with
     | true =>
       have HR:Hid (X=tt):=Lib.hid (by rw [HE.out,htc,if_pos q1];simp);clear HE q1;go_wp2_with fail;refine (HT.out _).mono ?_;rintro e3 w3 ⟨rfl,rfl⟩;clear HT;go_wp2_with fail;go_ret;exact ⟨ret_bool HR.out.symm,HB1.out⟩
     | false =>
       have HR:Hid (X=false):=Lib.hid (by rw [HE.out,htc,if_pos q1];simp);clear HE;go_wp2_with fail;go_ret;exact ⟨ret_bool HR.out.symm,HB1.out⟩
   · have f1 : (q == 1)=false:=by rw [beq_eq_false_iff_ne];exact q1
     by_cases q2:q=2
     · have f2:(q == 2)=true:=by rw [q2];rfl
       cases tl with
       | false =>
         have HR:Hid (X=false):=Lib.hid (by rw [HE.out,htc,if_neg q1,if_pos q2];simp);clear HE;go_wp2_with fail;go_ret;exact ⟨ret_bool HR.out.symm,HB1.out⟩
       | true =>
         cases te with
         | true =>
           have HR:Hid (X=false):=Lib.hid (by rw [HE.out,htc,if_neg q1,if_pos q2];simp);clear HE;go_wp2_with fail;go_ret;exact ⟨ret_bool HR.out.symm,HB1.out⟩
         | false =>
           cases t10 with
           | true =>
             have HR:Hid (X=false):=Lib.hid (by rw [HE.out,htc,if_neg q1,if_pos q2];simp);clear HE q1 q2;go_wp2_with fail;refine (H10.out _).mono ?_;rintro e3 w3 ⟨rfl,rfl⟩;clear H10;go_wp2_with fail;go_ret;exact ⟨ret_bool HR.out.symm,HB1.out⟩
           | false =>
             have HR:Hid (X = !t13):=Lib.hid (by rw [HE.out,htc,if_neg q1,if_pos q2];simp);clear HE q1 q2;go_wp2_with fail;refine (H10.out _).mono ?_;rintro e3 w3 ⟨rfl,rfl⟩;clear H10;go_wp2_with fail;refine (H13.out _).mono ?_;rintro e3 w3 ⟨rfl,rfl⟩;clear H13;go_wp2_with fail;go_ret;exact ⟨ret_bool HR.out.symm,HB1.out⟩
     · have f2 : (q == 2)=false:=by rw [beq_eq_false_iff_ne];exact q2
       by_cases q3:q=3
       · have f3:(q == 3)=true:=by rw [q3];rfl
         cases te with
         | false =>
           have HR:Hid (X=false):=Lib.hid (by rw [HE.out,htc,if_neg q1,if_neg q2,if_pos q3];simp);clear HE;go_wp2_with fail;go_ret;exact ⟨ret_bool HR.out.symm,HB1.out⟩
         | true =>
           cases tl with
           | true =>
             have hln:ln=0:=by simpa using g1
             have HR:Hid (X=false):=Lib.hid (by rw [HE.out,htc,if_neg q1,if_neg q2,if_pos q3];simp);clear HE;go_wp2_with fail;go_ret;exact ⟨ret_bool HR.out.symm,HB1.out⟩
           | false =>
             have hln:0 < ln:=by have h:=g1;simp at h;omega
             cases e with
             | true =>
               have HR:Hid (X=false):=Lib.hid (by rw [HE.out,htc,if_neg q1,if_neg q2,if_pos q3];simp);clear HE;go_wp2_with fail;go_ret;exact ⟨ret_bool HR.out.symm,HB1.out⟩
             | false =>
               have HR:Hid (X=y3):=Lib.hid (by rw [HE.out,htc,if_neg q1,if_neg q2,if_pos q3];simp);clear HE q1 q2 q3;go_wp2_with fail;refine HY3.out.mono ?_;rintro e3 w3 ⟨rfl,b3⟩;have HB3:=Lib.hid (HB1.out.trans (b3.mono HB1.out.size));clear HY3 b3;go_wp2_with fail;go_ret;exact ⟨ret_bool HR.out.symm,HB3.out⟩
       · have f3 : (q == 3)=false:=by rw [beq_eq_false_iff_ne];exact q3
         by_cases q4:q=4
         · have f4:(q == 4)=true:=by rw [q4];rfl
           cases td with
           | false =>
             have HR:Hid (X=false):=Lib.hid (by rw [HE.out,htc,if_neg q1,if_neg q2,if_neg q3,if_pos q4];simp);clear HE q1 q2 q3 q4;go_wp2_with fail;refine (HD.out _).mono ?_;rintro e3 w3 ⟨rfl,rfl⟩;clear HD;go_wp2_with fail;go_ret;exact ⟨ret_bool HR.out.symm,HB1.out⟩
           | true =>
             cases tl with
             | true =>
               have hln:ln=0:=by simpa using g1
               have HR:Hid (X=false):=Lib.hid (by rw [HE.out,htc,if_neg q1,if_neg q2,if_neg q3,if_pos q4];simp);clear HE q1 q2 q3 q4;go_wp2_with fail;refine (HD.out _).mono ?_;rintro e3 w3 ⟨rfl,rfl⟩;clear HD;go_wp2_with fail;go_ret;exact ⟨ret_bool HR.out.symm,HB1.out⟩
             | false =>
               have hln:0 < ln:=by have h:=g1;simp at h;omega
               cases k with
               | true =>
                 have HR:Hid (X=false):=Lib.hid (by rw [HE.out,htc,if_neg q1,if_neg q2,if_neg q3,if_pos q4];simp);clear HE q1 q2 q3 q4;go_wp2_with fail;refine (HD.out _).mono ?_;rintro e3 w3 ⟨rfl,rfl⟩;clear HD;go_wp2_with fail;go_ret;exact ⟨ret_bool HR.out.symm,HB1.out⟩
               | false =>
                 have HR:Hid (X=y4):=Lib.hid (by rw [HE.out,htc,if_neg q1,if_neg q2,if_neg q3,if_pos q4];simp);clear HE q1 q2 q3 q4;go_wp2_with fail;refine (HD.out _).mono ?_;rintro e3 w3 ⟨rfl,rfl⟩;clear HD;go_wp2_with fail;refine HY4.out.mono ?_;rintro e3 w3 ⟨rfl,b3⟩;have HB3:=Lib.hid (HB1.out.trans (b3.mono HB1.out.size));clear HY4 b3;go_wp2_with fail;go_ret;exact ⟨ret_bool HR.out.symm,HB3.out⟩
         · have f4:(q == 4)=false:=by rw [beq_eq_false_iff_ne];exact q4
           have HR:Hid (X=false):=Lib.hid (by rw [HE.out,if_neg q1,if_neg q2,if_neg q3,if_neg q4];simp);clear HE q1 q2 q3 q4;go_wp2_with fail;go_ret;exact ⟨ret_bool HR.out.symm,HB1.out⟩
 · have htc:tc=false:=by rw [HCk.out,decide_eq_false hc]
   have c1:(cv != 0)=true:=by rw [bne_iff_ne];exact hc
   have HR:Hid (X=false):=Lib.hid (by rw [HE.out,htc];simp);clear HE hc HCk;go_wp2_with fail;go_ret;exact ⟨ret_bool HR.out.symm,HB1.out⟩
end Sp
namespace Sp
open Go.RowKit
open Tk (S)
open Cm (Keep)
def pkAt (l:List Sp):Nat→Int
 |0=>0
 |j+1=>(l[j]?.map Sp.kind).getD 0
theorem pkAt_next (l:List Sp) (j:Nat) (h:j<l.length):pkAt l (j+1)=l[j].kind:=by
 show(l[j]?.map Sp.kind).getD 0=_;rw[List.getElem?_eq_getElem h];rfl
set_option maxHeartbeats 6400000 in
set_option maxRecDepth 100000 in
theorem all_any (m:Nat):∀(l:List Sp) (e k:Bool) (v:Value) (w:World),totAll l≤m→fitAll 140737488355328 l→Tr w v l→
  Calls Tryz.prog 87 #[v,.bool e,.bool k] w (OkAns w (okAll e k 0 l)):=by
 induction m using Nat.strongRecOn with
 |ind m ih=>
  intro l e k v w hm hf ht;obtain⟨ao,ca,rfl⟩:=ht.len;have HT:=Lib.hid ht;have hlen:=ht.short
  have HO:Hid (∀j (hj:j<l.length) (ak:Option Addr) (ck:Nat) (w':World),Tr w' (.slice ak l[j].kids.length ck) l[j].kids→
    Calls Tryz.prog 122 #[.agg #[.int .i64 l[j].kind,.string (S l[j].s),.slice ak l[j].kids.length ck],.bool e,.bool k] w' (OkAns w' (okOne e k l[j]))):=Lib.hid (fun j hj ak ck w' ht'=>by
   have hfx:=fitAll_at hf l[j] (List.getElem_mem hj);refine one_of l[j] e k ak ck w' (fitOne_s hfx) (fun e k w'' hb=>?_);exact ih (totAll l[j].kids) (Nat.lt_of_lt_of_le (totAll_kids (List.getElem_mem hj)) hm) l[j].kids e k _ w'' (Nat.le_refl _) (fitOne_kids hfx) (ht'.below hb))
  have H0:Hid (okAll e k 0 l=okAll e k (pkAt l 0) (l.drop 0)):=Lib.hid (by rw[List.drop_zero];rfl);obtain⟨X,hX⟩:∃X,okAll e k 0 l=X:=⟨_,rfl⟩;rw[hX]at H0;rw[hX];clear ih ht hm hX hf;go_enter Tryz.func87,Tryz.ntmps87;go_wp2_with fail;go_loopw [10] (fun i wr=>∃j:Nat,j≤l.length∧i=.int .i64 j∧Below w.heap.size w wr∧Hid (X=okAll e k (pkAt l j) (l.drop j))) (fun i _=>l.length-(intOf i).toNat)
  case atStart=>exact⟨0,Nat.zero_le _,rfl,Below.refl _ _,H0⟩
  case round=>
   clear H0;obtain⟨j,hj,rfl,hb,HN⟩:=hrel;have Hb:=Lib.hid hb;by_cases hlt:j<l.length
   ·have hnx:=HN.out
    rw[drop_cons l j hlt,okAll_cons]at hnx;have hi1:(j:Int)<(l.length:Int):=by omega
    have HTr:=Lib.hid (HT.out.below hb);obtain⟨b,o,ak,ck,rfl,hbl,hC⟩:=HTr.out.at j hlt;have HSall:=Lib.hid (fun w' (h:Keep (fun _=>False) wr w')=>HTr.out.below (h.below (fun _ e=>e.elim) (Nat.le_refl _)));have hcell:∀w',Keep (fun _=>False) wr w'→∀q,w'.cell? ⟨b,q,none⟩=wr.cell? ⟨b,q,none⟩:=fun w' h q=>(h.below (B:=wr.heap.size) (fun _ e=>e.elim) (Nat.le_refl _)).cell (by exact hbl)
    have HC:=Lib.hid (fun d os=>Calls.regrown_of (HO.out j hlt ak ck (Go.Sort.grow (redrawn wr d) os) (hC.tr.below (below_regrown wr d os))));have hkd:okOne e k l[j]=true→1≤l[j].kind:=fun h=>(okOne_kind h).1
    have hpk:=pkAt_next l j hlt;have c0:=hC.kind;have c1:=hC.s;have c2:=hC.kids;obtain⟨ok,hok⟩:∃ok,(okOne e k l[j]&&!(decide (l[j].kind=pkAt l j)&&decide (l[j].kind≤2)))=ok:=⟨_,rfl⟩;rw[hok,←hpk]at hnx;have HQ:=Lib.hid hnx;have HOK:=Lib.hid hok;clear hnx hok HN;go_upto_region 4 with fail;go_cut [10,46]from 10 to 47 (fun ci s wx=>ci=.int .i64 j∧s=.bool (!ok)∧Hid (Below w.heap.size w wx))
    case first=>
     clear HQ hpk;rcases j with _ |j
     ·simp only[Nat.zero_mul,Nat.add_zero]at c0 c1 c2
      clear hC HSall;have hz0:okOne e k l[0]=true→¬(l[0].kind=pkAt l 0):=fun h=>by have:=hkd h;show ¬(l[0].kind=0);omega
      clear hkd;generalize l[0].kind=z at *;generalize S l[0].s=ss at *;generalize l[0].kids.length=kn at *;clear hcell;cases hy:okOne e k l[0]with
      |false=>
       rw[hy]at HC;have HR:Hid (ok=false):=Lib.hid (by rw[←HOK.out,hy];rfl);clear HOK hz0 hy;have q0:=fun d os=>cell_regrown (w:=wr) c0 d os
       have q1:=fun d os=>cell_regrown (w:=wr) c1 d os
       have q2:=fun d os=>cell_regrown (w:=wr) c2 d os
       refine wp_region_quiet_below (by kernel_rfl) (by kernel_rfl) ?_
       repeat (go_big_quiet_step (first |(go_at_call 122;exact HC.out _ _)))
       refine wpQuiet_nil ?_;intro w5 hw5;obtain⟨⟨dq,osq⟩,hw5'⟩:=hw5;subst hw5';have HB5:=Lib.hid (Hb.out.trans ((below_regrown wr dq osq).mono Hb.out.size));go_wp2_with fail;go_meet;exact⟨rfl,by rw[HR.out];rfl,HB5⟩
      |true=>
       rw[hy]at HC;have HR:Hid (ok=true):=Lib.hid (by rw[←HOK.out,hy,decide_eq_false (hz0 hy)];rfl);clear HOK hz0 hy;have q0:=fun d os=>cell_regrown (w:=wr) c0 d os
       have q1:=fun d os=>cell_regrown (w:=wr) c1 d os
       have q2:=fun d os=>cell_regrown (w:=wr) c2 d os
       refine wp_region_quiet_below (by kernel_rfl) (by kernel_rfl) ?_
       repeat (go_big_quiet_step (first |(go_at_call 122;exact HC.out _ _)))
       refine wpQuiet_nil ?_;intro w5 hw5;obtain⟨⟨dq,osq⟩,hw5'⟩:=hw5;subst hw5';have HB5:=Lib.hid (Hb.out.trans ((below_regrown wr dq osq).mono Hb.out.size));go_wp2_with fail;go_meet;exact⟨rfl,by rw[HR.out];rfl,HB5⟩
     ·obtain⟨b',o',ak',ck',hao,_,hC'⟩:=HTr.out.at j (by omega)
      simp only[Option.some.injEq,Addr.mk.injEq,and_true]at hao;obtain⟨rfl,rfl⟩:=hao;have c3:=hC'.kind;have hp:pkAt l (j+1)=l[j].kind:=pkAt_next l j (by omega);rw[hp]at HOK;clear hC hC' HSall hp hkd;generalize l[j+1].kind=z at *;generalize S l[j+1].s=ss at *;generalize l[j+1].kids.length=kn at *;generalize l[j].kind=p at *;clear hcell;have g0:decide (((j+1:Nat):Int)>0)=true:=decide_eq_true (by omega);cases hy:okOne e k l[j+1]with
      |false=>
       rw[hy]at HC;have HR:Hid (ok=false):=Lib.hid (by rw[←HOK.out,hy];rfl);clear HOK hy;have q0:=fun d os=>cell_regrown (w:=wr) c0 d os
       have q1:=fun d os=>cell_regrown (w:=wr) c1 d os
       have q2:=fun d os=>cell_regrown (w:=wr) c2 d os
       have q3:=fun d os=>cell_regrown (w:=wr) c3 d os
       refine wp_region_quiet_below (by kernel_rfl) (by kernel_rfl) ?_
       repeat (go_big_quiet_step (first |(go_at_call 122;exact HC.out _ _)))
       refine wpQuiet_nil ?_;intro w5 hw5;obtain⟨⟨dq,osq⟩,hw5'⟩:=hw5;subst hw5';have HB5:=Lib.hid (Hb.out.trans ((below_regrown wr dq osq).mono Hb.out.size));go_wp2_with fail;go_meet;exact⟨rfl,by rw[HR.out];rfl,HB5⟩
      |true=>
       rw[hy]at HC;by_cases hzp:z=p
       ·have e1:(z==p)=true:=by rw[hzp];simp
        by_cases hz2:z≤2
        ·have e2:decide (z≤2)=true:=decide_eq_true hz2
         have HR:Hid (ok=false):=Lib.hid (by rw[←HOK.out,hy,decide_eq_true hzp,e2];rfl);clear HOK hy hzp hz2;have q0:=fun d os=>cell_regrown (w:=wr) c0 d os
         have q1:=fun d os=>cell_regrown (w:=wr) c1 d os
         have q2:=fun d os=>cell_regrown (w:=wr) c2 d os
         have q3:=fun d os=>cell_regrown (w:=wr) c3 d os
         refine wp_region_quiet_below (by kernel_rfl) (by kernel_rfl) ?_
         repeat (go_big_quiet_step (first |(go_at_call 122;exact HC.out _ _)))
         refine wpQuiet_nil ?_;intro w5 hw5;obtain⟨⟨dq,osq⟩,hw5'⟩:=hw5;subst hw5';have HB5:=Lib.hid (Hb.out.trans ((below_regrown wr dq osq).mono Hb.out.size));go_wp2_with fail;go_meet;exact⟨rfl,by rw[HR.out];rfl,HB5⟩
        ·have e2:decide (z≤2)=false:=decide_eq_false hz2
         have HR:Hid (ok=true):=Lib.hid (by rw[←HOK.out,hy,e2];simp);clear HOK hy hzp hz2;have q0:=fun d os=>cell_regrown (w:=wr) c0 d os
         have q1:=fun d os=>cell_regrown (w:=wr) c1 d os
         have q2:=fun d os=>cell_regrown (w:=wr) c2 d os
         have q3:=fun d os=>cell_regrown (w:=wr) c3 d os
         refine wp_region_quiet_below (by kernel_rfl) (by kernel_rfl) ?_
         repeat (go_big_quiet_step (first |(go_at_call 122;exact HC.out _ _)))
         refine wpQuiet_nil ?_;intro w5 hw5;obtain⟨⟨dq,osq⟩,hw5'⟩:=hw5;subst hw5';have HB5:=Lib.hid (Hb.out.trans ((below_regrown wr dq osq).mono Hb.out.size));go_wp2_with fail;go_meet;exact⟨rfl,by rw[HR.out];rfl,HB5⟩
       ·have e1:(z==p)=false:=by rw[beq_eq_false_iff_ne];exact hzp
        have HR:Hid (ok=true):=Lib.hid (by rw[←HOK.out,hy,decide_eq_false hzp];simp);clear HOK hy hzp;have q0:=fun d os=>cell_regrown (w:=wr) c0 d os
        have q1:=fun d os=>cell_regrown (w:=wr) c1 d os
        have q2:=fun d os=>cell_regrown (w:=wr) c2 d os
        have q3:=fun d os=>cell_regrown (w:=wr) c3 d os
        refine wp_region_quiet_below (by kernel_rfl) (by kernel_rfl) ?_
        repeat (go_big_quiet_step (first |(go_at_call 122;exact HC.out _ _)))
        refine wpQuiet_nil ?_;intro w5 hw5;obtain⟨⟨dq,osq⟩,hw5'⟩:=hw5;subst hw5';have HB5:=Lib.hid (Hb.out.trans ((below_regrown wr dq osq).mono Hb.out.size));go_wp2_with fail;go_meet;exact⟨rfl,by rw[HR.out];rfl,HB5⟩
    case rest=>
     obtain⟨rfl,rfl,HB5⟩:=hcut;clear HC hC HSall hcell hkd hpk c0 c1 c2 HTr HOK;cases ok with
     |true=>
      have HR:Hid (X=okAll e k (pkAt l (j+1)) (l.drop (j+1))):=Lib.hid (by rw[HQ.out];rfl);clear HQ;go_wp2_with fail;go_roundw
      case rel=>exact⟨j+1,by omega,by go_num,HB5.out,HR⟩
      case measure=>simp[intOf]<;>omega
     |false=>
      have HR:Hid (X=false):=Lib.hid (by rw[HQ.out];rfl);clear HQ;go_wp2_with fail;go_ret;exact⟨ret_bool HR.out.symm,HB5.out⟩
   ·obtain rfl:j=l.length:=by omega
    have hnx:=HN.out;rw[List.drop_length]at hnx;have HR:Hid (X=true):=Lib.hid (by rw[hnx];unfold okAll;rfl);clear hnx HN hlt;go_wp2_with fail;go_ret;exact⟨ret_bool HR.out.symm,Hb.out⟩
end Sp
namespace Sp
open Go.RowKit
open Tk (S S_list S_size at_data len_data)
open Cm (alloc_new alloc_at cell_at)
def hdB (x:Sp):Bool:=!decide (x.kind=1)||!edB (x.s.headD 0)
def ltB (x:Sp):Bool:=!decide (x.kind=1)||!edB (x.s.getLastD 0)
def endB (l:List Sp):Bool:=(l.head?.elim true hdB)&&(l.getLast?.elim true ltB)
def rtB (l:List Sp):Bool:=okAll false false 0 l&&endB l
theorem okAll_mem {e k:Bool}:∀{l:List Sp} {p:Int},okAll e k p l=true→∀x∈l,okOne e k x=true
 |[],_,_,x,hx=>by cases hx
 |y::r,p,h,x,hx=>by
  rw[okAll_cons,Bool.and_eq_true,Bool.and_eq_true]at h;rcases List.mem_cons.1 hx with rfl |hx
  ·exact h.1.1
  ·exact okAll_mem h.2 x hx
theorem okOne_text {e k:Bool} {x:Sp} (h:okOne e k x=true) (h1:x.kind=1):x.s≠[]:=by
 rw[okOne_eq,if_pos h1,Bool.and_eq_true,Bool.and_eq_true]at h;have:=h.2.2;unfold ttB at this;rw[Bool.and_eq_true,Bool.and_eq_true]at this;have:=this.2.1;intro e;rw[e]at this;simp at this
def fstB (t:ByteArray):UInt8:=t.data.toList.headD 0
def lstB (t:ByteArray):UInt8:=t.data.toList.getLastD 0
theorem fstB_eq (t:ByteArray) (h:0<t.size):fstB t=t[0]:=by
 have:=at_data t 0 h;rw[List.drop_zero]at this;have h2:t.data.toList.head? = some t[0]:=congrArg List.head? this;unfold fstB;rw[List.headD_eq_head?_getD,h2];rfl
theorem lstB_eq (t:ByteArray) (h:t.size-1<t.size):lstB t=t[t.size-1]:=by
 have h1:=at_data t (t.size-1) h;have hl:=len_data t;have h2:(t.data.toList.drop (t.size-1)).head? = some t[t.size-1]:=congrArg List.head? h1;unfold lstB;rw[List.getLastD_eq_getLast?,List.getLast?_eq_getElem?,←List.head?_drop,hl,h2];rfl
theorem fst_S (s:List UInt8):fstB (S s)=s.headD 0:=by unfold fstB;rw[S_list]
theorem lst_S (s:List UInt8):lstB (S s)=s.getLastD 0:=by unfold lstB;rw[S_list]
set_option maxHeartbeats 6400000 in
set_option maxRecDepth 100000 in
theorem rright_any (l:List Sp) (v:Value) (w:World) (hf:fitAll 140737488355328 l) (ht:Tr w v l) :
   Calls Tryz.prog 56 #[v] w (OkAns w (rtB l)):=by
 obtain ⟨ao,ca,rfl⟩:=ht.len;have HT:=Lib.hid ht;have hlen:=ht.short;have HA:=Lib.hid (all_any (totAll l) l false false _ w (Nat.le_refl _) hf ht);have HX0:Hid (rtB l=(okAll false false 0 l && endB l)):=Lib.hid rfl;have HMm:=Lib.hid (fun (h:okAll false false 0 l=true)=>okAll_mem h);have HFt:=Lib.hid (fitAll_at hf);obtain ⟨X,hX⟩:∃ X,rtB l=X:=⟨_,rfl⟩;rw [hX] at HX0;rw [hX];clear hX ht hf;go_enter Tryz.func56,Tryz.ntmps56;go_wp2_with fail;refine HA.out.mono ?_;rintro e1 w1 ⟨rfl,b1⟩;have HB1:=Lib.hid b1;clear b1 HA;cases hok:okAll false false 0 l with
 | false =>
   have HR:Hid (X=false):=Lib.hid (by rw [HX0.out,hok];rfl);clear HX0 hok HMm;go_wp2_with fail;go_ret;exact ⟨ret_bool HR.out.symm,HB1.out⟩
 | true =>
   have HM:=Lib.hid (HMm.out hok);have HX1:Hid (X=endB l):=Lib.hid (by rw [HX0.out,hok];rfl);clear HX0 hok HMm;by_cases h0:l.length=0
   · have e0:((l.length:Int) == 0)=true:=by rw [h0];rfl
     have HR:Hid (X=true):=Lib.hid (by rw [HX1.out,List.eq_nil_of_length_eq_zero h0];rfl);clear HX1 HM;go_wp2_with fail;go_ret;exact ⟨ret_bool HR.out.symm,HB1.out⟩
   · have e0:((l.length:Int) == 0)=false:=by rw [beq_eq_false_iff_ne];omega
     have hpos:0 < l.length:=by omega
     have hi0:(0:Int) < (l.length:Int):=by omega
     have HTr:=Lib.hid (HT.out.below HB1.out);obtain ⟨b,o,ak,ck,rfl,hbl,hC⟩:=HTr.out.at 0 hpos;obtain ⟨b',o',ak2,ck2,hao,_,hD⟩:=HTr.out.at (l.length - 1) (by omega);simp only [Option.some.injEq,Addr.mk.injEq,and_true] at hao;obtain ⟨rfl,rfl⟩:=hao
     have HX:Hid (X=(hdB l[0] && ltB (l[l.length - 1]'(by omega)))):=Lib.hid (by
       rw [HX1.out];unfold endB;rw [List.head?_eq_getElem?,List.getElem?_eq_getElem hpos,List.getLast?_eq_getElem?,List.getElem?_eq_getElem (by omega)];rfl)
     have HHd:Hid (l[0].kind=1→0 < (S l[0].s).size∧hdB l[0] = !edB (fstB (S l[0].s))):=Lib.hid (fun h1=>by
       have hne:=okOne_text (HM.out _ (List.getElem_mem hpos)) h1;have h:0 < (S l[0].s).size:=by rw [S_size];exact List.length_pos_iff.2 hne
       refine ⟨h,?_⟩;unfold hdB;rw [decide_eq_true h1,fst_S];rfl)
     have HHn:Hid (l[0].kind≠1→hdB l[0]=true):=Lib.hid (fun h1=>by unfold hdB;rw [decide_eq_false h1];rfl)
     have HL:Hid ((l[l.length - 1]'(by omega)).kind=1→0 < (S (l[l.length - 1]'(by omega)).s).size∧((S (l[l.length - 1]'(by omega)).s).size≤140737488355328)∧ltB (l[l.length - 1]'(by omega)) = !edB (lstB (S (l[l.length - 1]'(by omega)).s))):=Lib.hid (fun h1=>by
       have hne:=okOne_text (HM.out _ (List.getElem_mem (by omega))) h1;have h:0 < (S (l[l.length - 1]'(by omega)).s).size:=by rw [S_size];exact List.length_pos_iff.2 hne
       refine ⟨h,by rw [S_size];exact fitOne_s (HFt.out _ (List.getElem_mem (by omega))),?_⟩;unfold ltB;rw [decide_eq_true h1,lst_S];rfl)
     have HLn:Hid ((l[l.length - 1]'(by omega)).kind≠1→ltB (l[l.length - 1]'(by omega))=true):=Lib.hid (fun h1=>by unfold ltB;rw [decide_eq_false h1];rfl);have c0:=hC.kind;have c1:=hC.s;have c2:=hC.kids;have d0:=hD.kind;have d1:=hD.s;have d2:=hD.kids;simp only [Nat.zero_mul,Nat.add_zero] at c0 c1 c2;clear hC hD HX1 HM HFt HT;generalize hdB l[0]=H1 at *;generalize ltB (l[l.length - 1]'(by omega))=L1 at *;generalize l[0].kids.length=kn1 at *;generalize (l[l.length - 1]'(by omega)).kids.length=kn2 at *;generalize l[0].kind=z1 at *;generalize (l[l.length - 1]'(by omega)).kind=z2 at *;generalize S l[0].s=t1 at *;generalize S (l[l.length - 1]'(by omega)).s=t2 at *;go_upto_region 5 with fail;go_cut [3,4] from 20 (fun pa pb wx=>∃ PA PB:Nat,pa = .pointer (some ⟨PA,0,none⟩)∧pb = .pointer (some ⟨PB,0,none⟩)∧Hid (wx.heap[PA]? = some (.cells #[.int .i64 z1,.string t1,.slice ak kn1 ck] 71 (0,0)))∧Hid (wx.heap[PB]? = some (.cells #[.int .i64 z2,.string t2,.slice ak2 kn2 ck2] 71 (0,0)))∧Hid (Below w.heap.size w wx))
     case first =>
       clear HX HHd HHn HL HLn;have sz:∀ o:Obj,(w1.alloc o).heap.size=w1.heap.size+1:=fun o=>by simp
       have B1:=HB1.out;go_region
       · have hA:=alloc_at (alloc_new w1 (.cells #[.int .i64 z1,.string t1,.slice ak kn1 ck] 71)) (.cells #[.int .i64 z2,.string t2,.slice ak2 kn2 ck2] 71)
         have hB:=alloc_new (w1.alloc (.cells #[.int .i64 z1,.string t1,.slice ak kn1 ck] 71)) (.cells #[.int .i64 z2,.string t2,.slice ak2 kn2 ck2] 71);rw [sz] at hB;have hZ:=Lib.hid (((B1.alloc B1.size (.cells #[.int .i64 z1,.string t1,.slice ak kn1 ck] 71)).alloc (by rw [sz];have:=B1.size;omega) (.cells #[.int .i64 z2,.string t2,.slice ak2 kn2 ck2] 71)).drew);have hA':=Lib.hid hA;have hB':=Lib.hid hB;clear hA hB sz B1;go_wp2_with fail;go_meet;exact ⟨_,_,rfl,rfl,Lib.hid hA'.out,Lib.hid hB'.out,hZ⟩
       · have hA:=alloc_at (alloc_new w1 (.cells #[.int .i64 z2,.string t2,.slice ak2 kn2 ck2] 71)) (.cells #[.int .i64 z1,.string t1,.slice ak kn1 ck] 71)
         have hB:=alloc_new (w1.alloc (.cells #[.int .i64 z2,.string t2,.slice ak2 kn2 ck2] 71)) (.cells #[.int .i64 z1,.string t1,.slice ak kn1 ck] 71);rw [sz] at hB;have hZ:=Lib.hid (((B1.alloc B1.size (.cells #[.int .i64 z2,.string t2,.slice ak2 kn2 ck2] 71)).alloc (by rw [sz];have:=B1.size;omega) (.cells #[.int .i64 z1,.string t1,.slice ak kn1 ck] 71)).drew);have hA':=Lib.hid hA;have hB':=Lib.hid hB;clear hA hB sz B1;go_wp2_with fail;go_meet;exact ⟨_,_,rfl,rfl,Lib.hid hB'.out,Lib.hid hA'.out,hZ⟩
     case rest =>
       obtain ⟨PA,PB,rfl,rfl,HPA,HPB,HB5⟩:=hcut;have a0:wc.cell? ⟨PA,0,none⟩=some (.int .i64 z1):=cell_at HPA.out 0;have a1:wc.cell? ⟨PA,1,none⟩=some (.string t1):=cell_at HPA.out 1;have b0:wc.cell? ⟨PB,0,none⟩=some (.int .i64 z2):=cell_at HPB.out 0;have b1:wc.cell? ⟨PB,1,none⟩=some (.string t2):=cell_at HPB.out 1;clear HPA HPB HTr HB1 c0 c1 c2 d0 d1 d2;by_cases y1:z1=1
       · have f1:(z1 != 1)=false:=by rw [y1];rfl
         obtain ⟨n1,HH1⟩:=HHd.out y1;rw [fstB_eq t1 n1] at HH1;have HE1:=Lib.hid (edge_any (t1[0]'n1) wc);have HH2:=Lib.hid HH1;clear HH1;cases hy1:edB (t1[0]'n1) with
         | true =>
           rw [hy1] at HE1 HH2;have HR:Hid (X=false):=Lib.hid (by rw [HX.out,HH2.out];rfl);go_wp2_with fail;refine HE1.out.mono ?_;rintro e7 w7 ⟨rfl,rfl⟩;go_wp2_with fail;go_ret;exact ⟨ret_bool HR.out.symm,HB5.out⟩
         | false =>
           rw [hy1] at HE1 HH2;by_cases y2:z2=1
           · have f2:(z2 != 1)=false:=by rw [y2];rfl
             obtain ⟨n2,g2,HL2⟩:=HL.out y2;rw [lstB_eq t2 (by omega)] at HL2;have HE2:=Lib.hid (edge_any (t2[t2.size - 1]'(by omega)) wc);have HR:Hid (X = !edB (t2[t2.size - 1]'(by omega))):=Lib.hid (by rw [HX.out,HH2.out,Bool.not_false,Bool.true_and,HL2]);have hs2:1≤t2.size:=by omega
             generalize edB (t2[t2.size - 1]'(by omega))=y at *;go_wp2_with fail;refine HE1.out.mono ?_;rintro e7 w7 ⟨rfl,rfl⟩;go_wp2_with fail;refine HE2.out.mono ?_;rintro e8 w8 ⟨rfl,rfl⟩;go_wp2_with fail;go_ret;exact ⟨ret_bool HR.out.symm,HB5.out⟩
           · have f2:(z2 != 1)=true:=by rw [bne_iff_ne];exact y2
             have HR:Hid (X=true):=Lib.hid (by rw [HX.out,HH2.out,Bool.not_false,Bool.true_and,HLn.out y2];try rfl);go_wp2_with fail;refine HE1.out.mono ?_;rintro e7 w7 ⟨rfl,rfl⟩;go_wp2_with fail;go_ret;exact ⟨ret_bool HR.out.symm,HB5.out⟩
       · have f1:(z1 != 1)=true:=by rw [bne_iff_ne];exact y1
         have HH3:=Lib.hid (HHn.out y1);by_cases y2:z2=1
         · have f2:(z2 != 1)=false:=by rw [y2];rfl
           obtain ⟨n2,g2,HL2⟩:=HL.out y2;rw [lstB_eq t2 (by omega)] at HL2;have HE2:=Lib.hid (edge_any (t2[t2.size - 1]'(by omega)) wc);have HR:Hid (X = !edB (t2[t2.size - 1]'(by omega))):=Lib.hid (by rw [HX.out,HH3.out,Bool.true_and,HL2]);have hs2:1≤t2.size:=by omega
           generalize edB (t2[t2.size - 1]'(by omega))=y at *;go_wp2_with fail;refine HE2.out.mono ?_;rintro e8 w8 ⟨rfl,rfl⟩;go_wp2_with fail;go_ret;exact ⟨ret_bool HR.out.symm,HB5.out⟩
         · have f2:(z2 != 1)=true:=by rw [bne_iff_ne];exact y2
           have HR:Hid (X=true):=Lib.hid (by rw [HX.out,HH3.out,Bool.true_and,HLn.out y2];try rfl);go_wp2_with fail;go_ret;exact ⟨ret_bool HR.out.symm,HB5.out⟩
end Sp
namespace Sp
open Go.RowKit
open Tk (S S_toList)
open Cm (calls_at)
mutual
def smOne:Sp→Sp→Bool
 |.mk k s l,.mk q t m=>decide (k=q)&&decide (s=t)&&smAll l m
def smAll:List Sp→List Sp→Bool
 |[],[]=>true
 |x::r,y::t=>smOne x y&&smAll r t
 |_,_=>false
end
theorem smOne_eq (x y:Sp):smOne x y=(decide (x.kind=y.kind)&&decide (x.s=y.s)&&smAll x.kids y.kids):=by
 obtain⟨k,s,l⟩:=x;obtain⟨q,t,m⟩:=y;unfold smOne;rfl
theorem smAll_cons (x y:Sp) (r t:List Sp):smAll (x::r) (y::t)=(smOne x y&&smAll r t):=by rw[smAll]
mutual
theorem smOne_iff:∀x y:Sp,smOne x y=true↔x=y
 |.mk k s l,.mk q t m=>by
  unfold smOne;rw[Bool.and_eq_true,Bool.and_eq_true,decide_eq_true_iff,decide_eq_true_iff,smAll_iff l m];simp[and_assoc]
theorem smAll_iff:∀a b:List Sp,smAll a b=true↔a=b
 |[],[]=>by simp[smAll]
 |[],_::_=>by simp[smAll]
 |_::_,[]=>by simp[smAll]
 |x::r,y::t=>by
  rw[smAll_cons,Bool.and_eq_true,smOne_iff x y,smAll_iff r t];simp
end
theorem smAll_len:∀a b:List Sp,a.length≠b.length→smAll a b=false
 |[],[],h=>absurd rfl h
 |[],_::_,_=>by simp[smAll]
 |_::_,[],_=>by simp[smAll]
 |x::r,y::t,h=>by
  rw[smAll_cons,smAll_len r t (by simpa using h),Bool.and_false]
theorem Tr.drewN {w:World} {v:Value} {l:List Sp} (h:Tr w v l) (n:Nat):Tr (w.drewN n) v l:=h.below (below_drewN (Below.refl _ _) n)
set_option maxHeartbeats 6400000 in
set_option maxRecDepth 100000 in
theorem rsame_any (m:Nat):∀ (a b:List Sp) (va vb:Value) (w:World),totAll a≤m→Tr w va a→Tr w vb b →
   Calls Tryz.prog 24 #[va,vb] w fun e w'=>e = .returned (.bool (smAll a b))∧∃ n,w'=w.drewN n:=by
 induction m using Nat.strongRecOn with
 | ind m ih =>
   intro a b va vb w hm ta tb;obtain ⟨ao,ca,rfl⟩:=ta.len;obtain ⟨bo,cb,rfl⟩:=tb.len;have FA:=Lib.hid (fun n=>(ta.drewN n).at);have FB:=Lib.hid (fun n=>(tb.drewN n).at);have hla:=ta.short;have hlb:=tb.short;by_cases hl:a.length=b.length
   · have e0 : ((a.length:Int) != (b.length:Int))=false:=by simp [hl]
     have HIH:Hid (∀ k (hk:k < a.length) (l2:List Sp) (v1 v2:Value) (w':World),Tr w' v1 a[k].kids→Tr w' v2 l2→Calls Tryz.prog 24 #[v1,v2] w' fun e w''=>e = .returned (.bool (smAll a[k].kids l2))∧∃ n,w''=w'.drewN n):=Lib.hid (fun k hk l2 v1 v2 w' t1 t2 =>
       ih (totAll a[k].kids) (Nat.lt_of_lt_of_le (totAll_kids (List.getElem_mem hk)) hm) a[k].kids l2 v1 v2 w' (Nat.le_refl _) t1 t2)
     have H0:Hid (smAll a b=smAll (a.drop 0) (b.drop 0)):=Lib.hid (by rw [List.drop_zero,List.drop_zero]);obtain ⟨X,hX⟩:∃ X,smAll a b=X:=⟨_,rfl⟩;rw [hX] at H0;rw [hX];clear ih ta tb hm hX;go_enter Tryz.func24,Tryz.ntmps24;go_wp2_with fail;go_loopw [13] (fun i wr=>∃ k n:Nat,k≤a.length∧i = .int .i64 k∧wr=w.drewN n∧Hid (X=smAll (a.drop k) (b.drop k))) (fun i _=>a.length - (intOf i).toNat)
     case atStart=>exact ⟨0,0,Nat.zero_le _,rfl,rfl,H0⟩
     case round =>
       clear H0;obtain ⟨k,n,hk,rfl,hwr,HN⟩:=hrel;have HW:=Lib.hid hwr;by_cases hlt:k < a.length
       · have hlt2:k < b.length:=by omega
         have hnx:=HN.out;rw [drop_cons a k hlt,drop_cons b k hlt2,smAll_cons,smOne_eq] at hnx;have hi1:(k:Int) < (a.length:Int):=by omega
         have hi2:(k:Int) < (b.length:Int):=by omega
         obtain ⟨b1,o1,ak1,ck1,rfl,hb1,hC1⟩:=FA.out n k hlt;obtain ⟨b2,o2,ak2,ck2,rfl,hb2,hC2⟩:=FB.out n k hlt2;rw [← hwr] at hC1 hC2;have c0:=hC1.kind;have c1:=hC1.s;have c2:=hC1.kids;have d0:=hC2.kind;have d1:=hC2.s;have d2:=hC2.kids;have HC:=Lib.hid (fun q=>HIH.out k hlt b[k].kids _ _ (wr.drewN q) (hC1.tr.drewN q) (hC2.tr.drewN q));have HQ:=Lib.hid hnx;have hs1:=S_toList a[k].s;have hs2:=S_toList b[k].s;clear hnx HN hC1 hC2 hwr;generalize smAll a[k].kids b[k].kids=y at *;generalize a[k].kids.length=kn1 at *;generalize b[k].kids.length=kn2 at *;generalize a[k].kind=z1 at *;generalize b[k].kind=z2 at *;generalize a[k].s=s1 at *;generalize b[k].s=s2 at *;by_cases hz:z1=z2
         · have e1:(z1 != z2)=false:=by simp [hz]
           by_cases hs:s1=s2
           · have e2:((S s1).toList == (S s2).toList)=true:=by rw [hs];simp
             have e2':((S s1).toList != (S s2).toList)=false:=by rw [hs];simp
             have HQ2:Hid (X=(y && smAll (a.drop (k+1)) (b.drop (k+1)))):=Lib.hid (by rw [HQ.out,decide_eq_true hz,decide_eq_true hs];simp);clear HQ hz hs hs1 hs2;generalize S s1=t1 at *;generalize S s2=t2 at *;go_wp2_with fail;go_quiet (first | (go_at_call 24;refine Calls.quiet_of (calls_at (args:=#[.slice ak1 kn1 ck1,.slice ak2 kn2 ck2]) rfl (HC.out _) (fun _ _ h=>h))));cases y with
             | true =>
               have HR:Hid (X=smAll (a.drop (k+1)) (b.drop (k+1))):=Lib.hid (by rw [HQ2.out];rfl);go_wp2_with fail;go_roundw
               case rel=>exact ⟨k+1,n+nq,by omega,by go_num,by rw [HW.out,World.drewN_drewN],HR⟩
               case measure=>simp [intOf] <;> omega
             | false =>
               have HR:Hid (X=false):=Lib.hid (by rw [HQ2.out];rfl);go_wp2_with fail;go_ret;exact ⟨ret_bool HR.out.symm,n+nq,by rw [HW.out,World.drewN_drewN]⟩
           · have e2:((S s1).toList == (S s2).toList)=false:=by rw [hs1,hs2];simpa using hs
             have e2':((S s1).toList != (S s2).toList)=true:=by rw [hs1,hs2];simpa using hs
             have HR:Hid (X=false):=Lib.hid (by rw [HQ.out,decide_eq_false hs];simp);clear HQ hz hs HC hs1 hs2;generalize S s1=t1 at *;generalize S s2=t2 at *;go_wp2_with fail;go_quiet (fail);go_wp2_with fail;go_ret;exact ⟨ret_bool HR.out.symm,n+nq,by rw [HW.out,World.drewN_drewN]⟩
         · have e1:(z1 != z2)=true:=by rw [bne_iff_ne];exact hz
           have HR:Hid (X=false):=Lib.hid (by rw [HQ.out,decide_eq_false hz];simp);clear HQ hz HC hs1 hs2;generalize S s1=t1 at *;generalize S s2=t2 at *;go_wp2_with fail;go_quiet (fail);go_wp2_with fail;go_ret;exact ⟨ret_bool HR.out.symm,n+nq,by rw [HW.out,World.drewN_drewN]⟩
       · obtain rfl:k=a.length:=by omega
         have hnx:=HN.out;rw [List.drop_length,List.drop_eq_nil_of_le (by omega)] at hnx;have HR:Hid (X=true):=Lib.hid (by rw [hnx];unfold smAll;rfl);clear hnx HN hlt hwr;go_wp2_with fail;go_ret;exact ⟨ret_bool HR.out.symm,n,HW.out⟩
   · have e0:((a.length:Int) != (b.length:Int))=true:=by simp;omega
     have HR:=Lib.hid (smAll_len a b hl);clear ih ta tb hm hl FA FB;go_enter Tryz.func24,Tryz.ntmps24;go_wp2_with fail;go_ret;exact ⟨ret_bool HR.out.symm,0,rfl⟩
end Sp
namespace Sp
open Go.RowKit
theorem tr_nil (w:World):Tr w (.slice none 0 0) []:=⟨none,0,rfl,⟨Nat.le_refl _,by omega⟩,Or.inl rfl⟩
end Sp
end Go.Proofs.YtpakjdgddomdjabGreatDoor
