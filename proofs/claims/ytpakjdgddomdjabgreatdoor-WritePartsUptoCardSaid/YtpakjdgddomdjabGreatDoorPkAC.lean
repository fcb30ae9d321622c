import Derived.Test.YtpakjdgddomdjabGreatDoorPkU
import Derived.Test.YtpakjdgddomdjabGreatDoorPkV
import Derived.Test.YtpakjdgddomdjabGreatDoorPkE
import Derived.Deep.Cut
import Derived.Deep.CutRange
import Derived.Deep.CutBlock
set_option linter.unusedVariables false
namespace Go.Proofs.YtpakjdgddomdjabGreatDoor
namespace Bt
open Go.RowKit
open Tk (S S_list S_size S_toList Rd)
open Cm (alloc_new cell_at)
open Sp (Sp Tr hsB rtB plAll dsB ret_bool OkAns isEmpty_len rright_any rplain_any dest_any)
open Bk (Bk)
mutual
def oneB (list:Bool):Bk→Bool
 |.mk k lv i ls ss l=>(decide (k=7)==list)&&(
  if k=1 then(lv==0)&&i.isEmpty&&ls.isEmpty&&l.isEmpty&&!ss.isEmpty&&rtB ss
  else if k=2 then i.isEmpty&&ls.isEmpty&&l.isEmpty&&decide (lv≥1)&&decide (lv≤6)&&rtB ss&&!hsB 10 (plAll ss)
  else if k=3 then(lv==0)&&i.isEmpty&&ls.isEmpty&&ss.isEmpty&&l.isEmpty
  else if k=4 then ls.all lineB&&((lv==0)&&ss.isEmpty&&l.isEmpty&&infB i)
  else if k=5 then(lv==0)&&i.isEmpty&&ls.isEmpty&&ss.isEmpty&&allB false 0 l
  else if k=7 then(lv==0)&&i.isEmpty&&ls.isEmpty&&ss.isEmpty&&allB false 0 l
  else if k=6 then(lv==0)&&i.isEmpty&&ls.isEmpty&&ss.isEmpty&&!l.isEmpty&&allB true 0 l
  else if k=8 then(lv==0)&&ss.isEmpty&&l.isEmpty&&labB i&&decide (ls.length=1)&&dsB (ls.headD [])
  else false)
def allB (list:Bool) (p:Int):List Bk→Bool
 |[]=>true
 |x::r=>oneB list x&&!(decide (p=6)&&decide (x.kind=6))&&allB list x.kind r
end
theorem allB_cons (list:Bool) (p:Int) (x:Bk) (r:List Bk):allB list p (x::r)=(oneB list x&&!(decide (p=6)&&decide (x.kind=6))&&allB list x.kind r):=by rw[allB]
set_option maxHeartbeats 12800000 in
set_option maxRecDepth 100000 in
theorem oneB_of (x:Bk) (list:Bool) (al as' ak:Option Addr) (cl cs ck:Nat) (w:World) (hf:fitOne 140737488355328 x) (ht:Sp.totAll x.spans≤9000000) (hrd:Rd w (.slice al x.lines.length cl) x.lines) (hsh:x.lines.length≤9223372036854775807) (hsp:Tr w (.slice as' x.spans.length cs) x.spans)
  (IH:∀(b:Bool) (w':World),Below w.heap.size w w'→Calls Tryz.prog 18 #[.slice ak x.kids.length ck,.bool b] w' (OkAns w' (allB b 0 x.kids))):
  Calls Tryz.prog 34 #[.agg #[.int .i64 x.kind,.int .i64 x.level,.string (S x.info),.slice al x.lines.length cl,.slice as' x.spans.length cs,.slice ak x.kids.length ck],.bool list] w (OkAns w (oneB list x)):=by
 have HA:=Lib.hid (IH false);have HA':=Lib.hid (IH true);obtain⟨q,lv,i,ls,ss,l⟩:=x;simp only[Bk.kind,Bk.level,Bk.info,Bk.lines,Bk.spans,Bk.kids]at HA HA' hrd hsh hsp ht ⊢;have hf':=hf;rw[fitOne]at hf';obtain⟨_,hlv,hi,hls,hss,_⟩:=hf'
 have HX:Hid (oneB list (.mk q lv i ls ss l)=((decide (q=7)==list)&&(
  if q=1 then(lv==0)&&i.isEmpty&&ls.isEmpty&&l.isEmpty&&!ss.isEmpty&&rtB ss
  else if q=2 then i.isEmpty&&ls.isEmpty&&l.isEmpty&&decide (lv≥1)&&decide (lv≤6)&&rtB ss&&!hsB 10 (plAll ss)
  else if q=3 then(lv==0)&&i.isEmpty&&ls.isEmpty&&ss.isEmpty&&l.isEmpty
  else if q=4 then ls.all lineB&&((lv==0)&&ss.isEmpty&&l.isEmpty&&infB i)
  else if q=5 then(lv==0)&&i.isEmpty&&ls.isEmpty&&ss.isEmpty&&allB false 0 l
  else if q=7 then(lv==0)&&i.isEmpty&&ls.isEmpty&&ss.isEmpty&&allB false 0 l
  else if q=6 then(lv==0)&&i.isEmpty&&ls.isEmpty&&ss.isEmpty&&!l.isEmpty&&allB true 0 l
  else if q=8 then(lv==0)&&ss.isEmpty&&l.isEmpty&&labB i&&decide (ls.length=1)&&dsB (ls.headD [])
  else false))):=Lib.hid (by rw[oneB])
 have hsz:(S i).size≤140737488355328:=by rw[S_size];exact hi
 have HR:=Lib.hid (fun w' (h:Below w.heap.size w w')=>rright_any ss _ w' hss (hsp.below h));have HP:=Lib.hid (fun w' (h:Below w.heap.size w w')=>rplain_any (Sp.totAll ss) ss _ w' (Nat.le_refl _) ht (hsp.below h));have hpl:(S (plAll ss)).size≤140737488355328:=by rw[S_size];have:=Sp.plAll_len ss;omega
 have H10:=Lib.hid (fun w'=>has_any (S (plAll ss)) 10 hpl w');have HL:=Lib.hid (fun w'=>label_any (S i) hsz w');have HI:=Lib.hid (fun w'=>info_any (S i) hsz w');have HLn:=Lib.hid (fun k (hk:k<ls.length) w'=>line_any (S ls[k]) (by rw[S_size];exact hls _ (List.getElem_mem hk)) w');have HD:=Lib.hid (fun(hk:0<ls.length) w'=>dest_any (S ls[0]) (by rw[S_size];exact hls _ (List.getElem_mem hk)) w');have HRd:=Lib.hid (fun w' (h:Below w.heap.size w w')=>Rd.at (hrd.below h));simp only[S_list]at H10 HL HI HLn HD;have em1:(S i).toList.isEmpty=i.isEmpty:=by rw[S_toList]
 have em2:((S i).toList==([]:List UInt8))=i.isEmpty:=by rw[S_toList];cases i<;>rfl
 have g3:=isEmpty_len ls;have g4:=isEmpty_len ss;have g5:=isEmpty_len l;have HX8:Hid (dsB (ls.headD [])=if h:0<ls.length then dsB ls[0]else dsB []):=Lib.hid (by cases ls<;>rfl);have H4:Hid (ls.all lineB=(ls.drop 0).all lineB):=Lib.hid (by rw[List.drop_zero]);obtain⟨X,hX⟩:∃X,oneB list (.mk q lv i ls ss l)=X:=⟨_,rfl⟩;rw[hX]at HX ⊢;obtain⟨L4,hL4⟩:∃L4,ls.all lineB=L4:=⟨_,rfl⟩;rw[hL4]at HX H4;clear IH hX hf hrd hsp ht hss hi hls hsz hpl hL4;generalize rtB ss=rt at *;generalize hsB 10 (plAll ss)=t10 at *;generalize labB i=lb at *;generalize infB i=nf at *;generalize allB false 0 l=y0 at *;generalize allB true 0 l=y1 at *;generalize i.isEmpty=n2 at *;obtain⟨n3,hn3⟩:∃b,ls.isEmpty=b:=⟨_,rfl⟩;rw[hn3]at HX g3;clear hn3;generalize ss.isEmpty=n4 at *;generalize l.isEmpty=n5 at *;generalize S (plAll ss)=ps at *;generalize l.length=kn at *;generalize ss.length=sn at *;generalize S i=si at *;obtain⟨n1,hn1⟩:∃b,(lv==0)=b:=⟨_,rfl⟩;rw[hn1]at HX;go_enter Tryz.func34,Tryz.ntmps34;go_upto_region 1 with fail;have HC1:=Lib.hid (alloc_new w (.cells #[.int .i64 q,.int .i64 lv,.string si,.slice al ls.length cl,.slice as' sn cs,.slice ak kn ck] 40));have HB1:=Lib.hid ((Below.refl w.heap.size w).alloc (Nat.le_refl _) (.cells #[.int .i64 q,.int .i64 lv,.string si,.slice al ls.length cl,.slice as' sn cs,.slice ak kn ck] 40));have hlt1:w.heap.size<(w.alloc (.cells #[.int .i64 q,.int .i64 lv,.string si,.slice al ls.length cl,.slice as' sn cs,.slice ak kn ck] 40)).heap.size:=by simp
 generalize w.alloc (.cells #[.int .i64 q,.int .i64 lv,.string si,.slice al ls.length cl,.slice as' sn cs,.slice ak kn ck] 40)=w1 at *;have k0:w1.cell? ⟨w.heap.size,0,none⟩=some (.int .i64 q):=cell_at HC1.out 0;have k1:w1.cell? ⟨w.heap.size,1,none⟩=some (.int .i64 lv):=cell_at HC1.out 1;have k2:w1.cell? ⟨w.heap.size,2,none⟩=some (.string si):=cell_at HC1.out 2;have k3:w1.cell? ⟨w.heap.size,3,none⟩=some (.slice al ls.length cl):=cell_at HC1.out 3;have k4:w1.cell? ⟨w.heap.size,4,none⟩=some (.slice as' sn cs):=cell_at HC1.out 4;have k5:w1.cell? ⟨w.heap.size,5,none⟩=some (.slice ak kn ck):=cell_at HC1.out 5;have HK4:=Lib.hid (fun w' (h:Below w1.heap.size w1 w')=>(h.cell (p:=⟨w.heap.size,4,none⟩) (by exact hlt1)).trans k4);clear HC1;by_cases q7:q=7
 ·have f7:(q==7)=true:=by rw[q7];rfl
  rw[decide_eq_true q7]at HX;cases list with
  |false=>
   have HR0:Hid (X=false):=Lib.hid (by rw[HX.out];simp);clear HX;go_wp2_with fail;go_ret;exact⟨ret_bool HR0.out.symm,HB1.out⟩
  |true=>
   have HX7:Hid (X=(n1&&n2&&n3&&n4&&y0)):=Lib.hid (by rw[HX.out,q7];simp);clear HX;have f1:(q==1)=false:=beq_eq_false_iff_ne.2 (by omega);have f2:(q==2)=false:=beq_eq_false_iff_ne.2 (by omega);have f3:(q==3)=false:=beq_eq_false_iff_ne.2 (by omega);have f4:(q==4)=false:=beq_eq_false_iff_ne.2 (by omega);have f5:(q==5)=false:=beq_eq_false_iff_ne.2 (by omega);have f6:(q==6)=false:=beq_eq_false_iff_ne.2 (by omega);have f8:(q==8)=false:=beq_eq_false_iff_ne.2 (by omega);go_wp2_with fail;go_quiet (fail);have HB2:=Lib.hid (below_drewN HB1.out nq);have HD2:=Lib.hid (below_drewN (Below.refl w1.heap.size w1) nq);cases n1 with
   |false=>
    go_wp2_with fail;go_ret;exact⟨ret_bool (by rw[HX7.out];simp),HB2.out⟩
   |true=>
    cases n2 with
    |false=>
     go_wp2_with fail;go_ret;exact⟨ret_bool (by rw[HX7.out];simp),HB2.out⟩
    |true=>
     cases n3 with
     |false=>
      go_wp2_with fail;go_ret;exact⟨ret_bool (by rw[HX7.out];simp),HB2.out⟩
     |true=>
      cases n4 with
      |false=>
       go_wp2_with fail;go_ret;exact⟨ret_bool (by rw[HX7.out];simp),HB2.out⟩
      |true=>
       go_wp2_with fail;refine(HA.out _ HB2.out).mono ?_;rintro e w9 ⟨rfl,b9⟩;have HB2':=Lib.hid (HB2.out.trans (b9.mono HB2.out.size));go_wp2_with fail;go_ret;exact⟨ret_bool (by rw[HX7.out];simp),HB2'.out⟩
 ·have f7:(q==7)=false:=beq_eq_false_iff_ne.2 q7
  rw[decide_eq_false q7]at HX;cases list with
  |true=>
   have HR0:Hid (X=false):=Lib.hid (by rw[HX.out];simp);clear HX;go_wp2_with fail;go_ret;exact⟨ret_bool HR0.out.symm,HB1.out⟩
  |false=>
   by_cases q1:q=1
   ·have HXk:Hid (X=(n1&&n2&&n3&&n5&&!n4&&rt)):=Lib.hid (by rw[HX.out,q1];simp)
    clear HX;have f1:(q==1)=true:=by rw[q1];rfl
    have f2:(q==2)=false:=beq_eq_false_iff_ne.2 (by omega);have f3:(q==3)=false:=beq_eq_false_iff_ne.2 (by omega);have f4:(q==4)=false:=beq_eq_false_iff_ne.2 (by omega);have f5:(q==5)=false:=beq_eq_false_iff_ne.2 (by omega);have f6:(q==6)=false:=beq_eq_false_iff_ne.2 (by omega);have f8:(q==8)=false:=beq_eq_false_iff_ne.2 (by omega);go_wp2_with fail;go_quiet (fail);have HB2:=Lib.hid (below_drewN HB1.out nq);have HD2:=Lib.hid (below_drewN (Below.refl w1.heap.size w1) nq);cases n1 with
    |false=>
     go_wp2_with fail;go_ret;exact⟨ret_bool (by rw[HXk.out];simp),HB2.out⟩
    |true=>
     cases n2 with
     |false=>
      go_wp2_with fail;go_ret;exact⟨ret_bool (by rw[HXk.out];simp),HB2.out⟩
     |true=>
      cases n3 with
      |false=>
       go_wp2_with fail;go_ret;exact⟨ret_bool (by rw[HXk.out];simp),HB2.out⟩
      |true=>
       cases n5 with
       |false=>
        go_wp2_with fail;go_ret;exact⟨ret_bool (by rw[HXk.out];simp),HB2.out⟩
       |true=>
        cases n4 with
        |false=>
         go_wp2_with fail;refine(HR.out _ HB2.out).mono ?_;rintro e w9 ⟨rfl,b9⟩;have HB2':=Lib.hid (HB2.out.trans (b9.mono HB2.out.size));go_wp2_with fail;go_ret;exact⟨ret_bool (by rw[HXk.out];simp),HB2'.out⟩
        |true=>
         go_wp2_with fail;go_ret;exact⟨ret_bool (by rw[HXk.out];simp),HB2.out⟩
   ·
    by_cases q2:q=2
    ·obtain⟨c1,hc1⟩:∃b,decide (lv≥1)=b:=⟨_,rfl⟩
     have hc1':decide (1≤lv)=c1:=hc1;obtain⟨c6,hc6⟩:∃b,decide (lv≤6)=b:=⟨_,rfl⟩;rw[hc1,hc6]at HX;have HXk:Hid (X=(n2&&n3&&n5&&c1&&c6&&rt&&!t10)):=Lib.hid (by rw[HX.out,q2];simp);clear HX;have f1:(q==1)=false:=beq_eq_false_iff_ne.2 (by omega);have f2:(q==2)=true:=by rw[q2];rfl
     have f3:(q==3)=false:=beq_eq_false_iff_ne.2 (by omega);have f4:(q==4)=false:=beq_eq_false_iff_ne.2 (by omega);have f5:(q==5)=false:=beq_eq_false_iff_ne.2 (by omega);have f6:(q==6)=false:=beq_eq_false_iff_ne.2 (by omega);have f8:(q==8)=false:=beq_eq_false_iff_ne.2 (by omega);go_wp2_with fail;go_quiet (fail);have HB2:=Lib.hid (below_drewN HB1.out nq);have HD2:=Lib.hid (below_drewN (Below.refl w1.heap.size w1) nq);cases n2 with
     |false=>
      go_wp2_with fail;go_ret;exact⟨ret_bool (by rw[HXk.out];simp),HB2.out⟩
     |true=>
      cases n3 with
      |false=>
       go_wp2_with fail;go_ret;exact⟨ret_bool (by rw[HXk.out];simp),HB2.out⟩
      |true=>
       cases n5 with
       |false=>
        go_wp2_with fail;go_ret;exact⟨ret_bool (by rw[HXk.out];simp),HB2.out⟩
       |true=>
        cases c1 with
        |false=>
         go_wp2_with fail;go_ret;exact⟨ret_bool (by rw[HXk.out];simp),HB2.out⟩
        |true=>
         cases c6 with
         |false=>
          go_wp2_with fail;go_ret;exact⟨ret_bool (by rw[HXk.out];simp),HB2.out⟩
         |true=>
          go_wp2_with fail;refine(HR.out _ HB2.out).mono ?_;rintro e w9 ⟨rfl,b9⟩;have HB2':=Lib.hid (HB2.out.trans (b9.mono HB2.out.size));have k4':=HK4.out _ (HD2.out.trans (b9.mono HD2.out.size));cases rt with
          |false=>
           go_wp2_with fail;go_ret;exact⟨ret_bool (by rw[HXk.out];simp),HB2'.out⟩
          |true=>
           go_wp2_with fail;refine(HP.out _ HB2'.out).mono ?_;rintro e w9 ⟨rfl,rfl⟩;go_wp2_with fail;refine(H10.out _).mono ?_;rintro e w9 ⟨rfl,rfl⟩;go_wp2_with fail;go_ret;exact⟨ret_bool (by rw[HXk.out];simp),HB2'.out⟩
    ·
     by_cases q3:q=3
     ·have HXk:Hid (X=(n1&&n2&&n3&&n4&&n5)):=Lib.hid (by rw[HX.out,q3];simp)
      clear HX;have f1:(q==1)=false:=beq_eq_false_iff_ne.2 (by omega);have f2:(q==2)=false:=beq_eq_false_iff_ne.2 (by omega);have f3:(q==3)=true:=by rw[q3];rfl
      have f4:(q==4)=false:=beq_eq_false_iff_ne.2 (by omega);have f5:(q==5)=false:=beq_eq_false_iff_ne.2 (by omega);have f6:(q==6)=false:=beq_eq_false_iff_ne.2 (by omega);have f8:(q==8)=false:=beq_eq_false_iff_ne.2 (by omega);go_wp2_with fail;go_quiet (fail);have HB2:=Lib.hid (below_drewN HB1.out nq);have HD2:=Lib.hid (below_drewN (Below.refl w1.heap.size w1) nq);cases n1 with
      |false=>
       go_wp2_with fail;go_ret;exact⟨ret_bool (by rw[HXk.out];simp),HB2.out⟩
      |true=>
       cases n2 with
       |false=>
        go_wp2_with fail;go_ret;exact⟨ret_bool (by rw[HXk.out];simp),HB2.out⟩
       |true=>
        cases n3 with
        |false=>
         go_wp2_with fail;go_ret;exact⟨ret_bool (by rw[HXk.out];simp),HB2.out⟩
        |true=>
         cases n4 with
         |false=>
          go_wp2_with fail;go_ret;exact⟨ret_bool (by rw[HXk.out];simp),HB2.out⟩
         |true=>
          cases n5 with
          |false=>
           go_wp2_with fail;go_ret;exact⟨ret_bool (by rw[HXk.out];simp),HB2.out⟩
          |true=>
           go_wp2_with fail;go_ret;exact⟨ret_bool (by rw[HXk.out];simp),HB2.out⟩
     ·
      by_cases q4:q=4
      ·have HXk:Hid (X=(L4&&(n1&&n4&&n5&&nf))):=Lib.hid (by rw[HX.out,q4];simp)
       clear HX;have f1:(q==1)=false:=beq_eq_false_iff_ne.2 (by omega);have f2:(q==2)=false:=beq_eq_false_iff_ne.2 (by omega);have f3:(q==3)=false:=beq_eq_false_iff_ne.2 (by omega);have f4:(q==4)=true:=by rw[q4];rfl
       have f5:(q==5)=false:=beq_eq_false_iff_ne.2 (by omega);have f6:(q==6)=false:=beq_eq_false_iff_ne.2 (by omega);have f8:(q==8)=false:=beq_eq_false_iff_ne.2 (by omega);go_wp2_with fail;go_quiet (fail);have HB2:=Lib.hid (below_drewN HB1.out nq);have HD2:=Lib.hid (below_drewN (Below.refl w1.heap.size w1) nq);have HRl:=Lib.hid (HRd.out _ HB2.out);have k0':(w1.drewN nq).cell? ⟨w.heap.size,0,none⟩=some (.int .i64 q):=(HD2.out.cell (by exact hlt1)).trans k0;have k3':(w1.drewN nq).cell? ⟨w.heap.size,3,none⟩=some (.slice al ls.length cl):=(HD2.out.cell (by exact hlt1)).trans k3;have k2':(w1.drewN nq).cell? ⟨w.heap.size,2,none⟩=some (.string si):=(HD2.out.cell (by exact hlt1)).trans k2;generalize w1.drewN nq=w2 at *;clear q4 HX8 HP HR HL HD H10 HA HA' HRd k0 k1 k2 k3 k4 k5 HK4 HB1 HD2;go_wp2_with fail;go_loop [108] (fun i=>∃j:Nat,j≤ls.length∧i=.int .i64 j∧Hid (L4=(ls.drop j).all lineB)) (fun i=>ls.length-(intOf i).toNat)
       case atStart=>exact⟨0,Nat.zero_le _,rfl,H4⟩
       case round=>
        clear H4;obtain⟨j,hj,rfl,HN⟩:=hrel;by_cases hlt:j<ls.length
        ·have hnx:=HN.out
         rw[List.drop_eq_getElem_cons hlt,List.all_cons]at hnx;have hj1:(j:Int)<(ls.length:Int):=by omega
         obtain⟨bl,ol,rfl,kl⟩:=HRl.out j hlt;have HC:=Lib.hid (HLn.out j hlt w2);have HQ:=Lib.hid hnx;clear hnx HN;generalize lineB ls[j]=y at *;generalize S ls[j]=sj at *;go_wp2_with fail;refine HC.out.mono ?_;rintro e w9 ⟨rfl,rfl⟩;clear HC;cases y with
         |false=>
          have HR0:Hid (X=false):=Lib.hid (by rw[HXk.out,HQ.out];simp);go_wp2_with fail;go_ret;exact⟨ret_bool HR0.out.symm,HB2.out⟩
         |true=>
          have HR0:Hid (L4=(ls.drop (j+1)).all lineB):=Lib.hid (by rw[HQ.out];simp);go_wp2_with fail;go_round
          case rel=>exact⟨j+1,by omega,by go_num,HR0⟩
          case measure=>simp[intOf];omega
        ·obtain rfl:j=ls.length:=by omega
         have hnx:=HN.out;rw[List.drop_length]at hnx;have HXl:Hid (X=(n1&&n4&&n5&&nf)):=Lib.hid (by rw[HXk.out,hnx];simp);clear hnx HN hlt;cases n1 with
         |false=>
          go_wp2_with fail;go_ret;exact⟨ret_bool (by rw[HXl.out];simp),HB2.out⟩
         |true=>
          cases n4 with
          |false=>
           go_wp2_with fail;go_ret;exact⟨ret_bool (by rw[HXl.out];simp),HB2.out⟩
          |true=>
           cases n5 with
           |false=>
            go_wp2_with fail;go_ret;exact⟨ret_bool (by rw[HXl.out];simp),HB2.out⟩
           |true=>
            go_wp2_with fail;refine(HI.out _).mono ?_;rintro e w9 ⟨rfl,rfl⟩;go_wp2_with fail;go_ret;exact⟨ret_bool (by rw[HXl.out];simp),HB2.out⟩
      ·
       by_cases q5:q=5
       ·have HXk:Hid (X=(n1&&n2&&n3&&n4&&y0)):=Lib.hid (by rw[HX.out,q5];simp)
        clear HX;have f1:(q==1)=false:=beq_eq_false_iff_ne.2 (by omega);have f2:(q==2)=false:=beq_eq_false_iff_ne.2 (by omega);have f3:(q==3)=false:=beq_eq_false_iff_ne.2 (by omega);have f4:(q==4)=false:=beq_eq_false_iff_ne.2 (by omega);have f5:(q==5)=true:=by rw[q5];rfl
        have f6:(q==6)=false:=beq_eq_false_iff_ne.2 (by omega);have f8:(q==8)=false:=beq_eq_false_iff_ne.2 (by omega);go_wp2_with fail;go_quiet (fail);have HB2:=Lib.hid (below_drewN HB1.out nq);have HD2:=Lib.hid (below_drewN (Below.refl w1.heap.size w1) nq);cases n1 with
        |false=>
         go_wp2_with fail;go_ret;exact⟨ret_bool (by rw[HXk.out];simp),HB2.out⟩
        |true=>
         cases n2 with
         |false=>
          go_wp2_with fail;go_ret;exact⟨ret_bool (by rw[HXk.out];simp),HB2.out⟩
         |true=>
          cases n3 with
          |false=>
           go_wp2_with fail;go_ret;exact⟨ret_bool (by rw[HXk.out];simp),HB2.out⟩
          |true=>
           cases n4 with
           |false=>
            go_wp2_with fail;go_ret;exact⟨ret_bool (by rw[HXk.out];simp),HB2.out⟩
           |true=>
            go_wp2_with fail;refine(HA.out _ HB2.out).mono ?_;rintro e w9 ⟨rfl,b9⟩;have HB2':=Lib.hid (HB2.out.trans (b9.mono HB2.out.size));go_wp2_with fail;go_ret;exact⟨ret_bool (by rw[HXk.out];simp),HB2'.out⟩
       ·
        by_cases q6:q=6
        ·have HXk:Hid (X=(n1&&n2&&n3&&n4&&!n5&&y1)):=Lib.hid (by rw[HX.out,q6];simp)
         clear HX;have f1:(q==1)=false:=beq_eq_false_iff_ne.2 (by omega);have f2:(q==2)=false:=beq_eq_false_iff_ne.2 (by omega);have f3:(q==3)=false:=beq_eq_false_iff_ne.2 (by omega);have f4:(q==4)=false:=beq_eq_false_iff_ne.2 (by omega);have f5:(q==5)=false:=beq_eq_false_iff_ne.2 (by omega);have f6:(q==6)=true:=by rw[q6];rfl
         have f8:(q==8)=false:=beq_eq_false_iff_ne.2 (by omega);go_wp2_with fail;go_quiet (fail);have HB2:=Lib.hid (below_drewN HB1.out nq);have HD2:=Lib.hid (below_drewN (Below.refl w1.heap.size w1) nq);cases n1 with
         |false=>
          go_wp2_with fail;go_ret;exact⟨ret_bool (by rw[HXk.out];simp),HB2.out⟩
         |true=>
          cases n2 with
          |false=>
           go_wp2_with fail;go_ret;exact⟨ret_bool (by rw[HXk.out];simp),HB2.out⟩
          |true=>
           cases n3 with
           |false=>
            go_wp2_with fail;go_ret;exact⟨ret_bool (by rw[HXk.out];simp),HB2.out⟩
           |true=>
            cases n4 with
            |false=>
             go_wp2_with fail;go_ret;exact⟨ret_bool (by rw[HXk.out];simp),HB2.out⟩
            |true=>
             cases n5 with
             |false=>
              go_wp2_with fail;refine(HA'.out _ HB2.out).mono ?_;rintro e w9 ⟨rfl,b9⟩;have HB2':=Lib.hid (HB2.out.trans (b9.mono HB2.out.size));go_wp2_with fail;go_ret;exact⟨ret_bool (by rw[HXk.out];simp),HB2'.out⟩
             |true=>
              go_wp2_with fail;go_ret;exact⟨ret_bool (by rw[HXk.out];simp),HB2.out⟩
        ·
         by_cases q8:q=8
         ·have HXk:Hid (X=(n1&&n4&&n5&&lb&&decide (ls.length=1)&&dsB (ls.headD []))):=Lib.hid (by rw[HX.out,q8];simp)
          clear HX;have f1:(q==1)=false:=beq_eq_false_iff_ne.2 (by omega);have f2:(q==2)=false:=beq_eq_false_iff_ne.2 (by omega);have f3:(q==3)=false:=beq_eq_false_iff_ne.2 (by omega);have f4:(q==4)=false:=beq_eq_false_iff_ne.2 (by omega);have f5:(q==5)=false:=beq_eq_false_iff_ne.2 (by omega);have f6:(q==6)=false:=beq_eq_false_iff_ne.2 (by omega);have f8:(q==8)=true:=by rw[q8];rfl
          go_wp2_with fail;go_quiet (fail);have HB2:=Lib.hid (below_drewN HB1.out nq);have HD2:=Lib.hid (below_drewN (Below.refl w1.heap.size w1) nq);have HRl:=Lib.hid (HRd.out _ HB2.out);have k0':(w1.drewN nq).cell? ⟨w.heap.size,0,none⟩=some (.int .i64 q):=(HD2.out.cell (by exact hlt1)).trans k0;have k3':(w1.drewN nq).cell? ⟨w.heap.size,3,none⟩=some (.slice al ls.length cl):=(HD2.out.cell (by exact hlt1)).trans k3;have k2':(w1.drewN nq).cell? ⟨w.heap.size,2,none⟩=some (.string si):=(HD2.out.cell (by exact hlt1)).trans k2;generalize w1.drewN nq=w2 at *;by_cases h1:ls.length=1
          ·have HXl:Hid (X=(n1&&n4&&n5&&lb&&dsB (ls[0]'(by omega)))):=Lib.hid (by rw[HXk.out,decide_eq_true h1,HX8.out,dif_pos (by omega)];simp)
           have e1:((ls.length:Int)==1)=true:=by rw[h1];rfl
           have hp:(0:Int)<(ls.length:Int):=by omega
           obtain⟨bl,ol,rfl,kl⟩:=HRl.out 0 (by omega);rw[Nat.add_zero]at kl;have HDd:=Lib.hid (HD.out (by omega) w2);generalize dsB (ls[0]'(by omega))=dd at *;generalize S (ls[0]'(by omega))=sd at *;clear HXk HX8 HD h1 HRl;cases n1 with
           |false=>
            go_wp2_with fail;go_ret;exact⟨ret_bool (by rw[HXl.out];simp),HB2.out⟩
           |true=>
            cases n4 with
            |false=>
             go_wp2_with fail;go_ret;exact⟨ret_bool (by rw[HXl.out];simp),HB2.out⟩
            |true=>
             cases n5 with
             |false=>
              go_wp2_with fail;go_ret;exact⟨ret_bool (by rw[HXl.out];simp),HB2.out⟩
             |true=>
              go_wp2_with fail;refine(HL.out _).mono ?_;rintro e w9 ⟨rfl,rfl⟩;cases lb with
              |false=>
               go_wp2_with fail;go_ret;exact⟨ret_bool (by rw[HXl.out];simp),HB2.out⟩
              |true=>
               go_wp2_with fail;refine(HDd.out).mono ?_;rintro e w9 ⟨rfl,rfl⟩;go_wp2_with fail;go_ret;exact⟨ret_bool (by rw[HXl.out];simp),HB2.out⟩
          ·have HXl:Hid (X=(n1&&n4&&n5&&lb&&false)):=Lib.hid (by rw[HXk.out,decide_eq_false h1];simp)
           have e1:((ls.length:Int)==1)=false:=beq_eq_false_iff_ne.2 (by omega);clear HXk HX8 HD h1 HRl;cases n1 with
           |false=>
            go_wp2_with fail;go_ret;exact⟨ret_bool (by rw[HXl.out];simp),HB2.out⟩
           |true=>
            cases n4 with
            |false=>
             go_wp2_with fail;go_ret;exact⟨ret_bool (by rw[HXl.out];simp),HB2.out⟩
            |true=>
             cases n5 with
             |false=>
              go_wp2_with fail;go_ret;exact⟨ret_bool (by rw[HXl.out];simp),HB2.out⟩
             |true=>
              go_wp2_with fail;refine(HL.out _).mono ?_;rintro e w9 ⟨rfl,rfl⟩;cases lb with
              |false=>
               go_wp2_with fail;go_ret;exact⟨ret_bool (by rw[HXl.out];simp),HB2.out⟩
              |true=>
               go_wp2_with fail;go_ret;exact⟨ret_bool (by rw[HXl.out];simp),HB2.out⟩
         ·have HXk:Hid (X=false):=Lib.hid (by rw[HX.out,if_neg q1,if_neg q2,if_neg q3,if_neg q4,if_neg q5,if_neg q7,if_neg q6,if_neg q8];simp)
          clear HX;have f1:(q==1)=false:=beq_eq_false_iff_ne.2 (by omega);have f2:(q==2)=false:=beq_eq_false_iff_ne.2 (by omega);have f3:(q==3)=false:=beq_eq_false_iff_ne.2 (by omega);have f4:(q==4)=false:=beq_eq_false_iff_ne.2 (by omega);have f5:(q==5)=false:=beq_eq_false_iff_ne.2 (by omega);have f6:(q==6)=false:=beq_eq_false_iff_ne.2 (by omega);have f8:(q==8)=false:=beq_eq_false_iff_ne.2 (by omega);go_wp2_with fail;go_quiet (fail);have HB2:=Lib.hid (below_drewN HB1.out nq);have HD2:=Lib.hid (below_drewN (Below.refl w1.heap.size w1) nq);go_wp2_with fail;go_ret;exact⟨ret_bool HXk.out.symm,HB2.out⟩
end Bt
namespace Bt
open Go.RowKit
open Tk (S Rd)
open Sp (Tr ret_bool OkAns)
open Bk (Bk)
def pkAt (l:List Bk):Nat→Int
 |0=>0
 |j+1=>(l[j]?.map Bk.kind).getD 0
theorem pkAt_next (l:List Bk) (j:Nat) (h:j<l.length):pkAt l (j+1)=l[j].kind:=by
 show(l[j]?.map Bk.kind).getD 0=_;rw[List.getElem?_eq_getElem h];rfl
theorem ttAll_mem:∀{l:List Bk} {x:Bk},x∈l→ttOne x≤ttAll l
 |[],x,h=>by cases h
 |y::r,x,h=>by
  rw[ttAll_cons];rcases List.mem_cons.1 h with rfl |h
  ·omega
  ·have:=ttAll_mem h;omega
set_option maxHeartbeats 6400000 in
set_option maxRecDepth 100000 in
theorem rall_any (m:Nat):∀(l:List Bk) (ls:Bool) (v:Value) (w:World),szAll l≤m→fitAll 140737488355328 l→ttAll l≤9000000→TrB w v l→
  Calls Tryz.prog 18 #[v,.bool ls] w (OkAns w (allB ls 0 l)):=by
 induction m using Nat.strongRecOn with
 |ind m ih=>
  intro l ls v w hm hf htt ht;obtain⟨ao,ca,rfl⟩:=ht.len;have HT:=Lib.hid ht;have hlen:=ht.short
  have HO:Hid (∀j (hj:j<l.length) (al as' ak:Option Addr) (cl cs ck:Nat) (w':World),Rd w' (.slice al l[j].lines.length cl) l[j].lines→l[j].lines.length≤9223372036854775807→Tr w' (.slice as' l[j].spans.length cs) l[j].spans→TrB w' (.slice ak l[j].kids.length ck) l[j].kids→
    Calls Tryz.prog 34 #[.agg #[.int .i64 l[j].kind,.int .i64 l[j].level,.string (S l[j].info),.slice al l[j].lines.length cl,.slice as' l[j].spans.length cs,.slice ak l[j].kids.length ck],.bool ls] w' (OkAns w' (oneB ls l[j]))):=Lib.hid (fun j hj al as' ak cl cs ck w' hrd hsh hsp htk=>by
   have hfx:=fitAll_at hf l[j] (List.getElem_mem hj);have htx:=ttAll_mem (List.getElem_mem hj);rw[ttOne_eq]at htx;refine oneB_of l[j] ls al as' ak cl cs ck w' hfx (by omega) hrd hsh hsp (fun b w'' hb=>?_);exact ih (szAll l[j].kids) (Nat.lt_of_lt_of_le (szAll_kids (List.getElem_mem hj)) hm) l[j].kids b _ w'' (Nat.le_refl _) (fitOne_eq.1 hfx).2.2.2.2.2 (by omega) (htk.below hb))
  have H0:Hid (allB ls 0 l=allB ls (pkAt l 0) (l.drop 0)):=Lib.hid (by rw[List.drop_zero];rfl);obtain⟨X,hX⟩:∃X,allB ls 0 l=X:=⟨_,rfl⟩;rw[hX]at H0;rw[hX];clear ih ht hm hX hf htt;go_enter Tryz.func18,Tryz.ntmps18;go_wp2_with fail;go_loopw [8] (fun i wr=>∃j:Nat,j≤l.length∧i=.int .i64 j∧Hid (Below w.heap.size w wr)∧Hid (X=allB ls (pkAt l j) (l.drop j))) (fun i _=>l.length-(intOf i).toNat)
  case atStart=>exact⟨0,Nat.zero_le _,rfl,Lib.hid (Below.refl _ _),H0⟩
  case round=>
   clear H0;obtain⟨j,hj,rfl,HB,HN⟩:=hrel;by_cases hlt:j<l.length
   ·have hnx:=HN.out
    rw[drop_cons l j hlt,allB_cons]at hnx;have hi1:(j:Int)<(l.length:Int):=by omega
    obtain⟨b,o,vl,vs,ak,ck,rfl,hbl,hC⟩:=(HT.out.below HB.out).at j hlt;obtain⟨al,cl,rfl⟩:=hC.rd.len;obtain⟨as',cs,rfl⟩:=hC.sp.len;have c0:=hC.kind;have c1:=hC.level;have c2:=hC.info;have c3:=hC.lines;have c4:=hC.spans;have c5:=hC.kids;have HC:=Lib.hid (HO.out j hlt al as' ak cl cs ck wr hC.rd hC.short hC.sp hC.tr);have HK0:Hid (∀w',Below wr.heap.size wr w'→w'.cell? ⟨b,o+j*6,none⟩=some (.int .i64 l[j].kind)):=Lib.hid (fun w' h=>(h.cell (by exact hbl)).trans c0)
    have HKp:Hid (∀w',Below wr.heap.size wr w'→0<j→w'.cell? ⟨b,o+(j-1)*6,none⟩=some (.int .i64 (pkAt l j))):=Lib.hid (fun w' h h0=>by
     obtain⟨b',o',vl',vs',ak',ck',hao,_,hD⟩:=(HT.out.below (HB.out.trans (h.mono HB.out.size))).at (j-1) (by omega);simp only[Option.some.injEq,Addr.mk.injEq,and_true]at hao;obtain⟨rfl,rfl⟩:=hao;have e:=pkAt_next l (j-1) (by omega);rw[show j-1+1=j by omega]at e;rw[e];exact hD.kind)
    have hp0:j=0→pkAt l j=0:=fun h=>by rw[h];rfl
    have HQ:=Lib.hid hnx;obtain⟨q,hq⟩:∃q,l[j].kind=q:=⟨_,rfl⟩;obtain⟨p,hp⟩:∃p,pkAt l j=p:=⟨_,rfl⟩;have hq':pkAt l (j+1)=q:=by rw[pkAt_next l j hlt,hq]
    rw[hp]at hp0 HKp;rw[hq]at HC HK0 c0;rw[hp]at HQ;clear hnx HN hC hp HO;generalize l[j].lines.length=ln at *;generalize l[j].spans.length=sn at *;generalize l[j].kids.length=kn at *;generalize l[j].level=lv at *;generalize S l[j].info=si at *;generalize oneB ls l[j]=ok at *;rw[hq]at HQ;clear hq;go_wp2_with fail;refine HC.out.mono ?_;rintro e w5 ⟨rfl,b5⟩;have HB5:=Lib.hid (HB.out.trans (b5.mono HB.out.size));have k0:=HK0.out _ b5;have kp:=HKp.out _ b5;clear HC HK0 HKp b5 c0 c1 c2 c3 c4 c5;cases ok with
    |false=>
     have HR:Hid (X=false):=Lib.hid (by rw[HQ.out];simp);clear HQ;go_wp2_with fail;go_ret;exact⟨ret_bool HR.out.symm,HB5.out⟩
    |true=>
     by_cases hj0:j=0
     ·have HR:Hid (X=allB ls (pkAt l (j+1)) (l.drop (j+1))):=Lib.hid (by rw[HQ.out,hp0 hj0,hq'];simp)
      have g0:decide ((j:Int)>0)=false:=decide_eq_false (by omega);have g1:decide (0<(j:Int))=false:=decide_eq_false (by omega);have g2:decide (0<j)=false:=decide_eq_false (by omega);have g3:¬0<j:=by omega
      clear HQ hp0 hq' kp k0 hj0;go_wp2_with fail;go_roundw
      case rel=>exact⟨j+1,by omega,by go_num,HB5,HR⟩
      case measure=>simp[intOf]<;>omega
     ·have k1:=kp (by omega)
      have g0:decide ((j:Int)>0)=true:=decide_eq_true (by omega);have g1:decide (0<(j:Int))=true:=decide_eq_true (by omega);have g2:decide (0<j)=true:=decide_eq_true (by omega);have g3:0<j:=by omega
      have wj:IntKind.i64.wrap ((j:Int)-1)=((j-1:Nat):Int):=by rw[IntKind.wrap_i64];omega
      have wj1:((j-1:Nat):Int)<(l.length:Int):=by omega
      by_cases q6:q=6
      ·have f6:(q==6)=true:=by rw[q6];rfl
       by_cases p6:p=6
       ·have h6:(p==6)=true:=by rw[p6];rfl
        have HR:Hid (X=false):=Lib.hid (by rw[HQ.out,decide_eq_true p6,decide_eq_true q6];simp);clear HQ hp0 hq' kp hj0 q6 p6;go_wp2_with fail;go_ret;exact⟨ret_bool HR.out.symm,HB5.out⟩
       ·have h6:(p==6)=false:=beq_eq_false_iff_ne.2 p6
        have HR:Hid (X=allB ls (pkAt l (j+1)) (l.drop (j+1))):=Lib.hid (by rw[HQ.out,decide_eq_false p6,hq'];simp);clear HQ hp0 hq' kp hj0 q6 p6;go_wp2_with fail;go_roundw
        case rel=>exact⟨j+1,by omega,by go_num,HB5,HR⟩
        case measure=>simp[intOf]<;>omega
      ·have f6:(q==6)=false:=beq_eq_false_iff_ne.2 q6
       have HR:Hid (X=allB ls (pkAt l (j+1)) (l.drop (j+1))):=Lib.hid (by rw[HQ.out,decide_eq_false q6,hq'];simp);clear HQ hp0 hq' kp hj0 q6;go_wp2_with fail;go_roundw
       case rel=>exact⟨j+1,by omega,by go_num,HB5,HR⟩
       case measure=>simp[intOf]<;>omega
   ·obtain rfl:j=l.length:=by omega
    have hnx:=HN.out;rw[List.drop_length]at hnx;have HR:Hid (X=true):=Lib.hid (by rw[hnx];unfold allB;rfl);clear hnx HN hlt;go_wp2_with fail;go_ret;exact⟨ret_bool HR.out.symm,HB.out⟩
def rgB (l:List Bk):Bool:=allB false 0 l&&decide (dp l≤16)
theorem rrightB_any (l:List Bk) (v:Value) (w:World) (hf:fitAll 140737488355328 l) (htt:ttAll l≤9000000) (ht:TrB w v l):
  Calls Tryz.prog 9 #[v] w (OkAns w (rgB l)):=by
 have HA:=Lib.hid (rall_any (szAll l) l false v w (Nat.le_refl _) hf htt ht);have HD:=Lib.hid (fun w' (h:Below w.heap.size w w')=>rdeep_any (szAll l) l v w' (Nat.le_refl _) (ht.below h));have HX:Hid (rgB l=(allB false 0 l&&decide (dp l≤16))):=Lib.hid rfl;obtain⟨X,hX⟩:∃X,rgB l=X:=⟨_,rfl⟩;rw[hX]at HX ⊢;clear hX ht hf htt;generalize allB false 0 l=y at *;generalize dp l=d at *;go_enter Tryz.func9,Tryz.ntmps9;go_wp2_with fail;refine HA.out.mono ?_;rintro e w1 ⟨rfl,b1⟩;have HB:=Lib.hid b1;clear HA b1;cases y with
 |false=>
  go_wp2_with fail;go_ret;exact⟨ret_bool (by rw[HX.out];simp),HB.out⟩
 |true=>
  go_wp2_with fail;refine(HD.out _ HB.out).mono ?_;rintro e w2 ⟨rfl,rfl⟩;clear HD;go_wp2_with fail;go_ret;exact⟨ret_bool (by rw[HX.out];simp),HB.out⟩
end Bt
namespace Bt
open Go.RowKit
open Tk (S S_toList Rd get_lt take_next take_off)
open Cm (alloc_new alloc_at cell_at)
open Sp (Sp ret_bool OkAns smAll rsame_any totAll)
open Bk (Bk)
mutual
def smOne:Bk→Bk→Bool
 |.mk k lv i ls ss l,.mk q lw j ms tt m=>decide (k=q)&&decide (lv=lw)&&decide (i=j)&&decide (ls=ms)&&smAll ss tt&&smB l m
def smB:List Bk→List Bk→Bool
 |[],[]=>true
 |x::r,y::t=>smOne x y&&smB r t
 |_,_=>false
end
theorem smOne_eq (x y:Bk):smOne x y=(decide (x.kind=y.kind)&&decide (x.level=y.level)&&decide (x.info=y.info)&&decide (x.lines=y.lines)&&smAll x.spans y.spans&&smB x.kids y.kids):=by
 obtain⟨k,lv,i,ls,ss,l⟩:=x;obtain⟨q,lw,j,ms,tt,m⟩:=y;rw[smOne];rfl
theorem smB_cons (x y:Bk) (r t:List Bk):smB (x::r) (y::t)=(smOne x y&&smB r t):=by rw[smB]
mutual
theorem smOne_iff:∀x y:Bk,smOne x y=true↔x=y
 |.mk k lv i ls ss l,.mk q lw j ms tt m=>by
  rw[smOne,Bool.and_eq_true,Bool.and_eq_true,Bool.and_eq_true,Bool.and_eq_true,Bool.and_eq_true,decide_eq_true_iff,decide_eq_true_iff,decide_eq_true_iff,decide_eq_true_iff,Sp.smAll_iff ss tt,smB_iff l m];simp[and_assoc]
theorem smB_iff:∀a b:List Bk,smB a b=true↔a=b
 |[],[]=>by simp[smB]
 |[],_::_=>by simp[smB]
 |_::_,[]=>by simp[smB]
 |x::r,y::t=>by
  rw[smB_cons,Bool.and_eq_true,smOne_iff x y,smB_iff r t];simp
end
theorem smB_len:∀a b:List Bk,a.length≠b.length→smB a b=false
 |[],[],h=>absurd rfl h
 |[],_::_,_=>by simp[smB]
 |_::_,[],_=>by simp[smB]
 |x::r,y::t,h=>by
  rw[smB_cons,smB_len r t (by simpa using h),Bool.and_false]
set_option maxHeartbeats 800000 in
theorem texts_any (a b:Value) (xs ys:List (List UInt8)) (w:World) (ha:Rd w a xs) (hb:Rd w b ys) (hx:xs.length≤9223372036854775807) (hy:ys.length≤9223372036854775807) :
   Calls Tryz.prog 23 #[a,b] w fun e w'=>e = .returned (.bool (decide (xs=ys)))∧∃ n,w'=w.drewN n:=by
 obtain ⟨ao,ca,rfl,hca,hax⟩:=ha;obtain ⟨bo,cb,rfl,hcb,hbx⟩:=hb;by_cases hl:xs.length=ys.length
 · have e0 : ((xs.length:Int) != (ys.length:Int))=false:=by simp [hl]
   by_cases h0:xs=[]
   · have Hf:Hid (decide (xs=ys)=true):=Lib.hid (by subst h0;simpa using (List.eq_nil_of_length_eq_zero hl.symm))
     have hz:xs.length=0:=by rw [h0];rfl
     have hz2:ys.length=0:=by omega
     rw [hz,hz2];obtain ⟨X,hX⟩:∃ X,decide (xs=ys)=X:=⟨_,rfl⟩;rw [hX] at Hf ⊢;clear hax hbx h0 e0 hl hX;go_enter Tryz.func23,Tryz.ntmps23;go_wp2_with fail;go_loop [13] (fun i=>i = .int .i64 0) (fun i=>0)
     case atStart=>rfl
     case round =>
       subst hrel;go_wp2_with fail;go_ret;exact ⟨ret_bool Hf.out.symm,0,rfl⟩
   · rcases hax with hax | ⟨b1,o1,rfl,hb1,hc1⟩
     · exact absurd hax h0
     rcases hbx with hbx | ⟨b2,o2,rfl,hb2,hc2⟩
     · exact absurd (List.eq_nil_of_length_eq_zero (by rw [hl,hbx];rfl)) h0
     have H1:=Lib.hid hc1;have H2:=Lib.hid hc2;have HE:Hid (xs.take xs.length=ys.take xs.length→decide (xs=ys)=true):=Lib.hid (fun h=>decide_eq_true (by rwa [List.take_of_length_le (by omega),List.take_of_length_le (by omega)] at h));have HO:Hid (∀ k (hk:k < xs.length) (hk2:k < ys.length),xs[k]≠ys[k]→decide (xs=ys)=false):=Lib.hid (fun k hk hk2 he=>decide_eq_false (take_off hk hk2 he));obtain ⟨X,hX⟩:∃ X,decide (xs=ys)=X:=⟨_,rfl⟩;rw [hX] at HE HO ⊢;clear hc1 hc2 h0 hX;go_enter Tryz.func23,Tryz.ntmps23;go_wp2_with fail;go_loopw [13] (fun i wr=>∃ k n:Nat,k≤xs.length∧i = .int .i64 k∧wr=w.drewN n∧Hid (xs.take k=ys.take k)) (fun i _=>xs.length - (intOf i).toNat)
     case atStart=>exact ⟨0,0,Nat.zero_le _,rfl,rfl,Lib.hid rfl⟩
     case round =>
       obtain ⟨k,n,hk,rfl,hwr,HT⟩:=hrel;have HW:=Lib.hid hwr;by_cases hlt:k < xs.length
       · have hlt2:k < ys.length:=by omega
         have hbel:Below w.heap.size w wr:=by rw [hwr];exact below_drewN (Below.refl _ _) n
         have k1:wr.cell? ⟨b1,o1+k,none⟩=some (.string (S xs[k])):=(hbel.cell (by exact hb1)).trans (H1.out k _ (get_lt hlt));have k2:wr.cell? ⟨b2,o2+k,none⟩=some (.string (S ys[k])):=(hbel.cell (by exact hb2)).trans (H2.out k _ (get_lt hlt2));by_cases he:xs[k]=ys[k]
         · have HT2:=Lib.hid (take_next hlt hlt2 HT.out he)
           have e1:((S xs[k]).toList == (S ys[k]).toList)=true:=by rw [he];simp
           have e1':((S xs[k]).toList != (S ys[k]).toList)=false:=by rw [he];simp
           clear hbel HT he hwr;generalize xs[k]=x at *;generalize ys[k]=y at *;go_wp2_with fail;go_quiet (fail);go_wp2_with fail;go_roundw
           case rel=>exact ⟨k+1,n+nq,by omega,by go_num,by rw [HW.out,World.drewN_drewN],HT2⟩
           case measure=>simp [intOf] <;> omega
         · have Hf:=Lib.hid (HO.out k hlt hlt2 he)
           have e1:((S xs[k]).toList == (S ys[k]).toList)=false:=by rw [S_toList,S_toList];simpa using he
           have e1':((S xs[k]).toList != (S ys[k]).toList)=true:=by rw [S_toList,S_toList];simpa using he
           clear hbel HT he hwr;generalize xs[k]=x at *;generalize ys[k]=y at *;go_wp2_with fail;go_quiet (fail);go_wp2_with fail;go_ret;exact ⟨ret_bool Hf.out.symm,n+nq,by rw [HW.out,World.drewN_drewN]⟩
       · obtain rfl:k=xs.length:=by omega
         have Hf:=Lib.hid (HE.out HT.out);clear HT hwr;go_wp2_with fail;go_ret;exact ⟨ret_bool Hf.out.symm,n,HW.out⟩
 · have e0:((xs.length:Int) != (ys.length:Int))=true:=by simp;omega
   have Hf:Hid (decide (xs=ys)=false):=Lib.hid (decide_eq_false (fun h=>hl (by rw [h])));obtain ⟨X,hX⟩:∃ X,decide (xs=ys)=X:=⟨_,rfl⟩;rw [hX] at Hf ⊢;clear hax hbx hl hX;go_enter Tryz.func23,Tryz.ntmps23;go_wp2_with fail;go_ret;exact ⟨ret_bool Hf.out.symm,0,rfl⟩
set_option maxHeartbeats 12800000 in
set_option maxRecDepth 100000 in
theorem rsameB_any (m:Nat):∀ (a b:List Bk) (va vb:Value) (w:World),szAll a≤m→TrB w va a→TrB w vb b →
   Calls Tryz.prog 11 #[va,vb] w (OkAns w (smB a b)):=by
 induction m using Nat.strongRecOn with
 | ind m ih =>
   intro a b va vb w hm ta tb;obtain ⟨ao,ca,rfl⟩:=ta.len;obtain ⟨bo,cb,rfl⟩:=tb.len;have TA:=Lib.hid ta;have TB:=Lib.hid tb;have hla:=ta.short;have hlb:=tb.short;by_cases hl:a.length=b.length
   · have e0:((a.length:Int) != (b.length:Int))=false:=by simp [hl]
     have HIH:Hid (∀ k (hk:k < a.length) (l2:List Bk) (v1 v2:Value) (w':World),TrB w' v1 a[k].kids→TrB w' v2 l2→Calls Tryz.prog 11 #[v1,v2] w' (OkAns w' (smB a[k].kids l2))):=Lib.hid (fun k hk l2 v1 v2 w' t1 t2 =>
       ih (szAll a[k].kids) (Nat.lt_of_lt_of_le (szAll_kids (List.getElem_mem hk)) hm) a[k].kids l2 v1 v2 w' (Nat.le_refl _) t1 t2)
     have H0:Hid (smB a b=smB (a.drop 0) (b.drop 0)):=Lib.hid (by rw [List.drop_zero,List.drop_zero]);obtain ⟨X,hX⟩:∃ X,smB a b=X:=⟨_,rfl⟩;rw [hX] at H0;rw [hX];have HLn:=Lib.hid hl;clear ih ta tb hm hX hl;go_enter Tryz.func11,Tryz.ntmps11;go_wp2_with fail;go_loopw [15] (fun i wr=>∃ k:Nat,k≤a.length∧i = .int .i64 k∧Hid (Below w.heap.size w wr)∧Hid (X=smB (a.drop k) (b.drop k))) (fun i _=>a.length - (intOf i).toNat)
     case atStart=>exact ⟨0,Nat.zero_le _,rfl,Lib.hid (Below.refl _ _),H0⟩
     case round =>
       clear H0;obtain ⟨k,hk,rfl,HB,HN⟩:=hrel;by_cases hlt:k < a.length
       · have hlt2:k < b.length:=by have:=HLn.out;omega
         have hnx:=HN.out;rw [drop_cons a k hlt,drop_cons b k hlt2,smB_cons,smOne_eq] at hnx;have hi1:(k:Int) < (a.length:Int):=by omega
         have hi2:(k:Int) < (b.length:Int):=by have:=HLn.out;omega
         obtain ⟨b1,o1,vl1,vs1,ak1,ck1,rfl,hb1,hC1⟩:=(TA.out.below HB.out).at k hlt;obtain ⟨b2,o2,vl2,vs2,ak2,ck2,rfl,hb2,hC2⟩:=(TB.out.below HB.out).at k hlt2;obtain ⟨al1,cl1,rfl⟩:=hC1.rd.len;obtain ⟨al2,cl2,rfl⟩:=hC2.rd.len;obtain ⟨as1,cs1,rfl⟩:=hC1.sp.len;obtain ⟨as2,cs2,rfl⟩:=hC2.sp.len;have c0:=hC1.kind;have c1:=hC1.level;have c2:=hC1.info;have c3:=hC1.lines;have c4:=hC1.spans;have c5:=hC1.kids;have d0:=hC2.kind;have d1:=hC2.level;have d2:=hC2.info;have d3:=hC2.lines;have d4:=hC2.spans;have d5:=hC2.kids;have HL:=Lib.hid (fun wc (h:Below wr.heap.size wr wc)=>texts_any _ _ a[k].lines b[k].lines wc (hC1.rd.below h) (hC2.rd.below h) hC1.short hC2.short);have HS:=Lib.hid (fun wc (h:Below wr.heap.size wr wc)=>rsame_any (totAll a[k].spans) a[k].spans b[k].spans _ _ wc (Nat.le_refl _) (hC1.sp.below h) (hC2.sp.below h));have HC:=Lib.hid (fun wc (h:Below wr.heap.size wr wc)=>HIH.out k hlt b[k].kids _ _ wc (hC1.tr.below h) (hC2.tr.below h));have HQ:=Lib.hid hnx;have hs1:=S_toList a[k].info;have hs2:=S_toList b[k].info;clear hnx HN hC1 hC2;generalize smB a[k].kids b[k].kids=y at *;generalize smAll a[k].spans b[k].spans=ys at *;generalize decide (a[k].lines=b[k].lines)=yl at *;generalize a[k].kids.length=kn1 at *;generalize a[k].lines.length=ln1 at *;generalize b[k].lines.length=ln2 at *;generalize a[k].spans.length=sn1 at *;generalize b[k].spans.length=sn2 at *;generalize b[k].kids.length=kn2 at *;generalize a[k].kind=z1 at *;generalize b[k].kind=z2 at *;generalize a[k].level=y1 at *;generalize b[k].level=y2 at *;generalize a[k].info=i1 at *;generalize b[k].info=i2 at *;obtain ⟨s1,hS1⟩:∃ s,S i1=s:=⟨_,rfl⟩;obtain ⟨s2,hS2⟩:∃ s,S i2=s:=⟨_,rfl⟩;rw [hS1] at c2 hs1;rw [hS2] at d2 hs2;clear hS1 hS2;go_upto_region 6 with fail;go_cut [6,7,15] from 15 to 69 (fun pa pb ci wx=>ci = .int .i64 k∧∃ PA PB:Nat,pa = .pointer (some ⟨PA,0,none⟩)∧pb = .pointer (some ⟨PB,0,none⟩)∧Hid (wx.heap[PA]? = some (.cells #[.int .i64 z1,.int .i64 y1,.string s1,.slice al1 ln1 cl1,.slice as1 sn1 cs1,.slice ak1 kn1 ck1] 40 (0,0)))∧Hid (wx.heap[PB]? = some (.cells #[.int .i64 z2,.int .i64 y2,.string s2,.slice al2 ln2 cl2,.slice as2 sn2 cs2,.slice ak2 kn2 ck2] 40 (0,0)))∧Hid (Below wr.heap.size wr wx))
         case first =>
           clear HL HS HC HQ HIH TA TB HB hs1 hs2;have sz:∀ o:Obj,(wr.alloc o).heap.size=wr.heap.size+1:=fun o=>by simp
           go_region
           · have hA:=alloc_at (alloc_new wr (.cells #[.int .i64 z1,.int .i64 y1,.string s1,.slice al1 ln1 cl1,.slice as1 sn1 cs1,.slice ak1 kn1 ck1] 40)) (.cells #[.int .i64 z2,.int .i64 y2,.string s2,.slice al2 ln2 cl2,.slice as2 sn2 cs2,.slice ak2 kn2 ck2] 40)
             have hB:=alloc_new (wr.alloc (.cells #[.int .i64 z1,.int .i64 y1,.string s1,.slice al1 ln1 cl1,.slice as1 sn1 cs1,.slice ak1 kn1 ck1] 40)) (.cells #[.int .i64 z2,.int .i64 y2,.string s2,.slice al2 ln2 cl2,.slice as2 sn2 cs2,.slice ak2 kn2 ck2] 40);rw [sz] at hB;have hZ:=Lib.hid ((((Below.refl wr.heap.size wr).alloc (Nat.le_refl _) (.cells #[.int .i64 z1,.int .i64 y1,.string s1,.slice al1 ln1 cl1,.slice as1 sn1 cs1,.slice ak1 kn1 ck1] 40)).alloc (by rw [sz];omega) (.cells #[.int .i64 z2,.int .i64 y2,.string s2,.slice al2 ln2 cl2,.slice as2 sn2 cs2,.slice ak2 kn2 ck2] 40)).drew);have hA':=Lib.hid hA;have hB':=Lib.hid hB;clear hA hB sz;go_wp2_with fail;go_meet;exact ⟨rfl,_,_,rfl,rfl,Lib.hid hA'.out,Lib.hid hB'.out,hZ⟩
           · have hA:=alloc_at (alloc_new wr (.cells #[.int .i64 z2,.int .i64 y2,.string s2,.slice al2 ln2 cl2,.slice as2 sn2 cs2,.slice ak2 kn2 ck2] 40)) (.cells #[.int .i64 z1,.int .i64 y1,.string s1,.slice al1 ln1 cl1,.slice as1 sn1 cs1,.slice ak1 kn1 ck1] 40)
             have hB:=alloc_new (wr.alloc (.cells #[.int .i64 z2,.int .i64 y2,.string s2,.slice al2 ln2 cl2,.slice as2 sn2 cs2,.slice ak2 kn2 ck2] 40)) (.cells #[.int .i64 z1,.int .i64 y1,.string s1,.slice al1 ln1 cl1,.slice as1 sn1 cs1,.slice ak1 kn1 ck1] 40);rw [sz] at hB;have hZ:=Lib.hid ((((Below.refl wr.heap.size wr).alloc (Nat.le_refl _) (.cells #[.int .i64 z2,.int .i64 y2,.string s2,.slice al2 ln2 cl2,.slice as2 sn2 cs2,.slice ak2 kn2 ck2] 40)).alloc (by rw [sz];omega) (.cells #[.int .i64 z1,.int .i64 y1,.string s1,.slice al1 ln1 cl1,.slice as1 sn1 cs1,.slice ak1 kn1 ck1] 40)).drew);have hA':=Lib.hid hA;have hB':=Lib.hid hB;clear hA hB sz;go_wp2_with fail;go_meet;exact ⟨rfl,_,_,rfl,rfl,Lib.hid hB'.out,Lib.hid hA'.out,hZ⟩
         case rest =>
           obtain ⟨rfl,PA,PB,rfl,rfl,HPA,HPB,HB5⟩:=hcut;have a0:wc.cell? ⟨PA,0,none⟩=some (.int .i64 z1):=cell_at HPA.out 0;have a1:wc.cell? ⟨PA,1,none⟩=some (.int .i64 y1):=cell_at HPA.out 1;have a2:wc.cell? ⟨PA,2,none⟩=some (.string s1):=cell_at HPA.out 2;have a3:wc.cell? ⟨PA,3,none⟩=some (.slice al1 ln1 cl1):=cell_at HPA.out 3;have a4:wc.cell? ⟨PA,4,none⟩=some (.slice as1 sn1 cs1):=cell_at HPA.out 4;have a5:wc.cell? ⟨PA,5,none⟩=some (.slice ak1 kn1 ck1):=cell_at HPA.out 5;have b0:wc.cell? ⟨PB,0,none⟩=some (.int .i64 z2):=cell_at HPB.out 0;have b1':wc.cell? ⟨PB,1,none⟩=some (.int .i64 y2):=cell_at HPB.out 1;have b2':wc.cell? ⟨PB,2,none⟩=some (.string s2):=cell_at HPB.out 2;have b3:wc.cell? ⟨PB,3,none⟩=some (.slice al2 ln2 cl2):=cell_at HPB.out 3;have b4:wc.cell? ⟨PB,4,none⟩=some (.slice as2 sn2 cs2):=cell_at HPB.out 4;have b5:wc.cell? ⟨PB,5,none⟩=some (.slice ak2 kn2 ck2):=cell_at HPB.out 5;have HBw:=Lib.hid (HB.out.trans (HB5.out.mono HB.out.size));have HK:=Lib.hid (fun n=>(⟨cell_at (show (wc.drewN n).heap[PA]? = _ from HPA.out) 4,cell_at (show (wc.drewN n).heap[PA]? = _ from HPA.out) 5,cell_at (show (wc.drewN n).heap[PB]? = _ from HPB.out) 4,cell_at (show (wc.drewN n).heap[PB]? = _ from HPB.out) 5⟩:(wc.drewN n).cell? ⟨PA,4,none⟩=some (.slice as1 sn1 cs1)∧(wc.drewN n).cell? ⟨PA,5,none⟩=some (.slice ak1 kn1 ck1)∧(wc.drewN n).cell? ⟨PB,4,none⟩=some (.slice as2 sn2 cs2)∧(wc.drewN n).cell? ⟨PB,5,none⟩=some (.slice ak2 kn2 ck2)));clear HPA HPB c0 c1 c2 c3 c4 c5 d0 d1 d2 d3 d4 d5 TA TB;by_cases hz:z1=z2
           · have e1 : (z1 != z2)=false:=by simp [hz]
             by_cases hy:y1=y2
             · have e2 : (y1 != y2)=false:=by simp [hy]
               by_cases hs:i1=i2
               · have e3:(s1.toList == s2.toList)=true:=by rw [hs1,hs2,hs];simp
                 have e3':(s1.toList != s2.toList)=false:=by rw [hs1,hs2,hs];simp
                 have HQ2:Hid (X=(yl && ys && y && smB (a.drop (k+1)) (b.drop (k+1)))):=Lib.hid (by rw [HQ.out,decide_eq_true hz,decide_eq_true hy,decide_eq_true hs];simp);clear HQ hz hy hs hs1 hs2;go_wp2_with fail;refine (HL.out _ HB5.out).mono ?_;rintro e w6 ⟨rfl,n6,rfl⟩;obtain ⟨p4,p5,p4',p5'⟩:=HK.out n6;have HB6:=Lib.hid (below_drewN HB5.out n6);have HW6:=Lib.hid (below_drewN HBw.out n6);clear HL;cases yl with
                 | false =>
                   have HR:Hid (X=false):=Lib.hid (by rw [HQ2.out];simp);go_wp2_with fail;go_ret;exact ⟨ret_bool HR.out.symm,HW6.out⟩
                 | true =>
                   go_wp2_with fail;refine (HS.out _ HB6.out).mono ?_;rintro e w7 ⟨rfl,n7,rfl⟩;rw [World.drewN_drewN];obtain ⟨q4,q5,q4',q5'⟩:=HK.out (n6+n7);have HB7:=Lib.hid (below_drewN HB5.out (n6+n7));have HW7:=Lib.hid (below_drewN HBw.out (n6+n7));clear HS;cases ys with
                   | false =>
                     have HR:Hid (X=false):=Lib.hid (by rw [HQ2.out];simp);go_wp2_with fail;go_ret;exact ⟨ret_bool HR.out.symm,HW7.out⟩
                   | true =>
                     go_wp2_with fail;refine (HC.out _ HB7.out).mono ?_;rintro e w8 ⟨rfl,b8⟩;have HW8:=Lib.hid (HW7.out.trans (b8.mono HW7.out.size));clear HC b8;cases y with
                     | false =>
                       have HR:Hid (X=false):=Lib.hid (by rw [HQ2.out];simp);go_wp2_with fail;go_ret;exact ⟨ret_bool HR.out.symm,HW8.out⟩
                     | true =>
                       have HR:Hid (X=smB (a.drop (k+1)) (b.drop (k+1))):=Lib.hid (by rw [HQ2.out];simp);go_wp2_with fail;go_roundw
                       case rel=>exact ⟨k+1,by omega,by go_num,HW8,HR⟩
                       case measure=>simp [intOf] <;> omega
               · have e3:(s1.toList == s2.toList)=false:=by rw [hs1,hs2];simpa using hs
                 have e3':(s1.toList != s2.toList)=true:=by rw [hs1,hs2];simpa using hs
                 have HR:Hid (X=false):=Lib.hid (by rw [HQ.out,decide_eq_false hs];simp);clear HQ hz hy hs hs1 hs2 HL HS HC HK;go_wp2_with fail;go_ret;exact ⟨ret_bool HR.out.symm,HBw.out⟩
             · have e2:(y1 != y2)=true:=by rw [bne_iff_ne];exact hy
               have HR:Hid (X=false):=Lib.hid (by rw [HQ.out,decide_eq_false hy];simp);clear HQ hz hy hs1 hs2 HL HS HC HK;go_wp2_with fail;go_ret;exact ⟨ret_bool HR.out.symm,HBw.out⟩
           · have e1:(z1 != z2)=true:=by rw [bne_iff_ne];exact hz
             have HR:Hid (X=false):=Lib.hid (by rw [HQ.out,decide_eq_false hz];simp);clear HQ hz hs1 hs2 HL HS HC HK;go_wp2_with fail;go_ret;exact ⟨ret_bool HR.out.symm,HBw.out⟩
       · obtain rfl:k=a.length:=by omega
         have hnx:=HN.out;rw [List.drop_length,List.drop_eq_nil_of_le (by have:=HLn.out;omega)] at hnx;have HR:Hid (X=true):=Lib.hid (by rw [hnx];unfold smB;rfl);clear hnx HN hlt;go_wp2_with fail;go_ret;exact ⟨ret_bool HR.out.symm,HB.out⟩
   · have e0:((a.length:Int) != (b.length:Int))=true:=by simp;omega
     have HR:=Lib.hid (smB_len a b hl);clear ih ta tb hm hl TA TB;go_enter Tryz.func11,Tryz.ntmps11;go_wp2_with fail;go_ret;exact ⟨ret_bool HR.out.symm,Below.refl _ _⟩
end Bt
end Go.Proofs.YtpakjdgddomdjabGreatDoor
