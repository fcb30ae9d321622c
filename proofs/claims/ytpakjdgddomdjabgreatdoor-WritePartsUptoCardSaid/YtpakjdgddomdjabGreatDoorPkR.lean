import Derived.Test.YtpakjdgddomdjabGreatDoorPkJ
import Derived.Deep.Cut
import Derived.Deep.CutRange
import Derived.Deep.CutBlock
set_option linter.unusedVariables false
namespace Go.Proofs.YtpakjdgddomdjabGreatDoor
namespace Sp
open Go.RowKit
open Tk (S S_list S_size S_toList)
open Cm (alloc_new alloc_at cell_at lt_of_at)
theorem kidsP_of (l:List Sp) (e k:Bool) (ak:Option Addr) (ck:Nat) (w:World)
  (IH:∀w',Below w.heap.size w w'→Calls Tryz.prog 132 #[.slice ak l.length ck,.agg #[.bool e,.bool k]] w' (OkAns w' (okAll e k 0 l))):
  Calls Tryz.prog 184 #[.slice ak l.length ck,.agg #[.bool e,.bool k]] w (OkAns w (!l.isEmpty&&okAll e k 0 l)):=by
 have g2:=gt_len l;have b1:Below w.heap.size w (w.alloc (.cells #[.bool e,.bool k] 140)):=(Below.refl _ _).alloc (Nat.le_refl _) _;have HI:=Lib.hid (IH _ b1);have HB:=Lib.hid b1;clear IH b1;generalize okAll e k 0 l=y at *;cases hl:l.isEmpty with
 |true=>
  rw[hl]at g2;have h0:¬0<(l.length:Int):=of_decide_eq_false g2;clear hl g2 HI;generalize l.length=n at *;go_enter Tryz.func184,Tryz.ntmps184;go_wp2_with fail;go_ret;exact⟨rfl,HB.out⟩
 |false=>
  rw[hl]at g2;have h0:0<(l.length:Int):=of_decide_eq_true g2;clear hl g2;generalize l.length=n at *;go_enter Tryz.func184,Tryz.ntmps184;go_wp2_with fail;refine HI.out.mono ?_;rintro e1 w1 ⟨rfl,b1⟩;have HB1:=Lib.hid (HB.out.trans (b1.mono HB.out.size));clear b1 HI;go_wp2_with fail;go_ret;exact⟨rfl,HB1.out⟩
set_option maxHeartbeats 3200000 in
set_option maxRecDepth 100000 in
theorem oneP_of (x:Sp) (e k:Bool) (ak:Option Addr) (ck:Nat) (w:World) (hs:x.s.length≤140737488355328)
  (IH:∀(e k:Bool) (w':World),Below w.heap.size w w'→Calls Tryz.prog 132 #[.slice ak x.kids.length ck,.agg #[.bool e,.bool k]] w' (OkAns w' (okAll e k 0 x.kids))):
  Calls Tryz.prog 156 #[.agg #[.int .i64 x.kind,.string (S x.s),.slice ak x.kids.length ck],.agg #[.bool e,.bool k]] w (OkAns w (okOne e k x)):=by
 have HK:=Lib.hid (fun e k w' (h:Below w.heap.size w w')=>kidsP_of x.kids e k ak ck w' (fun w'' h''=>IH e k w'' (h.trans (h''.mono h.size))));have HI3:=Lib.hid (HK.out true k);have HI4:=Lib.hid (HK.out e true);clear HK IH;obtain⟨q,s,l⟩:=x;simp only[Sp.kind,Sp.s,Sp.kids]at HI3 HI4 hs ⊢
 have HE:Hid (okOne e k (.mk q s l)=(ckB s&&(if q=1 then(l.isEmpty&&ttB s)else if q=2 then(l.isEmpty&&cdB s)
   else if q=3 then(s.isEmpty&&(!l.isEmpty&&(!e&&okAll true k 0 l)))else if q=4 then(dsB s&&(!l.isEmpty&&(!k&&okAll e true 0 l)))else false))):=Lib.hid (by rw[okOne];rfl)
 have hsz:(S s).size≤140737488355328:=by rw[S_size];exact hs
 have HT:=Lib.hid (fun w'=>textP_any (S s) hsz w');have HC:=Lib.hid (fun w'=>codeP_any (S s) hsz w');have HD:=Lib.hid (fun w'=>destP_any (S s) hsz w');rw[S_list]at HT HC HD;have HEm:Hid ((S s).toList.isEmpty=s.isEmpty):=Lib.hid (by rw[S_toList])
 have HNl:Hid (s.isEmpty=true→ckB s=true):=Lib.hid (fun h=>by
  have:s=[]:=List.isEmpty_iff.1 h;rw[this];exact ck_nil)
 have hck:ckB s=ctB (S s):=ckB_S s;have g1:=isEmpty_len l;obtain⟨X,hX⟩:∃X,okOne e k (.mk q s l)=X:=⟨_,rfl⟩;rw[hX]at HE;rw[hX];rw[←hck]at HT HC HD;clear hX hck;generalize ttB s=tt at *;generalize cdB s=tcd at *;generalize dsB s=td at *;generalize ckB s=tc at *;generalize okAll true k 0 l=y3 at *;generalize okAll e true 0 l=y4 at *;generalize s.isEmpty=te at *;generalize l.isEmpty=tl at *;generalize l.length=ln at *;generalize S s=ss at *;go_enter Tryz.func156,Tryz.ntmps156;go_upto_region 1 with fail;have HC1:=Lib.hid (alloc_at (alloc_new w (.cells #[.int .i64 q,.string ss,.slice ak ln ck] 71)) (.cells #[.bool e,.bool k] 140));have HP1:=Lib.hid (alloc_new (w.alloc (.cells #[.int .i64 q,.string ss,.slice ak ln ck] 71)) (.cells #[.bool e,.bool k] 140));have sz:∀o:Obj,(w.alloc o).heap.size=w.heap.size+1:=fun o=>by simp
 rw[sz]at HP1;have HB1:=Lib.hid (((Below.refl w.heap.size w).alloc (Nat.le_refl _) (.cells #[.int .i64 q,.string ss,.slice ak ln ck] 71)).alloc (by rw[sz];omega) (.cells #[.bool e,.bool k] 140));clear sz;generalize (w.alloc (.cells #[.int .i64 q,.string ss,.slice ak ln ck] 71)).alloc (.cells #[.bool e,.bool k] 140)=w1 at *;have k0:w1.cell? ⟨w.heap.size,0,none⟩=some (.int .i64 q):=cell_at HC1.out 0;have k1:w1.cell? ⟨w.heap.size,1,none⟩=some (.string ss):=cell_at HC1.out 1;have k2:w1.cell? ⟨w.heap.size,2,none⟩=some (.slice ak ln ck):=cell_at HC1.out 2;have p0:w1.cell? ⟨w.heap.size+1,0,none⟩=some (.bool e):=cell_at HP1.out 0;have p1:w1.cell? ⟨w.heap.size+1,1,none⟩=some (.bool k):=cell_at HP1.out 1;have em2:(ss.toList==([]:List UInt8))=te:=by rw[←HEm.out];cases ss.toList<;>rfl
 clear HEm;by_cases q1:q=1
 ·have f1:(q==1)=true:=by rw[q1];rfl
  cases tl with
  |true=>
   have HR:Hid (X=(tc&&tt)):=Lib.hid (by rw[HE.out,if_pos q1];simp);clear HE q1;go_wp2_with fail;refine(HT.out _).mono ?_;rintro e3 w3 ⟨rfl,b3⟩;have HB3:=Lib.hid (HB1.out.trans (b3.mono HB1.out.size));clear b3;go_wp2_with fail;go_ret;exact⟨ret_bool HR.out.symm,HB3.out⟩
  |false=>
   have HR:Hid (X=false):=Lib.hid (by rw[HE.out,if_pos q1];simp);clear HE q1;go_wp2_with fail;go_ret;exact⟨ret_bool HR.out.symm,HB1.out⟩
 ·have f1:(q==1)=false:=by rw[beq_eq_false_iff_ne];exact q1
  by_cases q2:q=2
  ·have f2:(q==2)=true:=by rw[q2];rfl
   cases tl with
   |true=>
    have HR:Hid (X=(tc&&tcd)):=Lib.hid (by rw[HE.out,if_neg q1,if_pos q2];simp);clear HE q1 q2;go_wp2_with fail;refine(HC.out _).mono ?_;rintro e3 w3 ⟨rfl,b3⟩;have HB3:=Lib.hid (HB1.out.trans (b3.mono HB1.out.size));clear b3;go_wp2_with fail;go_ret;exact⟨ret_bool HR.out.symm,HB3.out⟩
   |false=>
    have HR:Hid (X=false):=Lib.hid (by rw[HE.out,if_neg q1,if_pos q2];simp);clear HE q1 q2;go_wp2_with fail;go_ret;exact⟨ret_bool HR.out.symm,HB1.out⟩
  ·have f2:(q==2)=false:=by rw[beq_eq_false_iff_ne];exact q2
   by_cases q3:q=3
   ·have f3:(q==3)=true:=by rw[q3];rfl
    cases e with
    |true=>
     have HR:Hid (X=false):=Lib.hid (by rw[HE.out,if_neg q1,if_neg q2,if_pos q3];simp);clear HE q1 q2 q3;go_wp2_with fail;go_ret;exact⟨ret_bool HR.out.symm,HB1.out⟩
    |false=>
     cases te with
     |false=>
      have HR:Hid (X=false):=Lib.hid (by rw[HE.out,if_neg q1,if_neg q2,if_pos q3];simp);clear HE q1 q2 q3;go_wp2_with fail;go_ret;exact⟨ret_bool HR.out.symm,HB1.out⟩
     |true=>
      have htc:=HNl.out rfl;have HR:Hid (X=(!tl&&y3)):=Lib.hid (by rw[HE.out,htc,if_neg q1,if_neg q2,if_pos q3];simp);clear HE q1 q2 q3 htc HNl;go_wp2_with fail;refine(HI3.out _ HB1.out).mono ?_;rintro e3 w3 ⟨rfl,b3⟩;have HB3:=Lib.hid (HB1.out.trans (b3.mono HB1.out.size));clear b3;go_wp2_with fail;go_ret;exact⟨ret_bool HR.out.symm,HB3.out⟩
   ·have f3:(q==3)=false:=by rw[beq_eq_false_iff_ne];exact q3
    by_cases q4:q=4
    ·have f4:(q==4)=true:=by rw[q4];rfl
     cases k with
     |true=>
      have HR:Hid (X=false):=Lib.hid (by rw[HE.out,if_neg q1,if_neg q2,if_neg q3,if_pos q4];simp);clear HE q1 q2 q3 q4;go_wp2_with fail;go_ret;exact⟨ret_bool HR.out.symm,HB1.out⟩
     |false=>
      obtain⟨cd,hcd⟩:∃cd,(tc&&td)=cd:=⟨_,rfl⟩;have HE2:Hid (X=(cd&&(!tl&&y4))):=Lib.hid (by rw[HE.out,if_neg q1,if_neg q2,if_neg q3,if_pos q4,←hcd];simp[Bool.and_assoc]);rw[hcd]at HD;clear HE q1 q2 q3 q4 hcd;cases cd with
      |false=>
       have HR:Hid (X=false):=Lib.hid (by rw[HE2.out];simp);clear HE2;go_wp2_with fail;refine(HD.out _).mono ?_;rintro e3 w3 ⟨rfl,b3⟩;have HB3:=Lib.hid (HB1.out.trans (b3.mono HB1.out.size));clear b3;go_wp2_with fail;go_ret;exact⟨ret_bool HR.out.symm,HB3.out⟩
      |true=>
       have HR:Hid (X=(!tl&&y4)):=Lib.hid (by rw[HE2.out];simp);clear HE2;go_wp2_with fail;refine(HD.out _).mono ?_;rintro e3 w3 ⟨rfl,b3⟩;have m2:=(b3.cell (p:=⟨w.heap.size,2,none⟩) (lt_of_at HC1.out)).trans k2;have n0:=(b3.cell (p:=⟨w.heap.size+1,0,none⟩) (lt_of_at HP1.out)).trans p0;have HB3:=Lib.hid (HB1.out.trans (b3.mono HB1.out.size));clear b3 HD;go_wp2_with fail;refine(HI4.out _ HB3.out).mono ?_;rintro e4 w4 ⟨rfl,b4⟩;have HB4:=Lib.hid (HB3.out.trans (b4.mono HB3.out.size));clear b4 HI4;go_wp2_with fail;go_ret;exact⟨ret_bool HR.out.symm,HB4.out⟩
    ·have f4:(q==4)=false:=by rw[beq_eq_false_iff_ne];exact q4
     have HR:Hid (X=false):=Lib.hid (by rw[HE.out,if_neg q1,if_neg q2,if_neg q3,if_neg q4];simp);clear HE q1 q2 q3 q4;go_wp2_with fail;go_ret;exact⟨ret_bool HR.out.symm,HB1.out⟩
end Sp
namespace Sp
open Go.RowKit
open Tk (S)
open Cm (alloc_new cell_at lt_of_at)
def clB (q:Int):Bool:=decide (q=1)||decide (q=2)
theorem clings_any (q:Int) (w:World):
  Calls Tryz.prog 155 #[.int .i64 q] w fun e w'=>e=.returned (.bool (clB q))∧w'=w:=by
 have HR:Hid (clB q=((q==1)||(q==2))):=Lib.hid (by rw[beq_dec,beq_dec];rfl);obtain⟨X,hX⟩:∃X,clB q=X:=⟨_,rfl⟩;rw[hX]at HR;rw[hX];clear hX;cases h1:(q==1)with
 |true=>
  rw[h1]at HR;go_enter Tryz.func155,Tryz.ntmps155;go_wp2_with fail;go_ret;exact⟨ret_bool (by rw[HR.out];rfl),rfl⟩
 |false=>
  rw[h1]at HR;go_enter Tryz.func155,Tryz.ntmps155;go_wp2_with fail;go_ret;exact⟨ret_bool (by rw[HR.out];rfl),rfl⟩
def badAt (l:List Sp) (j:Nat) (z:Int):Bool:=decide (0<j)&&(clB z&&decide (pkAt l j=z))
theorem bad_yes {l:List Sp} {j:Nat} (e k:Bool) (x:Sp) (R:Bool) (h:badAt l j x.kind=true):(okOne e k x&&!(decide (x.kind=pkAt l j)&&decide (x.kind≤2))&&R)=false:=by
 unfold badAt clB at h;rw[Bool.and_eq_true,Bool.and_eq_true,Bool.or_eq_true,decide_eq_true_iff,decide_eq_true_iff,decide_eq_true_iff,decide_eq_true_iff]at h;rw[decide_eq_true (show x.kind=pkAt l j from h.2.2.symm),decide_eq_true (show x.kind≤2 by omega)];simp
theorem bad_no {l:List Sp} {j:Nat} (e k:Bool) (x:Sp) (R:Bool) (h:badAt l j x.kind=false):(okOne e k x&&!(decide (x.kind=pkAt l j)&&decide (x.kind≤2))&&R)=(okOne e k x&&R):=by
 cases ho:okOne e k x with
 |false=>rfl
 |true=>
  have hk:=okOne_kind ho
  have:(decide (x.kind=pkAt l j)&&decide (x.kind≤2))=false:=by
   cases hd:(decide (x.kind=pkAt l j)&&decide (x.kind≤2))with
   |false=>rfl
   |true=>
    rw[Bool.and_eq_true,decide_eq_true_iff,decide_eq_true_iff]at hd;by_cases hj:0<j
    ·unfold badAt clB at h
     have hc:(decide (x.kind=1)||decide (x.kind=2))=true:=by
      rcases(show x.kind=1∨x.kind=2 by omega)with h1 |h1<;>rw[h1]<;>rfl
     rw[decide_eq_true hj,hc,decide_eq_true hd.1.symm]at h;cases h
    ·obtain rfl:j=0:=by omega
     have h0:pkAt l 0=0:=rfl;omega
  rw[this];simp
set_option maxHeartbeats 6400000 in
set_option maxRecDepth 100000 in
theorem allP_any (m:Nat):∀(l:List Sp) (e k:Bool) (v:Value) (w:World),totAll l≤m→fitAll 140737488355328 l→Tr w v l→
  Calls Tryz.prog 132 #[v,.agg #[.bool e,.bool k]] w (OkAns w (okAll e k 0 l)):=by
 induction m using Nat.strongRecOn with
 |ind m ih=>
  intro l e k v w hm hf ht;obtain⟨ao,ca,rfl⟩:=ht.len;have HT:=Lib.hid ht;have hlen:=ht.short
  have HO:Hid (∀j (hj:j<l.length) (ak:Option Addr) (ck:Nat) (w':World),Tr w' (.slice ak l[j].kids.length ck) l[j].kids→
    Calls Tryz.prog 156 #[.agg #[.int .i64 l[j].kind,.string (S l[j].s),.slice ak l[j].kids.length ck],.agg #[.bool e,.bool k]] w' (OkAns w' (okOne e k l[j]))):=Lib.hid (fun j hj ak ck w' ht'=>by
   have hfx:=fitAll_at hf l[j] (List.getElem_mem hj);refine oneP_of l[j] e k ak ck w' (fitOne_s hfx) (fun e k w'' hb=>?_);exact ih (totAll l[j].kids) (Nat.lt_of_lt_of_le (totAll_kids (List.getElem_mem hj)) hm) l[j].kids e k _ w'' (Nat.le_refl _) (fitOne_kids hfx) (ht'.below hb))
  have HCl:=Lib.hid (fun q w=>clings_any q w);have H0:Hid (okAll e k 0 l=okAll e k (pkAt l 0) (l.drop 0)):=Lib.hid (by rw[List.drop_zero];rfl);obtain⟨X,hX⟩:∃X,okAll e k 0 l=X:=⟨_,rfl⟩;rw[hX]at H0;rw[hX];have HB0:=Lib.hid ((Below.refl w.heap.size w).alloc (Nat.le_refl _) (.cells #[.bool e,.bool k] 140));have HP0:=Lib.hid (alloc_new w (.cells #[.bool e,.bool k] 140));clear ih ht hm hX hf;go_enter Tryz.func132,Tryz.ntmps132;go_wp2_with fail;go_loopw [9] (fun i wr=>∃j:Nat,j≤l.length∧i=.int .i64 j∧Hid (Below w.heap.size w wr)∧Hid (wr.heap[w.heap.size]? = some (.cells #[.bool e,.bool k] 140 (0,0)))∧Hid (X=okAll e k (pkAt l j) (l.drop j))) (fun i _=>l.length-(intOf i).toNat)
  case atStart=>exact⟨0,Nat.zero_le _,rfl,HB0,HP0,H0⟩
  case round=>
   clear H0 HB0 HP0;obtain⟨j,hj,rfl,Hb,HP,HN⟩:=hrel;by_cases hlt:j<l.length
   ·have hnx:=HN.out
    rw[drop_cons l j hlt,okAll_cons]at hnx;have hi1:(j:Int)<(l.length:Int):=by omega
    have HTr:=Lib.hid (HT.out.below Hb.out);obtain⟨b,o,ak,ck,rfl,hbl,hC⟩:=HTr.out.at j hlt;have HY:Hid (badAt l j l[j].kind=true→X=false):=Lib.hid (fun h=>by rw[hnx,bad_yes e k _ _ h]);have HZ:Hid (badAt l j l[j].kind=false→X=(okOne e k l[j]&&okAll e k (pkAt l (j+1)) (l.drop (j+1)))):=Lib.hid (fun h=>by rw[hnx,bad_no e k _ _ h,pkAt_next l j hlt]);obtain⟨bad,hbad⟩:∃bad,badAt l j l[j].kind=bad:=⟨_,rfl⟩;rw[hbad]at HY HZ;have HBad:Hid ((decide (0<j)&&(clB l[j].kind&&decide (pkAt l j=l[j].kind)))=bad):=Lib.hid (by rw[←hbad];rfl);have HC:=Lib.hid (fun w' (h:Below wr.heap.size wr w')=>HO.out j hlt ak ck w' (hC.tr.below h))
    have HPk:Hid (∀j',j=j'+1→wr.cell? ⟨b,o+j'*3,none⟩=some (.int .i64 (pkAt l j))):=Lib.hid (fun j' hj'=>by
     subst hj';obtain⟨b',o',ak',ck',hao,_,hC'⟩:=HTr.out.at j' (by omega);simp only[Option.some.injEq,Addr.mk.injEq,and_true]at hao;obtain⟨rfl,rfl⟩:=hao;rw[pkAt_next l j' (by omega)];exact hC'.kind)
    have c0:=hC.kind;have c1:=hC.s;have c2:=hC.kids;clear hnx HN hbad hC HTr;generalize okOne e k l[j]=oy at *;generalize l[j].kind=z at *;generalize S l[j].s=ss at *;generalize l[j].kids.length=kn at *;generalize pkAt l j=pk at *;have HA:=Lib.hid (alloc_new wr (.cells #[.int .i64 z,.string ss,.slice ak kn ck] 71));have HB1:=Lib.hid ((Below.refl wr.heap.size wr).alloc (Nat.le_refl _) (.cells #[.int .i64 z,.string ss,.slice ak kn ck] 71));go_upto_region 4 with fail;generalize wr.alloc (.cells #[.int .i64 z,.string ss,.slice ak kn ck] 71)=w1 at *;have a0:w1.cell? ⟨wr.heap.size,0,none⟩=some (.int .i64 z):=cell_at HA.out 0;have a1:w1.cell? ⟨wr.heap.size,1,none⟩=some (.string ss):=cell_at HA.out 1;have a2:w1.cell? ⟨wr.heap.size,2,none⟩=some (.slice ak kn ck):=cell_at HA.out 2;have HPw:Hid (w1.heap[w.heap.size]? = some (.cells #[.bool e,.bool k] 140 (0,0))):=Lib.hid ((HB1.out.block _ (lt_of_at HP.out)).trans HP.out);have Hbw:=Lib.hid (Hb.out.trans (HB1.out.mono Hb.out.size));have HPc:Hid (∀j',j=j'+1→w1.cell? ⟨b,o+j'*3,none⟩=some (.int .i64 pk)):=Lib.hid (fun j' hj'=>(HB1.out.cell (by exact hbl)).trans (HPk.out j' hj'));clear c0 c1 c2 HP Hb HPk;go_cut [9,31]from 9 to 37 (fun ci s wx=>ci=.int .i64 j∧s=.bool bad∧∃n,wx=w1.drewN n)
    case first=>
     clear HY HZ HC HPw Hbw HO HT a1 a2;cases hcl:clB z with
     |false=>
      rw[hcl]at HBad;have HR:Hid (bad=false):=Lib.hid (by rw[←HBad.out];simp);clear HBad;rcases j with _ |j
      ·go_quiet (fail)
       go_wp2_with fail;go_meet;exact⟨rfl,by rw[HR.out],_,rfl⟩
      ·have g0:decide (((j+1:Nat):Int)>0)=true:=decide_eq_true (by omega)
       have HL:=Lib.hid (fun w=>HCl.out z w);rw[hcl]at HL;go_quiet ((go_at_call 155;refine(HL.out _).mono ?_;rintro e w'' ⟨he,hw⟩;exact⟨he,_,hw⟩));go_wp2_with fail;go_meet;exact⟨rfl,by rw[HR.out],_,rfl⟩
     |true=>
      rw[hcl]at HBad;rcases j with _ |j
      ·have HR:Hid (bad=false):=Lib.hid (by rw[←HBad.out];simp)
       clear HBad;go_quiet (fail);go_wp2_with fail;go_meet;exact⟨rfl,by rw[HR.out],_,rfl⟩
      ·have HR:Hid ((pk==z)=bad):=Lib.hid (by rw[←HBad.out,decide_eq_true (Nat.succ_pos j),beq_dec];simp)
       have g0:decide (((j+1:Nat):Int)>0)=true:=decide_eq_true (by omega);have HL:=Lib.hid (fun w=>HCl.out z w);have c3:=HPc.out j rfl;rw[hcl]at HL;clear HBad;go_quiet ((go_at_call 155;refine(HL.out _).mono ?_;rintro e w'' ⟨he,hw⟩;exact⟨he,_,hw⟩));go_wp2_with fail;go_meet;exact⟨rfl,by rw[HR.out],_,rfl⟩
    case rest=>
     obtain⟨rfl,rfl,n,rfl⟩:=hcut;clear HBad HPc HCl;cases bad with
     |true=>
      have HR:=Lib.hid (HY.out rfl);go_wp2_with fail;go_ret;exact⟨ret_bool HR.out.symm,below_drewN Hbw.out _⟩
     |false=>
      have HQ:=Lib.hid (HZ.out rfl);have HBn:=Lib.hid (below_drewN HB1.out n);have HC1:=Lib.hid (HC.out _ HBn.out);have b0:(w1.drewN n).cell? ⟨wr.heap.size,0,none⟩=some (.int .i64 z):=a0;have b1:(w1.drewN n).cell? ⟨wr.heap.size,1,none⟩=some (.string ss):=a1;have b2:(w1.drewN n).cell? ⟨wr.heap.size,2,none⟩=some (.slice ak kn ck):=a2;have HPn:Hid ((w1.drewN n).heap[w.heap.size]? = some (.cells #[.bool e,.bool k] 140 (0,0))):=HPw;have p0:(w1.drewN n).cell? ⟨w.heap.size,0,none⟩=some (.bool e):=cell_at HPn.out 0;have p1:(w1.drewN n).cell? ⟨w.heap.size,1,none⟩=some (.bool k):=cell_at HPn.out 1;have Hbn:=Lib.hid (below_drewN Hbw.out n);clear HA HB1 HPw Hbw HC HY HZ HBn a0 a1 a2;generalize w1.drewN n=w2 at *;go_wp2_with fail;refine HC1.out.mono ?_;rintro e3 w3 ⟨rfl,hb3⟩;have Hb3:=Lib.hid (Hbn.out.trans (hb3.mono Hbn.out.size));have HP3:Hid (w3.heap[w.heap.size]? = some (.cells #[.bool e,.bool k] 140 (0,0))):=Lib.hid ((hb3.block _ (lt_of_at HPn.out)).trans HPn.out);clear hb3 HC1;cases oy with
      |true=>
       have HR:Hid (X=okAll e k (pkAt l (j+1)) (l.drop (j+1))):=Lib.hid (by rw[HQ.out];rfl);clear HQ;go_wp2_with fail;go_roundw
       case rel=>exact⟨j+1,by omega,by go_num,Hb3,HP3,HR⟩
       case measure=>simp[intOf]<;>omega
      |false=>
       have HR:Hid (X=false):=Lib.hid (by rw[HQ.out];rfl);clear HQ;go_wp2_with fail;go_ret;exact⟨ret_bool HR.out.symm,Hb3.out⟩
   ·obtain rfl:j=l.length:=by omega
    have hnx:=HN.out;rw[List.drop_length]at hnx;have HR:Hid (X=true):=Lib.hid (by rw[hnx];unfold okAll;rfl);clear hnx HN hlt;go_wp2_with fail;go_ret;exact⟨ret_bool HR.out.symm,Hb.out⟩
end Sp
namespace Sp
open Go.RowKit
open Tk (S S_size len_data)
open Cm (alloc_new alloc_at cell_at)
theorem nil_of_zero {s:ByteArray} (h:s.size=0):s.data.toList=[]:=List.eq_nil_of_length_eq_zero (by rw[len_data];exact h)
set_option maxHeartbeats 6400000 in
set_option maxRecDepth 100000 in
theorem endsP_any (l:List Sp) (v:Value) (w:World) (hf:fitAll 140737488355328 l) (ht:Tr w v l) :
   Calls Tryz.prog 131 #[v] w (OkAns w (endB l)):=by
 obtain ⟨ao,ca,rfl⟩:=ht.len;have HTr:=Lib.hid ht;have hlen:=ht.short;have HFt:=Lib.hid (fitAll_at hf);obtain ⟨X,hX⟩:∃ X,endB l=X:=⟨_,rfl⟩;have HX1:Hid (X=endB l):=Lib.hid hX.symm;rw [hX];clear hX ht hf;by_cases h0:l.length=0
 · have e0:((l.length:Int) == 0)=true:=by rw [h0];rfl
   have HR:Hid (X=true):=Lib.hid (by rw [HX1.out,List.eq_nil_of_length_eq_zero h0];rfl);clear HX1 HFt HTr;go_enter Tryz.func131,Tryz.ntmps131;go_wp2_with fail;go_ret;exact ⟨ret_bool HR.out.symm,Below.refl _ _⟩
 · have e0:((l.length:Int) == 0)=false:=by rw [beq_eq_false_iff_ne];omega
   have hpos:0 < l.length:=by omega
   have hi0:(0:Int) < (l.length:Int):=by omega
   obtain ⟨b,o,ak,ck,rfl,hbl,hC⟩:=HTr.out.at 0 hpos;obtain ⟨b',o',ak2,ck2,hao,_,hD⟩:=HTr.out.at (l.length - 1) (by omega);simp only [Option.some.injEq,Addr.mk.injEq,and_true] at hao;obtain ⟨rfl,rfl⟩:=hao
   have HX:Hid (X=(hdB l[0] && ltB (l[l.length - 1]'(by omega)))):=Lib.hid (by
     rw [HX1.out];unfold endB;rw [List.head?_eq_getElem?,List.getElem?_eq_getElem hpos,List.getLast?_eq_getElem?,List.getElem?_eq_getElem (by omega)];rfl)
   have HHd:Hid (l[0].kind=1→hdB l[0] = !edB (fstB (S l[0].s))):=Lib.hid (fun h1=>by
     unfold hdB;rw [decide_eq_true h1,fst_S];rfl)
   have HHn:Hid (l[0].kind≠1→hdB l[0]=true):=Lib.hid (fun h1=>by unfold hdB;rw [decide_eq_false h1];rfl)
   have HL:Hid ((l[l.length - 1]'(by omega)).kind=1→ltB (l[l.length - 1]'(by omega)) = !edB (lstB (S (l[l.length - 1]'(by omega)).s))):=Lib.hid (fun h1=>by
     unfold ltB;rw [decide_eq_true h1,lst_S];rfl)
   have HLn:Hid ((l[l.length - 1]'(by omega)).kind≠1→ltB (l[l.length - 1]'(by omega))=true):=Lib.hid (fun h1=>by unfold ltB;rw [decide_eq_false h1];rfl);have hsz2:(S (l[l.length - 1]'(by omega)).s).size≤140737488355328:=by rw [S_size];exact fitOne_s (HFt.out _ (List.getElem_mem (by omega)))
   have c0:=hC.kind;have c1:=hC.s;have c2:=hC.kids;have d0:=hD.kind;have d1:=hD.s;have d2:=hD.kids;simp only [Nat.zero_mul,Nat.add_zero] at c0 c1 c2;clear hC hD HX1 HFt HTr;generalize hdB l[0]=H1 at *;generalize ltB (l[l.length - 1]'(by omega))=L1 at *;generalize l[0].kids.length=kn1 at *;generalize (l[l.length - 1]'(by omega)).kids.length=kn2 at *;generalize l[0].kind=z1 at *;generalize (l[l.length - 1]'(by omega)).kind=z2 at *;generalize S l[0].s=t1 at *;generalize S (l[l.length - 1]'(by omega)).s=t2 at *;go_enter Tryz.func131,Tryz.ntmps131;go_upto_region 3 with fail;go_cut [3,4] from 8 (fun pa pb wx=>∃ PA PB:Nat,pa = .pointer (some ⟨PA,0,none⟩)∧pb = .pointer (some ⟨PB,0,none⟩)∧Hid (wx.heap[PA]? = some (.cells #[.int .i64 z1,.string t1,.slice ak kn1 ck] 71 (0,0)))∧Hid (wx.heap[PB]? = some (.cells #[.int .i64 z2,.string t2,.slice ak2 kn2 ck2] 71 (0,0)))∧Hid (Below w.heap.size w wx))
   case first =>
     clear HX HHd HHn HL HLn;have sz:∀ o:Obj,(w.alloc o).heap.size=w.heap.size+1:=fun o=>by simp
     have B1:=Below.refl w.heap.size w;go_region
     · have hA:=alloc_at (alloc_new w (.cells #[.int .i64 z1,.string t1,.slice ak kn1 ck] 71)) (.cells #[.int .i64 z2,.string t2,.slice ak2 kn2 ck2] 71)
       have hB:=alloc_new (w.alloc (.cells #[.int .i64 z1,.string t1,.slice ak kn1 ck] 71)) (.cells #[.int .i64 z2,.string t2,.slice ak2 kn2 ck2] 71);rw [sz] at hB;have hZ:=Lib.hid (((B1.alloc B1.size (.cells #[.int .i64 z1,.string t1,.slice ak kn1 ck] 71)).alloc (by rw [sz];have:=B1.size;omega) (.cells #[.int .i64 z2,.string t2,.slice ak2 kn2 ck2] 71)).drew);have hA':=Lib.hid hA;have hB':=Lib.hid hB;clear hA hB sz B1;go_wp2_with fail;go_meet;exact ⟨_,_,rfl,rfl,Lib.hid hA'.out,Lib.hid hB'.out,hZ⟩
     · have hA:=alloc_at (alloc_new w (.cells #[.int .i64 z2,.string t2,.slice ak2 kn2 ck2] 71)) (.cells #[.int .i64 z1,.string t1,.slice ak kn1 ck] 71)
       have hB:=alloc_new (w.alloc (.cells #[.int .i64 z2,.string t2,.slice ak2 kn2 ck2] 71)) (.cells #[.int .i64 z1,.string t1,.slice ak kn1 ck] 71);rw [sz] at hB;have hZ:=Lib.hid (((B1.alloc B1.size (.cells #[.int .i64 z2,.string t2,.slice ak2 kn2 ck2] 71)).alloc (by rw [sz];have:=B1.size;omega) (.cells #[.int .i64 z1,.string t1,.slice ak kn1 ck] 71)).drew);have hA':=Lib.hid hA;have hB':=Lib.hid hB;clear hA hB sz B1;go_wp2_with fail;go_meet;exact ⟨_,_,rfl,rfl,Lib.hid hB'.out,Lib.hid hA'.out,hZ⟩
   case rest =>
     obtain ⟨PA,PB,rfl,rfl,HPA,HPB,HB5⟩:=hcut;have a0:wc.cell? ⟨PA,0,none⟩=some (.int .i64 z1):=cell_at HPA.out 0;have a1:wc.cell? ⟨PA,1,none⟩=some (.string t1):=cell_at HPA.out 1;have b0:wc.cell? ⟨PB,0,none⟩=some (.int .i64 z2):=cell_at HPB.out 0;have b1:wc.cell? ⟨PB,1,none⟩=some (.string t2):=cell_at HPB.out 1;clear HPA HPB c0 c1 c2 d0 d1 d2;by_cases y1:z1=1
     · have f1 : (z1 == 1)=true:=by rw [y1];rfl
       have HH1:=Lib.hid (HHd.out y1);by_cases n1:t1.size=0
       · have g1:(t1.toList != ([]:List UInt8))=false:=by rw [Lib.toList_data,nil_of_zero n1];rfl
         have g1':(t1.toList == ([]:List UInt8))=true:=by rw [Lib.toList_data,nil_of_zero n1];rfl
         have HH3:Hid (H1=true):=Lib.hid (by rw [HH1.out];unfold fstB;rw [nil_of_zero n1];decide);clear n1;by_cases y2:z2=1
         · have f2:(z2 != 1)=false:=by rw [y2];rfl
           have HL2:=Lib.hid (HL.out y2);by_cases n2:t2.size=0
           · have g2:(t2.toList == ([]:List UInt8))=true:=by rw [Lib.toList_data,nil_of_zero n2];rfl
             have HR:Hid (X=true):=Lib.hid (by rw [HX.out,HH3.out,Bool.true_and,HL2.out];unfold lstB;rw [nil_of_zero n2];decide);clear n2;go_wp2_with fail;go_ret;exact ⟨ret_bool HR.out.symm,HB5.out⟩
           · have g2:(t2.toList == ([]:List UInt8))=false:=by rw [Lib.toList_data];cases hd:t2.data.toList with | nil=>exact absurd (by rw [← len_data,hd];rfl) n2 | cons _ _=>rfl
             have hs2:1≤t2.size:=by omega
             have hlt2:t2.size - 1 < t2.size:=by omega
             have HE2:=Lib.hid (gap_any (t2[t2.size - 1]'hlt2) wc);have HR:Hid (X = !edB (t2[t2.size - 1]'hlt2)):=Lib.hid (by rw [HX.out,HH3.out,Bool.true_and,HL2.out,lstB_eq t2 hlt2]);generalize edB (t2[t2.size - 1]'hlt2)=y at *;go_wp2_with fail;refine HE2.out.mono ?_;rintro e8 w8 ⟨rfl,rfl⟩;go_wp2_with fail;go_ret;exact ⟨ret_bool HR.out.symm,HB5.out⟩
         · have f2:(z2 != 1)=true:=by rw [bne_iff_ne];exact y2
           have HR:Hid (X=true):=Lib.hid (by rw [HX.out,HH3.out,Bool.true_and,HLn.out y2]);go_wp2_with fail;go_ret;exact ⟨ret_bool HR.out.symm,HB5.out⟩
       · have g1:(t1.toList != ([]:List UInt8))=true:=by rw [Lib.toList_data];cases hd:t1.data.toList with | nil=>exact absurd (by rw [← len_data,hd];rfl) n1 | cons _ _=>rfl
         have g1':(t1.toList == ([]:List UInt8))=false:=by rw [Lib.toList_data];cases hd:t1.data.toList with | nil=>exact absurd (by rw [← len_data,hd];rfl) n1 | cons _ _=>rfl
         have hs1:0 < t1.size:=by omega
         have HE1:=Lib.hid (gap_any (t1[0]'hs1) wc);have HH2:Hid (H1 = !edB (t1[0]'hs1)):=Lib.hid (by rw [HH1.out,fstB_eq t1 hs1]);cases hy1:edB (t1[0]'hs1) with
         | true =>
           rw [hy1] at HE1 HH2;have HR:Hid (X=false):=Lib.hid (by rw [HX.out,HH2.out];rfl);clear hy1;go_wp2_with fail;refine HE1.out.mono ?_;rintro e7 w7 ⟨rfl,rfl⟩;go_wp2_with fail;go_ret;exact ⟨ret_bool HR.out.symm,HB5.out⟩
         | false =>
           rw [hy1] at HE1 HH2;have HH3:Hid (H1=true):=Lib.hid (by rw [HH2.out];rfl);clear hy1;by_cases y2:z2=1
           · have f2:(z2 != 1)=false:=by rw [y2];rfl
             have HL2:=Lib.hid (HL.out y2);by_cases n2:t2.size=0
             · have g2:(t2.toList == ([]:List UInt8))=true:=by rw [Lib.toList_data,nil_of_zero n2];rfl
               have HR:Hid (X=true):=Lib.hid (by rw [HX.out,HH3.out,Bool.true_and,HL2.out];unfold lstB;rw [nil_of_zero n2];decide);clear n2;go_wp2_with fail;refine HE1.out.mono ?_;rintro e7 w7 ⟨rfl,rfl⟩;go_wp2_with fail;go_ret;exact ⟨ret_bool HR.out.symm,HB5.out⟩
             · have g2:(t2.toList == ([]:List UInt8))=false:=by rw [Lib.toList_data];cases hd:t2.data.toList with | nil=>exact absurd (by rw [← len_data,hd];rfl) n2 | cons _ _=>rfl
               have hs2:1≤t2.size:=by omega
               have hlt2:t2.size - 1 < t2.size:=by omega
               have HE2:=Lib.hid (gap_any (t2[t2.size - 1]'hlt2) wc);have HR:Hid (X = !edB (t2[t2.size - 1]'hlt2)):=Lib.hid (by rw [HX.out,HH3.out,Bool.true_and,HL2.out,lstB_eq t2 hlt2]);generalize edB (t2[t2.size - 1]'hlt2)=y at *;go_wp2_with fail;refine HE1.out.mono ?_;rintro e7 w7 ⟨rfl,rfl⟩;go_wp2_with fail;refine HE2.out.mono ?_;rintro e8 w8 ⟨rfl,rfl⟩;go_wp2_with fail;go_ret;exact ⟨ret_bool HR.out.symm,HB5.out⟩
           · have f2:(z2 != 1)=true:=by rw [bne_iff_ne];exact y2
             have HR:Hid (X=true):=Lib.hid (by rw [HX.out,HH3.out,Bool.true_and,HLn.out y2]);go_wp2_with fail;refine HE1.out.mono ?_;rintro e7 w7 ⟨rfl,rfl⟩;go_wp2_with fail;go_ret;exact ⟨ret_bool HR.out.symm,HB5.out⟩
     · have f1:(z1 == 1)=false:=by rw [beq_eq_false_iff_ne];exact y1
       have HH3:=Lib.hid (HHn.out y1);by_cases y2:z2=1
       · have f2:(z2 != 1)=false:=by rw [y2];rfl
         have HL2:=Lib.hid (HL.out y2);by_cases n2:t2.size=0
         · have g2:(t2.toList == ([]:List UInt8))=true:=by rw [Lib.toList_data,nil_of_zero n2];rfl
           have HR:Hid (X=true):=Lib.hid (by rw [HX.out,HH3.out,Bool.true_and,HL2.out];unfold lstB;rw [nil_of_zero n2];decide);clear n2;go_wp2_with fail;go_ret;exact ⟨ret_bool HR.out.symm,HB5.out⟩
         · have g2:(t2.toList == ([]:List UInt8))=false:=by rw [Lib.toList_data];cases hd:t2.data.toList with | nil=>exact absurd (by rw [← len_data,hd];rfl) n2 | cons _ _=>rfl
           have hs2:1≤t2.size:=by omega
           have hlt2:t2.size - 1 < t2.size:=by omega
           have HE2:=Lib.hid (gap_any (t2[t2.size - 1]'hlt2) wc);have HR:Hid (X = !edB (t2[t2.size - 1]'hlt2)):=Lib.hid (by rw [HX.out,HH3.out,Bool.true_and,HL2.out,lstB_eq t2 hlt2]);generalize edB (t2[t2.size - 1]'hlt2)=y at *;go_wp2_with fail;refine HE2.out.mono ?_;rintro e8 w8 ⟨rfl,rfl⟩;go_wp2_with fail;go_ret;exact ⟨ret_bool HR.out.symm,HB5.out⟩
       · have f2:(z2 != 1)=true:=by rw [bne_iff_ne];exact y2
         have HR:Hid (X=true):=Lib.hid (by rw [HX.out,HH3.out,Bool.true_and,HLn.out y2]);go_wp2_with fail;go_ret;exact ⟨ret_bool HR.out.symm,HB5.out⟩
set_option maxHeartbeats 1600000 in
theorem rightP_any (l:List Sp) (v:Value) (w:World) (ht:Tr w v l) (hf:fitAll 140737488355328 l):
  Calls Tryz.prog 100 #[v] w (OkAns w (rtB l)):=by
 have HE:=Lib.hid (endsP_any l v w hf ht);have HA:=Lib.hid (fun w' (h:Below w.heap.size w w')=>allP_any (totAll l) l false false v w' (Nat.le_refl _) hf (ht.below h));have HX:Hid (rtB l=(okAll false false 0 l&&endB l)):=Lib.hid rfl;obtain⟨ao,ca,rfl⟩:=ht.len;obtain⟨X,hX⟩:∃X,rtB l=X:=⟨_,rfl⟩;rw[hX]at HX;rw[hX];clear hX ht hf;generalize okAll false false 0 l=y at *;generalize endB l=z at *;cases z with
 |false=>
  have HR:Hid (X=false):=Lib.hid (by rw[HX.out];simp);clear HX HA;go_enter Tryz.func100,Tryz.ntmps100;go_wp2_with fail;refine HE.out.mono ?_;rintro e1 w1 ⟨rfl,b1⟩;have HB1:=Lib.hid b1;clear b1 HE;go_wp2_with fail;go_ret;exact⟨ret_bool HR.out.symm,HB1.out⟩
 |true=>
  have HR:Hid (X=y):=Lib.hid (by rw[HX.out];simp);clear HX;go_enter Tryz.func100,Tryz.ntmps100;go_wp2_with fail;refine HE.out.mono ?_;rintro e1 w1 ⟨rfl,b1⟩;have HB1:=Lib.hid b1;clear b1 HE;go_wp2_with fail;refine(HA.out w1 HB1.out).mono ?_;rintro e2 w2 ⟨rfl,b2⟩;have HB2:=Lib.hid (HB1.out.trans (b2.mono HB1.out.size));clear b2 HA;go_wp2_with fail;go_ret;exact⟨ret_bool HR.out.symm,HB2.out⟩
end Sp
end Go.Proofs.YtpakjdgddomdjabGreatDoor
