import Derived.Test.YtpakjdgddomdjabGreatDoorPkH
import Derived.Test.YtpakjdgddomdjabGreatDoorPkI
import Derived.Lib.MinMax
import Derived.Lib.QuietBelow
import Derived.BigQuiet
import Derived.Test.YtpakjdgddomdjabGreatDoorPkB
import Derived.RangeFuncNested
import Derived.RangeFuncBound
import Derived.RangeFuncCalls
import Derived.RangeFuncLeaves
import Derived.Shelf.Abstract
import Derived.Test.YtpakjdgddomdjabGreatDoorPkF
import Derived.Test.YtpakjdgddomdjabGreatDoorPkJ
set_option linter.unusedVariables false
namespace Go.Proofs.YtpakjdgddomdjabGreatDoor
namespace Sp
open Go.RowKit Go.Shelf Go.Sort
open Tk (at_data len_data)
open Cm (cell_at alloc_new lt_of_at Rk newsK own_pushK)
theorem below_grow_drewN (w:World) (q:Nat) (os:Array Obj):Below w.heap.size w (grow (w.drewN q) os):=
 ⟨rfl,rfl,rfl,by simp[grow,World.drewN],fun k hk=>by show(w.heap++os)[k]? = _;rw[Array.getElem?_append_left hk]⟩
theorem encR_one (x:Nat × Nat):∀v∈encR x,v.oneCell'=true:=by
 intro v hv;simp[encR]at hv;rcases hv with rfl |rfl<;>rfl
theorem Rns_at (s:ByteArray) (k:Nat) (h:k<s.size):Rns k (s.data.toList.drop k)=(if ticks (s.data.toList.drop k)=0 then []else [(ticks (s.data.toList.drop k),k)])++Rns (k+max (ticks (s.data.toList.drop k)) 1) (s.data.toList.drop (k+max (ticks (s.data.toList.drop k)) 1)):=by
 have hd:=at_data s k h;rw[hd,Rns_cons,←hd,List.drop_drop]
set_option maxHeartbeats 3200000 in
set_option maxRecDepth 100000 in
theorem runsOf_any (s:ByteArray) (hs:s.size≤1000000) (w:World):
  Calls Tryz.prog 171 #[.string s] w fun e w'=>∃v d,e=.returned v∧d.Perm (Rns 0 s.data.toList)∧Rises d∧Rk 2 encR w' v d∧Below w.heap.size w w'∧RunT w' v:=by
 obtain⟨i0,hi,hz0,hz1,hz2⟩:=info_parts infoR;have H0:Hid (Rns 0 s.data.toList=[]++Rns 0 (s.data.toList.drop 0)):=Lib.hid rfl;have HL:Hid ((Rns 0 s.data.toList).length≤s.size):=Lib.hid (by have:=Rns_len _ 0 s.data.toList (Nat.le_refl _);rwa[len_data]at this);have HT:=Lib.hid (fun(k:Nat) (hk:k≤s.size) w=>ticksP_any s (k:Int) (by omega) (by omega) (by omega) w);have HTk:Hid (∀j:Nat,ticksAt s.data.toList (j:Int)=ticks (s.data.toList.drop j)):=Lib.hid (fun j=>by unfold ticksAt;rw[if_neg (by omega)];simp);have HA:=Lib.hid (Rns_at s);have HS:=Lib.hid (fun v d B w h hn=>sortR_any v d B w h hn);have HD:=Lib.hid (drop_all s)
 have HTl:Hid (∀k,k<s.size→k+ticks (s.data.toList.drop k)≤s.size):=Lib.hid (fun k hk=>by
  have:=ticks_le (s.data.toList.drop k);rw[List.length_drop,len_data]at this;omega)
 generalize Rns 0 s.data.toList=R at *;go_enter Tryz.func171,Tryz.ntmps171;go_wp2_with fail;go_loopw [3,4] (fun v' i wr=>∃(k:Nat) (os:List (Nat × Nat)),k≤s.size∧i=.int .i64 k∧Hid (R=os++Rns k (s.data.toList.drop k))∧Hid (wr.ownsRow w.heap.size 198 2 v' os.length (os.flatMap encR))∧Hid (Below w.heap.size w wr)) (fun _ i _=>s.size-(intOf i).toNat)
 case atStart=>exact⟨0,[],Nat.zero_le _,rfl,H0,Lib.hid (World.ownsRow_nil _ _ _ _),Lib.hid (Below.refl _ _)⟩
 case round=>
  clear H0;obtain⟨k,os,hk,rfl,HR,Ho,Hb⟩:=hrel;have hB:=Hb.out.size;by_cases hlt:k<s.size
  ·have hi1:(k:Int)<(s.size:Int):=by omega
   have hT:=HT.out k hk wr;rw[HTk.out]at hT;have hR:=HR.out;rw[HA.out k hlt]at hR;have hTl:=HTl.out k hlt;have HC:=Lib.hid hT
   have hol:os.length+1≤1000000∨ticks (s.data.toList.drop k)=0:=by
    rcases Nat.eq_zero_or_pos (ticks (s.data.toList.drop k))with h |h
    ·exact Or.inr h
    ·left
     rw[if_neg (by omega)]at hR;have:=HL.out;rw[hR]at this;simp only[List.length_append,List.length_singleton]at this;omega
   clear hT HT HTk HA HR HL HTl HD;generalize ticks (s.data.toList.drop k)=n at *;by_cases hn:n=0
   ·subst hn
    rw[if_pos rfl,List.nil_append]at hR;have HR2:=Lib.hid hR;clear hR hol;go_wp2_with fail;refine HC.out.mono ?_;rintro e w' ⟨rfl,rfl⟩;go_wp2_with fail;go_roundw
    case rel=>exact⟨k+1,os,by omega,by go_num,by simpa using HR2,Ho,Hb⟩
    case measure=>simp[intOf];omega
   ·have hgt:(0:Int)<(n:Int):=by omega
    have hge:¬(n:Int)<1:=by omega
    have hmx:max n 1=n:=by omega
    rw[if_neg hn,hmx]at hR;have HR2:=Lib.hid hR;have hol2:os.length+1≤1000000:=by omega
    have hp:Hid (encR (n,k)=[.int .i64 (n:Int),.int .i64 (k:Int)]):=Lib.hid rfl;clear hR hol hmx;go_wp2_with fail;refine HC.out.mono ?_;rintro e w' ⟨rfl,rfl⟩;go_wp2_with (at_builtin;refine wpList_append_own _ rfl _ _ 175 rfl w.heap.size 198 i0 (.agg #[.int .i64 0,.int .i64 0]) 2 16 Tryz.underlying175 hi hz0 hz1 hz2 rfl (by decide) _ _ _ rfl (Ho.out.alloc _) ⟨wr.heap.size,0,none⟩ 1 1 (encR (n,k)) rfl rfl newsK (encR_one _) (by unfold maxLen;omega) (by omega) (by simp;omega) ?_);intro v' w2 hown' hgrow _;have R:=own_pushK Ho.out Hb.out hB hown' hgrow;have R1:=Lib.hid R.1;have R2:=Lib.hid R.2;have HR3:=Lib.hid (HR2.out.trans (List.append_assoc os [(n,k)] _).symm);clear R hown' hgrow HR2;go_wp2_with fail;go_roundw
    case rel=>exact⟨k+n,os++[(n,k)],by omega,by go_num,HR3,R1,R2⟩
    case measure=>simp[intOf];omega
  ·have hi1:¬(k:Int)<(s.size:Int):=by omega
   have hR:=HR.out;rw[HD.out k hlt,Rns_nil,List.append_nil]at hR;subst hR;have HC:=Lib.hid (HS.out _ R w.heap.size wr Ho.out (by have:=HL.out;omega));clear HR HT HTk HA HD HTl HS;go_wp2_with fail;refine HC.out.mono ?_;rintro e w2 ⟨rfl,d,hd1,hd2,hd3,hd4,hd5⟩;have H1:=Lib.hid hd1;have H2:=Lib.hid hd2;have H3:=Lib.hid hd3;have H4:=Lib.hid (Hb.out.trans hd4);have H5:=Lib.hid hd5;clear hd1 hd2 hd3 hd4 hd5 HC;go_wp2_with fail;go_ret;exact⟨_,d,rfl,H1.out,H2.out,H3.out,H4.out,H5.out⟩
def Place (d:List (Nat × Nat)) (x:Nat × Nat) (i:Nat):Prop:=i≤d.length∧(∀a (ha:a<d.length),a<i→rlt d[a] x=true)∧(∀a (ha:a<d.length),i≤a→rlt d[a] x=false)
theorem rlt_trans {x y z:Nat × Nat} (h1:rlt y x=false) (h2:rlt y z=true):rlt x z=true:=by
 rw[rlt_no]at h1;rw[rlt_iff]at *;omega
theorem rlt_trans' {x y z:Nat × Nat} (h1:rlt y x=false) (h2:rlt x z=false):rlt y z=false:=by
 rw[rlt_no]at *;omega
set_option maxHeartbeats 3200000 in
set_option maxRecDepth 100000 in
theorem bsearch_any (v:Value) (d:List (Nat × Nat)) (x:Nat × Nat) (w:World) (h:Rk 2 encR w v d) (hr:Rises d) (hn:d.length≤1000000):
  Calls Tryz.prog 232 #[v,.agg #[.int .i64 x.1,.int .i64 x.2],.func (.func 200) #[] #[]] w fun e w'=>∃(i:Nat) (f:Value),e=.returned (.tuple #[.int .i64 i,f])∧Place d x i∧Below w.heap.size w w':=by
 have HBx:=Lib.hid ((Below.refl w.heap.size w).alloc (Nat.le_refl _) (.cells #[.int .i64 x.1,.int .i64 x.2] 198));have HBy:=Lib.hid (alloc_new w (.cells #[.int .i64 x.1,.int .i64 x.2] 198));have HH:=Lib.hid (h.below HBx.out);have HR:=Lib.hid hr
 have HC:∀(y:Nat × Nat) (W:World) (d:Nat) (os:Array Obj),Calls Tryz.prog 200 #[.agg #[.int .i64 y.1,.int .i64 y.2],.agg #[.int .i64 x.1,.int .i64 x.2]] (grow (redrawn W d) os) fun e w''=>e=.returned (.int .i64 (cmpR y x))∧∃p:Regrown,w''=grow (redrawn W p.d) p.os:=fun y W d os=>
  Calls.regrown_of ((byLength_any y x (grow (redrawn W d) os)).mono (fun e w' ⟨h1,q,o,h2⟩=>⟨h1,by rw[h2];exact below_grow_drewN _ _ _⟩))
 have HCL:Hid (∀y,(cmpR y x<0)↔rlt y x=true):=Lib.hid (fun y=>by rw[←cmpR_lt];simp);have HCL2:Hid (∀y,¬(cmpR y x<0)↔rlt y x=false):=Lib.hid (fun y=>by rw[←cmpR_lt];simp);have HC:=Lib.hid HC;obtain⟨ao,ca,rfl⟩:=h.len;have HT:=Lib.hid (fun a b c (h1:rlt b a=false) (h2:rlt b c=true)=>rlt_trans (x:=a) (y:=b) (z:=c) h1 h2);have HT':=Lib.hid (fun a b c (h1:rlt b a=false) (h2:rlt a c=false)=>rlt_trans' (x:=a) (y:=b) (z:=c) h1 h2);clear h hr;go_enter Tryz.func232,Tryz.ntmps232;go_wp2_with fail;generalize w.alloc (.cells #[.int .i64 x.1,.int .i64 x.2] 198)=w1 at *;go_loopw [9,10] (fun i j wr=>∃lo hi:Nat,i=.int .i64 lo∧j=.int .i64 hi∧lo≤hi∧hi≤d.length∧Hid ((∀t (h:t<d.length),t<lo→rlt d[t] x=true)∧(∀t (h:t<d.length),hi≤t→rlt d[t] x=false))∧Hid (Below w1.heap.size w1 wr)) (fun i j _=>(intOf j).toNat-(intOf i).toNat)
 case atStart=>exact⟨0,d.length,rfl,rfl,Nat.zero_le _,Nat.le_refl _,Lib.hid ⟨fun t _ h=>absurd h (Nat.not_lt_zero _),fun t h1 h2=>by omega⟩,Lib.hid (Below.refl _ _)⟩
 case round=>
  obtain⟨lo,hi,rfl,rfl,hlh,hin,I,Hb⟩:=hrel;have hbx:wr.heap[w.heap.size]? = some (.cells #[.int .i64 x.1,.int .i64 x.2] 198 (0,0)):=(Hb.out.block _ (lt_of_at HBy.out)).trans HBy.out;have x0:wr.cell? ⟨w.heap.size,0,none⟩=some (.int .i64 x.1):=cell_at hbx 0;have x1:wr.cell? ⟨w.heap.size,1,none⟩=some (.int .i64 x.2):=cell_at hbx 1;clear hbx;have p0:=fun d os=>cell_regrown (w:=wr) x0 d os
  have p1:=fun d os=>cell_regrown (w:=wr) x1 d os
  by_cases hlt2:lo<hi
  ·have hm:(lo+hi)/2<d.length:=by omega
   obtain⟨b,o,hao,hbl,hcell⟩:=HH.out.at ((lo+hi)/2) hm;subst hao;have c0:wr.cell? ⟨b,o+(lo+hi)/2*2,none⟩=some (.int .i64 d[(lo+hi)/2].1):=(Hb.out.cell (by exact hbl)).trans (hcell 0 _ rfl);have c1:wr.cell? ⟨b,o+(lo+hi)/2*2+1,none⟩=some (.int .i64 d[(lo+hi)/2].2):=(Hb.out.cell (by exact hbl)).trans (hcell 1 _ rfl);have q0:=fun d os=>cell_regrown (w:=wr) c0 d os
   have q1:=fun d os=>cell_regrown (w:=wr) c1 d os
   have HCx:=Lib.hid (HC.out d[(lo+hi)/2] wr);have hcl:=Lib.hid (HCL.out d[(lo+hi)/2]);have hcl2:=Lib.hid (HCL2.out d[(lo+hi)/2])
   have I1:Hid (rlt d[(lo+hi)/2] x=true→(∀t (h:t<d.length),t<(lo+hi)/2+1→rlt d[t] x=true)∧(∀t (h:t<d.length),hi≤t→rlt d[t] x=false)):=Lib.hid (fun hy=>⟨fun t h1 h2=>by
    by_cases e:t=(lo+hi)/2
    ·subst e;exact hy
    ·exact HT.out d[t] d[(lo+hi)/2] x (HR.out t ((lo+hi)/2) h1 hm (by omega)) hy,I.out.2⟩)
   have I2:Hid (rlt d[(lo+hi)/2] x=false→(∀t (h:t<d.length),t<lo→rlt d[t] x=true)∧(∀t (h:t<d.length),(lo+hi)/2≤t→rlt d[t] x=false)):=Lib.hid (fun hy=>⟨I.out.1,fun t h1 h2=>by
    by_cases e:t=(lo+hi)/2
    ·subst e;exact hy
    ·exact HT'.out d[(lo+hi)/2] d[t] x (HR.out ((lo+hi)/2) t hm h1 (by omega)) hy⟩)
   clear hcell I HC HCL HCL2 HT HT' HR c0 c1 x0 x1;generalize d[(lo+hi)/2]=y at *;generalize cmpR y x=r at *;obtain⟨y1,y2⟩:=y;obtain⟨x1,x2⟩:=x;simp only at HCx p0 p1 q0 q1;go_upto_region 5 with fail;go_cut [31]from 15 to 34 (fun s wx=>s=.bool (decide (r<0))∧Hid (Below wr.heap.size wr wx))
   case first=>
    refine wp_region_quiet_below (by kernel_rfl) (by kernel_rfl) ?_
    repeat (go_big_quiet_step (first |(go_at_call 200;exact HCx.out _ _)))
    refine wpQuiet_nil ?_;intro w5 hw5;obtain⟨⟨dq,osq⟩,hw5'⟩:=hw5;subst hw5';have HB5:=Lib.hid (below_regrown wr dq osq);go_wp2_with fail;go_meet;exact⟨rfl,HB5⟩
   case rest=>
    obtain⟨rfl,HB5⟩:=hcut;have HB6:=Lib.hid (Hb.out.trans (HB5.out.mono Hb.out.size));clear HCx p0 p1 q0 q1 HB5 Hb;by_cases hr0:r<0
    ·have d0:decide (r<0)=true:=decide_eq_true hr0
     have I3:=Lib.hid (I1.out (hcl.out.1 hr0));rw[d0];clear d0 hr0 hcl hcl2 I1 I2;go_wp2_with fail;go_roundw
     case rel=>exact⟨(lo+hi)/2+1,hi,by rw[show((lo:Int)+(hi:Int))/2+1=(((lo+hi)/2+1:Nat):Int)by omega],rfl,by omega,hin,I3,HB6⟩
     case measure=>simp[intOf];omega
    ·have d0:decide (r<0)=false:=decide_eq_false hr0
     have I3:=Lib.hid (I2.out (hcl2.out.1 (by omega)));rw[d0];clear d0 hr0 hcl hcl2 I1 I2;go_wp2_with fail;go_roundw
     case rel=>exact⟨lo,(lo+hi)/2,rfl,by rw[show((lo:Int)+(hi:Int))/2=(((lo+hi)/2:Nat):Int)by omega],by omega,by omega,I3,HB6⟩
     case measure=>simp[intOf];omega
  ·obtain rfl:hi=lo:=by omega
   have HP:Hid (Place d x hi):=Lib.hid ⟨hin,I.out.1,I.out.2⟩;have HB6:=Lib.hid (HBx.out.trans (Hb.out.mono HBx.out.size));by_cases hn:hi<d.length
   ·obtain⟨b,o,hao,hbl,hcell⟩:=HH.out.at hi hn
    subst hao;have c0:wr.cell? ⟨b,o+hi*2,none⟩=some (.int .i64 d[hi].1):=(Hb.out.cell (by exact hbl)).trans (hcell 0 _ rfl);have c1:wr.cell? ⟨b,o+hi*2+1,none⟩=some (.int .i64 d[hi].2):=(Hb.out.cell (by exact hbl)).trans (hcell 1 _ rfl);have q0:=fun d os=>cell_regrown (w:=wr) c0 d os
    have q1:=fun d os=>cell_regrown (w:=wr) c1 d os
    have HCx:=Lib.hid (HC.out d[hi] wr);have d1:decide ((hi:Int)<(d.length:Int))=true:=decide_eq_true (by omega);clear hcell I HC HCL HCL2 HT HT' HR c0 c1 x0 x1;generalize d[hi]=y at *;obtain⟨r,hr⟩:∃r,cmpR y x=r:=⟨_,rfl⟩;rw[hr]at HCx;clear hr;obtain⟨y1,y2⟩:=y;obtain⟨x1,x2⟩:=x;simp only at HCx p0 p1 q0 q1;go_upto_region 8 with fail;refine wp_region_quiet_below (by kernel_rfl) (by kernel_rfl) ?_
    repeat (go_big_quiet_step (first |(go_at_call 200;exact HCx.out _ _)))
    refine wpQuiet_nil ?_;intro w5 hw5;obtain⟨⟨dq,osq⟩,hw5'⟩:=hw5;subst hw5';have HB7:=Lib.hid (HB6.out.trans ((below_regrown wr dq osq).mono HB6.out.size));go_wp2_with fail;go_ret2
    first |exact⟨hi,_,rfl,HP.out,HB7.out⟩|exact⟨hi,rfl,HP.out,HB7.out⟩|exact⟨hi,⟨_,rfl⟩,HP.out,HB7.out⟩
   ·have d1:decide ((hi:Int)<(d.length:Int))=false:=decide_eq_false (by omega)
    clear I HC HCL HCL2 HT HT' HR x0 x1 p0 p1;go_upto_region 8 with fail;refine wp_region_quiet_below (by kernel_rfl) (by kernel_rfl) ?_
    repeat (go_big_quiet_step (fail))
    refine wpQuiet_nil ?_;intro w5 hw5;obtain⟨⟨dq,osq⟩,hw5'⟩:=hw5;subst hw5';have HB7:=Lib.hid (HB6.out.trans ((below_regrown wr dq osq).mono HB6.out.size));go_wp2_with fail;go_ret2
    first |exact⟨hi,_,rfl,HP.out,HB7.out⟩|exact⟨hi,rfl,HP.out,HB7.out⟩|exact⟨hi,⟨_,rfl⟩,HP.out,HB7.out⟩
theorem found_place {d:List (Nat × Nat)} {u v:List UInt8} (hv:v.head?≠some 96) (hp:d.Perm (Rns 0 (u++v))) (n i:Nat) (hn:0<n) (hr:Rises d) (h:Place d (n,u.length) i):
 fstRun n (Rns u.length v)=if h:i<d.length then(if d[i].1=n then some d[i].2 else none)else none:=found_run hv hp n i hn hr h.1 h.2.1 h.2.2
def endAns:Option Nat→Int
 |some p=>(p:Int)
 |none=>-1
set_option maxHeartbeats 3200000 in
set_option maxRecDepth 100000 in
theorem closer_any (v:Value) (d:List (Nat × Nat)) (u t:List UInt8) (n:Nat) (w:World) (h:Rk 2 encR w v d) (hr:Rises d) (hl:d.length≤1000000) (hp:d.Perm (Rns 0 (u++t))) (ht:t.head?≠some 96) (hn:0<n):
  Calls Tryz.prog 216 #[v,.agg #[.int .i64 n,.int .i64 u.length]] w fun e w'=>e=.returned (.int .i64 (endAns (fstRun n (Rns u.length t))))∧Below w.heap.size w w':=by
 have HBx:=Lib.hid ((Below.refl w.heap.size w).alloc (Nat.le_refl _) (.cells #[.int .i64 n,.int .i64 u.length] 198));have HBy:=Lib.hid (alloc_new w (.cells #[.int .i64 n,.int .i64 u.length] 198));have HS:=Lib.hid (bsearch_any v d (n,u.length) _ (h.below HBx.out) hr hl);have HF:=Lib.hid (fun i hi=>found_place ht hp n i hn hr hi);have HH:=Lib.hid (h.below HBx.out);obtain⟨ao,ca,rfl⟩:=h.len;clear h hr hp ht hn;generalize fstRun n (Rns u.length t)=F at *;generalize u.length=q at *;go_enter Tryz.func216,Tryz.ntmps216;go_wp2_with fail;generalize w.alloc (.cells #[.int .i64 n,.int .i64 q] 198)=w1 at *;have x0:w1.cell? ⟨w.heap.size,0,none⟩=some (.int .i64 n):=cell_at HBy.out 0;have x1:w1.cell? ⟨w.heap.size,1,none⟩=some (.int .i64 q):=cell_at HBy.out 1;go_wp2_with fail;refine HS.out.mono ?_;rintro e w2 ⟨i,f,rfl,hpl,hb2⟩;have HFi:=Lib.hid (HF.out i hpl);have hil:=hpl.1;have HB2:=Lib.hid (HBx.out.trans (hb2.mono HBx.out.size));have hbx:w2.heap[w.heap.size]? = some (.cells #[.int .i64 n,.int .i64 q] 198 (0,0)):=(hb2.block _ (lt_of_at HBy.out)).trans HBy.out;have y0:w2.cell? ⟨w.heap.size,0,none⟩=some (.int .i64 n):=cell_at hbx 0;have HH2:=Lib.hid (HH.out.below hb2);clear hbx hpl HF HS x0 x1 hb2 HH HBx HBy;by_cases hn:i<d.length
 ·obtain⟨b,o,hao,hbl,hcell⟩:=HH2.out.at i hn
  subst hao;have c0:w2.cell? ⟨b,o+i*2,none⟩=some (.int .i64 d[i].1):=hcell 0 _ rfl;have c1:w2.cell? ⟨b,o+i*2+1,none⟩=some (.int .i64 d[i].2):=hcell 1 _ rfl;have HR:Hid (F=if d[i].1=n then some d[i].2 else none):=Lib.hid (by rw[HFi.out,dif_pos hn]);have e1:((i:Int)==(d.length:Int))=false:=by rw[beq_eq_false_iff_ne];omega
  have hi1:(i:Int)<(d.length:Int):=by omega
  clear hcell HFi HH2;generalize d[i]=y at *;obtain⟨y1,y2⟩:=y;simp only at c0 c1 HR;by_cases hy:y1=n
  ·subst hy
   have e2:((y1:Int)==(y1:Int))=true:=by simp
   have e3:((y1:Int)!=(y1:Int))=false:=by simp
   have HR2:Hid (F=some y2):=Lib.hid (by rw[HR.out,if_pos rfl]);clear HR;go_wp2_with fail;go_region;go_wp2_with fail;go_ret;exact⟨by rw[HR2.out];rfl,by first |exact HB2.out |exact HB2.out.drew⟩
  ·have e2:((y1:Int)==(n:Int))=false:=by rw[beq_eq_false_iff_ne];omega
   have e3:((y1:Int)!=(n:Int))=true:=by rw[bne,e2];rfl
   have HR2:Hid (F=none):=Lib.hid (by rw[HR.out,if_neg hy]);clear HR hy;go_wp2_with fail;go_region;go_wp2_with fail;go_ret;exact⟨by rw[HR2.out];rfl,by first |exact HB2.out |exact HB2.out.drew⟩
 ·have e1:((i:Int)==(d.length:Int))=true:=by rw[beq_iff_eq];omega
  have HR:Hid (F=none):=Lib.hid (by rw[HFi.out,dif_neg hn]);clear HFi HH2;go_wp2_with fail;go_region;go_wp2_with fail;go_ret;exact⟨by rw[HR.out];rfl,by first |exact HB2.out |exact HB2.out.drew⟩
end Sp
namespace Sp
open Tk (cls)
def CG (t:List UInt8) (B:List Pc):Prop:=raws B=t∧Good B∧∀p P,B=p::P→p.kind≠5
theorem app0 (B:List Pc):([]:List Pc).append B=B:=rfl
theorem CG_nil:CG [] []:=⟨rfl,trivial,fun p P h=>by cases h⟩
def Cut1 (t:List UInt8) (ps:List Pc) (t':List UInt8):Prop:=∀B,CG t' B→CG t (ps++B)
theorem Cut1.trans {t t' t'':List UInt8} {a b:List Pc} (h:Cut1 t a t') (k:Cut1 t' b t''):Cut1 t (a++b) t'':=fun B hB=>by
 rw[List.append_assoc];exact h _ (k B hB)
theorem Cut1.refl (t:List UInt8):Cut1 t [] t:=fun B h=>h
theorem Cut1.done {t:List UInt8} {ps:List Pc} (h:Cut1 t ps []):CG t ps:=by
 have:=h [] CG_nil;rwa[List.append_nil]at this
theorem gl_plain (e l:Bool):∀(a:List UInt8),a≠[]→(∀c∈a,spcB c=false)→∀(L:List Sp) (t:List UInt8),gl e l L (a++t)=gl e l (snocT L a) t
 |[],h,_,_,_=>absurd rfl h
 |[c],_,hc,L,t=>gl_text (stp_plain (hc c (by simp)) t)
 |c::d::r,_,hc,L,t=>by
  rw[List.cons_append,gl_text (stp_plain (hc c (by simp)) _),gl_plain e l (d::r) (by simp) (fun x hx=>hc x (List.mem_cons_of_mem _ hx)),snocT_snocT];rfl
theorem cut_text {p:Pc} {t t':List UInt8} (hk:p.kind=0) (hs:p.s≠[]) (ht:t=p.raw++t') (hg:∀e l L,gl e l L t=gl e l (snocT L p.s) t'):Cut1 t [p] t':=fun B ⟨h1,h2,h3⟩=>by
 refine⟨by rw[List.singleton_append,raws,h1,ht],⟨h2,Or.inl ⟨hk,hs,fun e l L=>?_⟩⟩,fun q P h=>?_⟩
 ·rw[app0,h1,←ht];exact hg e l L
 ·cases h;omega
theorem cut_plain {a t':List UInt8} (ha:a≠[]) (hc:∀c∈a,spcB c=false):Cut1 (a++t') [⟨0,a,a⟩] t':=
 cut_text rfl ha rfl (fun e l L=>gl_plain e l a ha hc L t')
theorem cut_esc {c:UInt8} {t':List UInt8} (hc:cls c=4):Cut1 (92::c::t') [⟨0,[c],[92,c]⟩] t':=
 cut_text rfl (by simp) rfl (fun e l L=>gl_text (by
  unfold stp stepOf;rw[if_neg (by simp),if_pos ⟨rfl,by simp[hc]⟩];rfl))
theorem cut_slash {t':List UInt8} (hc:t'.head?.map cls≠some 4):Cut1 (92::t') [⟨0,[92],[92]⟩] t':=
 cut_text rfl (by simp) rfl (fun e l L=>gl_text (by
  unfold stp stepOf;rw[if_neg (by simp),if_neg (fun h=>hc h.2),if_neg (by decide),if_neg (by decide),if_neg (fun h=>absurd h.1 (by decide))]))
theorem ticks_split (b:UInt8) (r:List UInt8):b::r=List.replicate (ticks (b::r)) 96++(b::r).drop (ticks (b::r)):=by
 rw[←ticks_take,List.take_append_drop]
theorem cut_ticks {r:List UInt8} (hn:code (ticks (96::r)) (96::r).length [] ((96::r).drop (ticks (96::r)))=none):
  Cut1 (96::r) [⟨0,List.replicate (ticks (96::r)) 96,List.replicate (ticks (96::r)) 96⟩] ((96::r).drop (ticks (96::r))):=by
 have hp:=ticks_pos (r:=r) rfl;refine cut_text rfl (fun h=>?_) (ticks_split 96 r) (fun e l L=>gl_text ?_)
 ·have h':List.replicate (ticks (96::r)) (96:UInt8)=[]:=h
  rw[List.replicate_eq_nil_iff]at h';omega
 ·unfold stp stepOf
  rw[if_neg (by simp),if_neg (fun h=>absurd h.1 (by decide)),if_pos rfl,hn]
theorem cut_code {r x t':List UInt8} (hn:code (ticks (96::r)) (96::r).length [] ((96::r).drop (ticks (96::r)))=some (x,t')):
  ∃raw,Cut1 (96::r) [⟨1,strip x,raw⟩] t':=by
 have hp:=ticks_pos (r:=r) rfl;obtain⟨_,_,y,hy,hd,_⟩:=code_some _ hp _ _ _ _ _ hn;rw[List.nil_append]at hy;subst hy;have hsp:=ticks_split 96 r;rw[hd]at hsp;refine⟨List.replicate (ticks (96::r)) 96++(x++List.replicate (ticks (96::r)) 96),fun B ⟨h1,h2,h3⟩=>?_⟩
 have hraw:(96::r)=(List.replicate (ticks (96::r)) 96++(x++List.replicate (ticks (96::r)) 96))++t':=by
  rw[List.append_assoc,List.append_assoc];exact hsp
 refine⟨by rw[List.singleton_append,raws,h1,←hraw],⟨h2,Or.inr (Or.inl ⟨rfl,fun e l L=>?_⟩)⟩,fun q P h=>?_⟩
 ·rw[app0,h1,←hraw]
  refine gl_span ?_;unfold stp stepOf;rw[if_neg (by simp),if_neg (fun h=>absurd h.1 (by decide)),if_pos rfl,hn]
 ·cases h;exact(by decide:(1:Nat)≠5)
theorem cut_star (t':List UInt8):Cut1 (42::t') [⟨2,[42],[42]⟩] t':=fun B ⟨h1,h2,h3⟩=>
 ⟨by rw[List.singleton_append,raws,h1];rfl,⟨h2,Or.inr (Or.inr (Or.inl ⟨rfl,rfl,rfl⟩))⟩,fun q P h=>by cases h;decide⟩
theorem cut_open (t':List UInt8):Cut1 (91::t') [⟨3,[91],[91]⟩] t':=fun B ⟨h1,h2,h3⟩=>
 ⟨by rw[List.singleton_append,raws,h1];rfl,⟨h2,Or.inr (Or.inr (Or.inr (Or.inl ⟨rfl,rfl,rfl⟩)))⟩,fun q P h=>by cases h;decide⟩
theorem cut_shut {t':List UInt8} (hd:dest t'=none):Cut1 (93::t') [⟨4,[93],[93]⟩] t':=fun B ⟨h1,h2,h3⟩=>by
 have ht:tailOf B=none:=by
  cases B with
  |nil=>rfl
  |cons p P=>rw[tailOf,if_neg (h3 p P rfl)]
 exact⟨by rw[List.singleton_append,raws,h1];rfl,⟨h2,Or.inr (Or.inr (Or.inr (Or.inr (Or.inl ⟨rfl,rfl,rfl,by rw[app0,h1,hd,ht]⟩))))⟩,fun q P h=>by cases h;decide⟩
theorem spc_dest {c:UInt8} (h:destB c=true):spcB c=false:=by
 unfold spcB;simp only[Bool.or_eq_false_iff,decide_eq_false_iff_not];refine⟨⟨⟨⟨?_,?_⟩,?_⟩,?_⟩,?_⟩<;>(intro e;rw[e]at h;revert h;decide)
theorem cut_tail {t' d t'':List UInt8} (hd:dest t'=some (d,t'')):Cut1 (93::t') [⟨4,[93],[93]⟩,⟨5,40::(d++[41]),40::(d++[41])⟩] t'':=fun B ⟨h1,h2,h3⟩=>by
 obtain⟨hne,hc,ht⟩:=dest_some hd;have ht':t'=(40::(d++[41]))++t'':=by rw[ht];simp
 refine⟨?_,⟨⟨h2,Or.inr (Or.inr (Or.inr (Or.inr (Or.inr ⟨rfl,⟨by simp,fun e l L=>?_⟩,by simp⟩))))⟩,Or.inr (Or.inr (Or.inr (Or.inr (Or.inl ⟨rfl,rfl,rfl,?_⟩))))⟩,fun q P h=>by cases h;decide⟩
 ·show raws (_::_::B)=_
  rw[raws,raws,h1,ht'];rfl
 ·rw[app0]
  refine gl_plain e l _ (by simp) (fun c hm=>?_) L _;rcases List.mem_cons.1 hm with rfl |hm
  ·decide
  ·rcases List.mem_append.1 hm with hm |hm
   ·exact spc_dest (hc c hm)
   ·rw[List.mem_singleton]at hm
    subst hm;decide
 ·show dest (raws (_::B))=tailOf (_::B)
  rw[raws,tailOf,if_pos rfl,h1,←ht',hd];simp
end Sp
namespace Sp
open Go.RowKit Go.Shelf
open Cm (Keep lt_of_at)
def Mine (K:TypeId→Bool) (n0:Nat) (A B:World):Prop:=
 Below n0 A B∧∀(k:Nat) (us:Array Value) (t:TypeId) (fr:Nat × Nat),A.heap[k]? = some (Obj.cells us t fr)→K t=true→B.heap[k]? = some (Obj.cells us t fr)
def ItS (K:TypeId→Bool) (n0:Nat) (A B:World):Prop:=Mine K n0 A B∧∀(k:Nat) (o:Obj),A.heap[k]? = some o→o.isCells=false→B.heap[k]? = some o
def RdS (K:TypeId→Bool) (n0:Nat) (A B:World):Prop:=
 Below n0 A B∧∀(k:Nat) (us:Array Value) (t:TypeId) (fr:Nat × Nat),A.heap[k]? = some (Obj.cells us t fr)→K t=false→B.heap[k]? = some (Obj.cells us t fr)
def BdS (K:TypeId→Bool) (n0:Nat) (A B:World):Prop:=RdS K n0 A B∧∀(k:Nat) (o:Obj),A.heap[k]? = some o→o.isCells=false→B.heap[k]? = some o
theorem RdS.trans {K:TypeId→Bool} {n0:Nat} {A B C:World} (h:RdS K n0 A B) (k:RdS K n0 B C):RdS K n0 A C:=
 ⟨h.1.trans k.1,fun i us t fr hi ht=>k.2 i us t fr (h.2 i us t fr hi ht) ht⟩
theorem BdS.trans {K:TypeId→Bool} {n0:Nat} {A B C:World} (h:BdS K n0 A B) (k:BdS K n0 B C):BdS K n0 A C:=
 ⟨h.1.trans k.1,fun i o hi ho=>k.2 i o (h.2 i o hi ho) ho⟩
theorem ItS.of_keep {K:TypeId→Bool} {n0:Nat} {S:Nat→Prop} {A B:World} (h:Keep S A B) (hn:n0≤A.heap.size) (hS:∀k,S k→n0≤k) (hK:∀k,S k→∃(us:Array Value) (t:TypeId) (fr:Nat × Nat),A.heap[k]? = some (Obj.cells us t fr)∧K t=false):ItS K n0 A B:=by
 refine⟨⟨h.below hS hn,fun k us t fr hk ht=>h.at hk (fun hs=>?_)⟩,fun k o hk ho=>h.at hk (fun hs=>?_)⟩
 ·obtain⟨us',t',fr',e,ht'⟩:=hK k hs
  rw[hk]at e;cases e;rw[ht]at ht';cases ht'
 ·obtain⟨us',t',fr',e,ht'⟩:=hK k hs
  rw[hk]at e;cases e;simp[Obj.isCells]at ho
theorem BdS.of_keep {K:TypeId→Bool} {n0:Nat} {S:Nat→Prop} {A B:World} (h:Keep S A B) (hn:n0≤A.heap.size) (hS:∀k,S k→n0≤k) (hK:∀k,S k→∃(us:Array Value) (t:TypeId) (fr:Nat × Nat),A.heap[k]? = some (Obj.cells us t fr)∧K t=true):BdS K n0 A B:=by
 refine⟨⟨h.below hS hn,fun k us t fr hk ht=>h.at hk (fun hs=>?_)⟩,fun k o hk ho=>h.at hk (fun hs=>?_)⟩
 ·obtain⟨us',t',fr',e,ht'⟩:=hK k hs
  rw[hk]at e;cases e;rw[ht]at ht';cases ht'
 ·obtain⟨us',t',fr',e,ht'⟩:=hK k hs
  rw[hk]at e;cases e;simp[Obj.isCells]at ho
theorem Mine.keep {K:TypeId→Bool} {n0:Nat} {A B:World} (h:Mine K n0 A B):Keep (fun k=>∀(us:Array Value) (t:TypeId) (fr:Nat × Nat),A.heap[k]? = some (Obj.cells us t fr)→K t=false) A B:=
 ⟨h.1.os,h.1.tape,h.1.output,h.1.size,fun k hk hs=>by
  obtain⟨o,ho⟩:∃o,A.heap[k]? = some o:=⟨_,Array.getElem?_eq_getElem hk⟩;by_cases hc:∃(us:Array Value) (t:TypeId) (fr:Nat × Nat),o=Obj.cells us t fr∧K t=true
  ·obtain⟨us,t,fr,rfl,ht⟩:=hc
   rw[h.2 k us t fr ho ht,ho]
  ·refine absurd (fun us t fr e=>?_) hs
   rw[ho]at e;cases e;cases hK:K t
   ·rfl
   ·exact absurd ⟨us,t,fr,rfl,hK⟩ hc⟩
def Goes {α:Type} (K:TypeId→Bool) (P:Program) (gf:Nat) (lb:Array Value) (encs:α→Array Value) (n0 n1:Nat) (Src:List α→World→Prop) (xs:List α) (w0:World):Prop:=
 ∀(l:Nat) (J:List α→World→Prop) (w:World),Below w0.heap.size w0 w→(∀pre W,J pre W→Src pre W)→(∀pre A B,J pre A→ItS K n0 A B→J pre B)→
  (∀pre x W,J pre W→(pre++[x])<+: xs→YieldAt Fence.wide 3 P l (encs x) W (fun e W'=>e=.returned (.bool true)∧J (pre++[x]) W'∧RdS K n1 W W'))→J [] w→
  Calls P gf (#[.func (.yield l) #[] #[]]++lb) w (fun e w'=>(∃v,e=.returned v)∧J xs w')
theorem turn_mine {K:TypeId→Bool} {n0 n1 l:Nat} {A:World} {o o':Obj} (hl:A.heap[l]? = some o) (ho:o.isCells=false) (hn:n0≤l) (hn':n1≤l):Mine K n0 A (A.putObj l o')∧RdS K n1 A (A.putObj l o'):=by
 have hb:Below n0 A (A.putObj l o'):=(Below.refl n0 A).grown (grownBy_putObj' A l o') (by have:=(Array.getElem?_eq_some_iff.1 hl).1;omega) (fun k e=>by cases e;omega);have hb':Below n1 A (A.putObj l o'):=(Below.refl n1 A).grown (grownBy_putObj' A l o') (by have:=(Array.getElem?_eq_some_iff.1 hl).1;omega) (fun k e=>by cases e;omega)
 have hc:∀(k:Nat) (us:Array Value) (t:TypeId) (fr:Nat × Nat),A.heap[k]? = some (Obj.cells us t fr)→(A.putObj l o').heap[k]? = some (Obj.cells us t fr):=fun k us t fr hk=>by
  have hne:k≠l:=by
   intro e;subst e;rw[hl]at hk;cases hk;simp[Obj.isCells]at ho
  rw[World.putObj_heap_other hne,hk]
 exact⟨⟨hb,fun k us t fr hk _=>hc k us t fr hk⟩,⟨hb',fun k us t fr hk _=>hc k us t fr hk⟩⟩
theorem for_goes {α:Type} {K:TypeId→Bool} {P:Program} {g:Operand} {ps:Array Tmp} {assign body:Code} {Q:Exit→Act→World→Prop} {a:Act} {w:World} {m:Nat}
  {gf:Nat} {lb:Array Value} (hg:a.eval g=.func (.func gf) #[] lb) (eg:Enters P gf) {encs:α→Array Value} {n0 n1:Nat} {Src:List α→World→Prop} {xs:List α} (hn0:n0≤w.heap.size) (hn1:n1≤w.heap.size)
  (hseq:Goes K P gf lb encs n0 n1 Src xs w) (hps:∀x,(encs x).size=ps.size)
  (I:List α→World→Prop) (hsrc:∀pre W,I pre W→Src pre W) (hI:∀pre A B,I pre A→Mine K n0 A B→I pre B) (h0:I [] w)
  (Ax:α→Act→World→Prop) (hAx:∀x a' A B,Ax x a' A→Mine K n0 A B→Ax x a' B)
  (hassign:∀(l:Nat) (pre:List α) (x:α) (W:World) (R:Act→World→Prop),I pre W→(∀a' W',BdS K n1 W W'→I pre W'→Ax x a' W'→R a' W')→
   assign.wpIn (Fence.wide.inRound l) 3 P (Exit.then R (fun _ _ _=>False)) {tmps:=(ps.zip (encs x)).foldl (fun t (p,v)=>t.setIfInBounds p v) a.tmps,defers:=[]} W)
  (hbody:∀(l:Nat) (pre:List α) (x:α) (a':Act) (W:World),I pre W→Ax x a' W→(pre++[x])<+: xs→body.wpIn (Fence.wide.inRound l) 3 P (fun e _ W'=>e=.normal∧I (pre++[x]) W'∧BdS K n1 W W') a' W)
  (hdone:∀(D:Nat) (W:World),w.heap.size≤D→I xs W→W.heap[D]? = some (Obj.deferred (some []))→Q .normal {a with defers:={target:=.collected D,args:=#[]}::a.defers} W):
  (Code.rangeFunc g ps assign body).wpIn Fence.wide m P Q a w:=by
 refine wpIn_rangeFunc (fun fn hfn=>?_);obtain⟨rc,hrc⟩:∃rc:LoopState→Option Code→Loop,rc=fun st pe=>{state:=st,pending:=pe,fn,tmps:=a.tmps,params:=ps,assign,body,defers:=w.heap.size}:=⟨_,rfl⟩
 obtain⟨W1,hW1⟩:∃W1,(w.alloc (.deferred (some []))).alloc (Obj.loop (rc .ready none))=W1:=⟨_,rfl⟩;have hB1:Below w.heap.size w W1:=by rw[←hW1];exact((Below.refl _ w).alloc (Nat.le_refl _) _).alloc (by simp) _
 have hL1:W1.heap[w.heap.size+1]? = some (Obj.loop (rc .ready none)):=by
  rw[←hW1];have:=World.alloc_heap_new (w.alloc (.deferred (some []))) (Obj.loop (rc .ready none));rwa[World.size_alloc]at this
 have hD1:W1.heap[w.heap.size]? = some (Obj.deferred (some [])):=by
  rw[←hW1];exact(Below.heap_alloc _ _ _ (by simp)).trans (World.alloc_heap_new w _)
 have hI1:I [] W1:=hI _ _ _ h0 ⟨hB1.mono hn0,fun k us t fr hk _=>by rw[hB1.block k (lt_of_at hk)];exact hk⟩
 refine⟨w.heap.size+1,[{target:=.collected w.heap.size,args:=#[]}],W1,{target:=.fn (.func gf) lb,args:=#[.func (.yield (w.heap.size+1)) #[] #[]]},W1,gf,
  #[.func (.yield (w.heap.size+1)) #[] #[]]++lb,W1,?_,?_,fun _ _=>trivial,?_,fun h=>absurd h (by simp[Fence.wide]),?_⟩
 ·rw[←hW1,hrc];exact run_enterLoop_outer _ _ _ _ _
 ·simp only[resolve,hg]
  simp[go_sem]
 ·simp[invoke,go_sem,eg _ _]
 refine callsIn_wide.2 ?_;refine(hseq (w.heap.size+1) (fun pre W=>I pre W∧W.heap[w.heap.size+1]? = some (Obj.loop (rc .ready none))∧W.heap[w.heap.size]? = some (Obj.deferred (some []))) W1 hB1 (fun pre W h=>hsrc pre W h.1) ?_ ?_ ⟨hI1,hL1,hD1⟩).mono ?_
 ·rintro pre A B ⟨h1,h2,h3⟩ hit
  exact⟨hI _ _ _ h1 hit.1,hit.2 _ _ h2 rfl,hit.2 _ _ h3 rfl⟩
 ·rintro pre x W ⟨hi,hl,hk⟩ hlen
  have hy:=run_yield (P:=P) (args:=encs x) hl (by rw[hrc];exact hps x);rw[hrc]at hy;refine⟨fn,_,assign,body,hy,roundIn_of_wpIn hfn (hassign _ pre x W _ hi ?_)⟩;clear hy;intro a' Wa hbd hia hax;have hla:=hbd.2 _ _ hl rfl;have hka:=hbd.2 _ _ hk rfl;refine⟨_,run_beginRound hla (by rw[hrc]),?_⟩;have tm:=turn_mine (K:=K) (n0:=n0) (n1:=n1) (o':=Obj.loop {rc .ready none with state:=.busy}) hla rfl (by omega) (by omega);have hl2:(Wa.putObj (w.heap.size+1) (Obj.loop {rc .ready none with state:=.busy})).heap[w.heap.size+1]? = some (Obj.loop {rc .ready none with state:=.busy}):=World.putObj_heap_same (lt_of_at hla);have hk2:(Wa.putObj (w.heap.size+1) (Obj.loop {rc .ready none with state:=.busy})).heap[w.heap.size]? = some (Obj.deferred (some [])):=(World.putObj_heap_other (by omega)).trans hka;refine wpIn_mono (hbody _ pre x a' _ (hI _ _ _ hia tm.1) (hAx _ _ _ _ hax tm.1) hlen) ?_;rintro e a3 W3 ⟨rfl,hi3,hbd3⟩;have hl3:=hbd3.2 _ _ hl2 rfl;have hk3:=hbd3.2 _ _ hk2 rfl;have tm3:=turn_mine (K:=K) (n0:=n0) (n1:=n1) (o':=Obj.loop (rc .ready none)) hl3 rfl (by omega) (by omega);have hr:=run_endRound (P:=P) none hl3;refine⟨.bool true,W3.putObj (w.heap.size+1) (Obj.loop (rc .ready none)),?_,rfl,⟨hI _ _ _ hi3 tm3.1,World.putObj_heap_same (lt_of_at hl3),(World.putObj_heap_other (by omega)).trans hk3⟩,hbd.1.trans (tm.2.trans (hbd3.1.trans tm3.2))⟩;rw[hr,hrc];rfl
 ·rintro e W2 ⟨⟨v,rfl⟩,hi,hl,hk⟩
  have tm2:=turn_mine (K:=K) (n0:=n0) (n1:=n1) (o':=Obj.loop {rc .ready none with state:=.exhausted}) hl rfl (by omega) (by omega);refine⟨none,_,?_,hdone w.heap.size _ (Nat.le_refl _) (hI _ _ _ hi tm2.1) ((World.putObj_heap_other (by omega)).trans hk)⟩;have:=run_endLoop (P:=P) hl (by rw[hrc];simp);rw[this,hrc]
end Sp
namespace Sp
open Go.RowKit
open Tk (S S_of)
open Cm (cell_at alloc_at alloc_new lt_of_at frozen_at set_at Rk Keep own_keep own_obj)
def kC (t:TypeId):Bool:=t==177||t==189||t==198
def encP (p:Pc):List Value:=[.int .i64 p.kind,.string (S p.s),.int .i64 0,.int .i64 0]
theorem encP_len (p:Pc):(encP p).length=4:=rfl
theorem type_eq {w:World} {k:Nat} {us us':Array Value} {t t':TypeId} {fr fr':Nat × Nat} (h:w.heap[k]? = some (.cells us t fr)) (h':w.heap[k]? = some (.cells us' t' fr')):t=t':=by
 rw[h]at h';cases h';rfl
theorem own_slice {w:World} {B e z n:Nat} {v:Value} {xs:List Value} (h:w.ownsRow B e z v n xs):∃ao n' cap,v=.slice ao n' cap:=by
 rcases h.2 with ⟨rfl,_⟩|⟨g,cap,cur,rfl,_⟩
 ·exact⟨_,_,_,rfl⟩
 ·exact⟨_,_,_,rfl⟩
theorem infoPc:(Tryz.prog.info? 189).map (fun i=>(i.zero,i.size,i.bytes))=some (some (.agg #[.int .i64 0,.string ⟨#[]⟩,.int .i64 0,.int .i64 0]),4,40):=by kernel_rfl
theorem encP_one (p:Pc):∀v∈encP p,v.oneCell'=true:=by
 intro v hv;simp[encP]at hv;rcases hv with rfl |rfl |rfl<;>rfl
def RunsAt (w:World) (v:Value) (d:List (Nat × Nat)):Prop:=Rk 2 encR w v d∧RunT w v
theorem RunsAt.keep {S:Nat→Prop} {w w':World} {v:Value} {d:List (Nat × Nat)} (h:RunsAt w v d) (k:Keep S w w') (hS:∀g cur fr,w.heap[g]? = some (.cells cur 198 fr)→¬S g):RunsAt w' v d:=by
 obtain⟨⟨ao,cap,rfl,hc,hx⟩,ht⟩:=h
 have ht':RunT w' (.slice ao d.length cap):=fun g hg=>by
  obtain⟨cur,fr,h⟩:=ht g hg;exact⟨cur,fr,k.at h (hS g cur fr h)⟩
 refine⟨⟨ao,cap,rfl,hc,?_⟩,ht'⟩;rcases hx with hx |⟨b,o,hao,hlt,hcell⟩
 ·exact Or.inl hx
 ·subst hao
  obtain⟨cur,fr,hb⟩:=ht b rfl;have hn:=hS b cur fr hb;exact Or.inr ⟨b,o,rfl,Nat.lt_of_lt_of_le hlt k.size,fun j x hj q u hq=>(k.cell (p:=⟨b,o+j*2+q,none⟩) hlt hn).trans (hcell j x hj q u hq)⟩
def Cst (C B:Nat) (w:World) (line:ByteArray) (d:List (Nat × Nat)) (ps:List Pc):Prop:=
 C<B∧B≤w.heap.size∧∃rv ov,w.heap[C]? = some (.cells #[.string line,rv,ov] 177 (0,0))∧RunsAt w rv d∧w.ownsRow B 189 4 ov ps.length (ps.flatMap encP)
theorem Cst.go {C B:Nat} {w w':World} {line:ByteArray} {d:List (Nat × Nat)} {ps:List Pc} (h:Cst C B w line d ps) (hb:Below w.heap.size w w'):Cst C B w' line d ps:=by
 obtain⟨h1,h2,rv,ov,h3,h4,h5⟩:=h;have k:Keep (fun _=>False) w w':=Keep.of_below hb;exact⟨h1,Nat.le_trans h2 hb.size,rv,ov,k.at h3 (fun h=>h),h4.keep k (fun _ _ _ _ h=>h),own_keep h5 k (fun _ _ h=>h)⟩
theorem bds_below {K:TypeId→Bool} {n:Nat} {w w':World} (hb:Below w.heap.size w w') (hn:n≤w.heap.size):BdS K n w w':=
 BdS.of_keep (S:=fun _=>False) (Keep.of_below hb) hn (fun _ h=>h.elim) (fun _ h=>h.elim)
def Put (C B:Nat) (w w':World) (line:ByteArray) (rv ov v':Value) (d:List (Nat × Nat)) (ps:List Pc):Prop:=
 w'.ownsRow B 189 4 v' ps.length (ps.flatMap encP)∧w'.heap[C]? = some (.cells #[.string line,rv,ov] 177 (0,0))∧RunsAt w' rv d∧w.heap.size≤w'.heap.size∧BdS kC C w w'
theorem Cst.push {C B:Nat} {w w2:World} {line:ByteArray} {d:List (Nat × Nat)} {ps:List Pc} {rv ov:Value} {c:Nat} (p:Pc) (h1:C<B) (h2:B≤w.heap.size)
  (h3:w.heap[C]? = some (.cells #[.string line,rv,ov] 177 (0,0))) (h4:RunsAt w rv d) (h5:w.ownsRow B 189 4 ov ps.length (ps.flatMap encP))
  (hb:Below w.heap.size w w2) (hc:w2.heap[c]? = some (.cells #[.int .i64 p.kind,.string (S p.s),.int .i64 0,.int .i64 0] 189 (0,0))) (hl:ps.length+1≤1000000):
  ∃v' w',(∀ty,(Builtin.append_ #[154,154] ty #[ov,.slice (some ⟨c,0,none⟩) 1 1]).run Tryz.prog w2=.ok v' w')∧Put C B w w' line rv ov v' d (ps++[p]):=by
 obtain⟨i0,hi,hz0,hz1,hz2⟩:=info_parts infoPc;have k:Keep (fun _=>False) w w2:=Keep.of_below hb;have o2:=own_keep h5 k (fun _ _ h=>h)
 have hnews:∀j u,(encP p)[j]? = some u→w2.cell? ((⟨c,0,none⟩:Addr).add j)=some u:=fun j u hj=>by
  rw[add_zero,cell_at hc];have hj':([.int .i64 p.kind,.string (S p.s),.int .i64 0,.int .i64 0]:List Value)[j]? = some u:=hj
  simpa using hj'
 obtain⟨v',w',g1,g2,g3,_⟩:=run_append_own (P:=Tryz.prog) w2 B 154 0 189 i0 (.agg #[.int .i64 0,.string ⟨#[]⟩,.int .i64 0,.int .i64 0]) 4 40 Tryz.underlying154 hi hz0 hz1 hz2 rfl (by decide) ov ps.length (ps.flatMap encP) o2 ⟨c,0,none⟩ 1 1 (encP p) rfl hnews (encP_one p) (by unfold maxLen;omega) (by omega) (Nat.le_trans h2 hb.size);have kg:Keep (fun g=>ov.ownBlock=some g) w w':=(k.mono (fun _ _ h=>h.elim)).grown g3 (fun g hg=>Or.inl hg);have hty:∀g,ov.ownBlock=some g→∃cur,w.heap[g]? = some (.cells cur 189 (0,0)):=fun g hg=>own_obj h5 hg
 have hC:¬ov.ownBlock=some C:=fun e=>by
  have:=(h5.lt C e).1;omega
 refine⟨v',w',fun ty=>g1,?_,kg.at h3 hC,h4.keep kg (fun g cur fr hg e=>?_),kg.size,BdS.of_keep kg (by omega) (fun g hg=>by have:=(h5.lt g hg).1;omega) (fun g hg=>?_)⟩
 ·rw[List.length_append,List.flatMap_append]
  simpa using g2
 ·obtain⟨cur',h'⟩:=hty g e
  exact absurd (type_eq hg h') (by decide)
 ·obtain⟨cur,h'⟩:=hty g hg
  exact⟨cur,_,_,h',by decide⟩
theorem Put.stored {C B:Nat} {w w':World} {line:ByteArray} {rv ov v':Value} {d:List (Nat × Nat)} {ps:List Pc} (h:Put C B w w' line rv ov v' d ps) (h1:C<B) (h2:B≤w.heap.size):
  Cst C B (w'.setCell ⟨C,2,none⟩ v') line d ps∧BdS kC C w (w'.setCell ⟨C,2,none⟩ v'):=by
 obtain⟨p1,p2,p3,p4,p5⟩:=h;have k:Keep (fun g=>g=C) w' (w'.setCell ⟨C,2,none⟩ v'):=(Keep.refl (fun g=>g=C) w').setCell (p:=⟨C,2,none⟩) (Or.inl rfl) _;refine⟨⟨h1,Nat.le_trans h2 (Nat.le_trans p4 k.size),rv,v',?_,p3.keep k (fun g cur fr hg e=>?_),own_keep p1 k (fun g hg e=>by have:=(p1.lt g hg).1;omega)⟩,p5.trans (BdS.of_keep k (Nat.le_of_lt (lt_of_at p2)) (fun g e=>by subst e;exact Nat.le_refl _) (fun g e=>?_))⟩
 ·have:=set_at p2 2 v'
  simpa using this
 ·subst e
  exact absurd (type_eq p2 hg) (by decide)
 ·subst e
  exact⟨_,_,_,p2,by decide⟩
def CutAns (C B:Nat) (w:World) (line:ByteArray) (d:List (Nat × Nat)) (ps:List Pc) (at':Int) (e:Ending) (w':World):Prop:=e=.returned (.int .i64 at')∧Cst C B w' line d ps∧BdS kC C w w'
set_option maxHeartbeats 3200000 in
set_option maxRecDepth 100000 in
theorem put_any {C B:Nat} {w:World} {line:ByteArray} {d:List (Nat × Nat)} {ps:List Pc} (h:Cst C B w line d ps) (hl:ps.length+1≤1000000) (k m n:Nat) (h1:m≤n) (h2:n≤line.size) (hs:line.size≤1000000) (raw:List UInt8) :
   Calls Tryz.prog 203 #[.pointer (some ⟨C,0,none⟩),.int .i64 k,.int .i64 m,.int .i64 n] w (CutAns C B w line d (ps++[⟨k,(line.data.toList.drop m).take (n - m),raw⟩]) n):=by
 obtain ⟨c1,c2,rv,ov,c3,c4,c5⟩:=h;have HS:Hid (line.extract m n=S ((line.data.toList.drop m).take (n - m))):=Lib.hid (by rw [← S_of (line.extract m n),ext_list]);have HP:=Lib.hid (fun w2 c (hb:Below w.heap.size w w2) hc=>Cst.push (p:=⟨k,(line.data.toList.drop m).take (n - m),raw⟩) c1 c2 c3 c4 c5 (w2:=w2) (c:=c) hb hc hl);have HF:=Lib.hid (fun w' v' (h:Put C B w w' line rv ov v' d (ps++[⟨k,(line.data.toList.drop m).take (n - m),raw⟩]))=>h.stored c1 c2);have hsl:=sliceS line m n h1 h2;have q0:w.cell? ⟨C,0,none⟩=some (.string line):=cell_at c3 0;have q2:w.cell? ⟨C,2,none⟩=some ov:=cell_at c3 2;have q0a:∀ o,(w.alloc o).cell? ⟨C,0,none⟩=some (.string line):=fun o=>cell_at (alloc_at c3 o) 0
 have q2a:∀ o,(w.alloc o).cell? ⟨C,2,none⟩=some ov:=fun o=>cell_at (alloc_at c3 o) 2
 generalize ps++[⟨k,(line.data.toList.drop m).take (n - m),raw⟩]=ps' at *;simp only at HP;generalize (line.data.toList.drop m).take (n - m)=sl at *;clear c3 c4 c5 hl h1 h2;go_enter Tryz.func203,Tryz.ntmps203;go_upto_region 1 with fail;rw [HS.out] at hsl
 go_region_law (first
   | (refine step_run_ex rfl (.tmp 13) (.tmp 23) _ _ rfl _ _ rfl rfl (HP.out _ _ (by repeat (first | exact Below.refl _ _ | apply bel_d | apply bel_a)) (by first | exact alloc_new _ _ | exact drew_new _ _)) ?_
      intro v7 w7 H7;obtain ⟨ao7,n7,ca7,hv7⟩:=own_slice H7.1;subst hv7;have H7':=Lib.hid H7;have d2:w7.cell? ⟨C,2,none⟩=some ov:=cell_at H7.2.1 2;have d2f:w7.frozen? ⟨C,2,none⟩=false:=frozen_at H7.2.1 2;clear H7))
 all_goals (
   have HFF:=Lib.hid (HF.out _ _ H7'.out);go_simp;go_wp2_with fail;go_ret;exact ⟨rfl,HFF.out⟩)
end Sp
end Go.Proofs.YtpakjdgddomdjabGreatDoor
