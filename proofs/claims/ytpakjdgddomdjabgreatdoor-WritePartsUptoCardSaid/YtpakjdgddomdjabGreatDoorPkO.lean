import Derived.Test.YtpakjdgddomdjabGreatDoorPkK
import Derived.OwnWalkIn
import Derived.TacticsInMore
import Derived.BigRegion
import Derived.Shelf.RegionOpen
import Derived.WalkKit
import Derived.BigRegionIn
import Derived.Sort.CutIn
import Derived.Test.YtpakjdgddomdjabGreatDoorPkN
import Derived.Test.YtpakjdgddomdjabGreatDoorPkM
import Derived.BigQuiet
set_option linter.unusedVariables false
namespace Go.Proofs.YtpakjdgddomdjabGreatDoor
namespace Sp
open Go.RowKit Go.Shelf
open Tk (S S_of S_list S_size)
open Cm (cell_at lt_of_at frozen_at set_at Keep)
attribute [local go_sem] Oper.semAt_some
def lnsR:List UInt8→List (List UInt8)
 |[]=>[]
 |c::r=>if c=10 then [10]::lnsR r else match lnsR r with
  |[]=>[[c]]
  |x::xs=>(c::x)::xs
theorem lnsR_none:∀t:List UInt8,t≠[]→(10:UInt8)∉t→lnsR t=[t]
 |[],h,_=>absurd rfl h
 |[c],_,h=>by
  rw[lnsR,if_neg (fun e=>h (by rw[e];exact List.mem_cons_self ..))];rfl
 |c::d::r,_,h=>by
  rw[lnsR,if_neg (fun e=>h (by rw[e];exact List.mem_cons_self ..)),lnsR_none (d::r) (by simp) (fun hm=>h (List.mem_cons_of_mem _ hm))]
theorem lnsR_line:∀(u r:List UInt8),(10:UInt8)∉u→lnsR (u++10::r)=(u++[10])::lnsR r
 |[],r,_=>by rw[List.nil_append,lnsR,if_pos rfl];rfl
 |c::u,r,h=>by
  rw[List.cons_append,lnsR,if_neg (fun e=>h (by rw[e];exact List.mem_cons_self ..)),lnsR_line u r (fun hm=>h (List.mem_cons_of_mem _ hm))];rfl
theorem idxByte_spec:∀l:List UInt8,(Lib.indexByte l 10=-1∧(10:UInt8)∉l)∨∃u r,l=u++10::r∧(10:UInt8)∉u∧Lib.indexByte l 10=(u.length:Int)
 |[]=>Or.inl ⟨rfl,by simp⟩
 |b::r=>by
  by_cases hb:b=10
  ·subst hb
   refine Or.inr ⟨[],r,rfl,by simp,?_⟩;rw[Lib.indexByte];simp
  ·have hne:(b==10)=false:=by rw[beq_eq_false_iff_ne];exact hb
   rcases idxByte_spec r with ⟨h1,h2⟩|⟨u,r',h1,h2,h3⟩
   ·refine Or.inl ⟨?_,fun h=>by rcases List.mem_cons.1 h with h |h;exact hb h.symm;exact h2 h⟩
    rw[Lib.indexByte];simp[hb,h1]
   ·refine Or.inr ⟨b::u,r',by rw[h1];rfl,fun h=>by rcases List.mem_cons.1 h with h |h;exact hb h.symm;exact h2 h,?_⟩
    rw[Lib.indexByte,h3];simp[hb]
def encL (x:List UInt8):Array Value:=#[.string (S x)]
theorem S_extract (t:List UInt8) (a b:Nat):(S t).extract a b=S ((t.drop a).take (b-a)):=by
 rw[←S_of ((S t).extract a b),ext_list,S_list]
theorem slice_toS (x:ByteArray) (k:Nat) (h2:k≤x.size) (hx:x.size≤140737488355328) (w:World):
  (Instr.slice 9 (.string x) none (some (.int .i64 (k:Int))) none).run Tryz.prog w=.ok (.string (x.extract 0 k)) w:=by
 have h4:(k:Int)≤(x.size:Int):=by omega
 have h5:0≤(k:Int):=by omega
 go_simp
theorem its_set {w:World} {b n0:Nat} {u v:Value} (h:w.heap[b]? = some (.cells #[u] 9 (0,0))) (hn:n0≤b):ItS kC n0 w (w.setCell ⟨b,0,none⟩ v):=
 ItS.of_keep (S:=fun g=>g=b) ((Keep.refl (fun g=>g=b) w).setCell (p:=⟨b,0,none⟩) (Or.inl rfl) _) (Nat.le_trans hn (Nat.le_of_lt (lt_of_at h))) (fun g e=>by subst e;exact hn) (fun g e=>by subst e;exact⟨_,_,_,h,by decide⟩)
theorem its_drew {w:World} {n0:Nat} (hn:n0≤w.heap.size):ItS kC n0 w w.drew:=
 ItS.of_keep (S:=fun _=>False) (Keep.refl _ w).drew hn (fun _ h=>h.elim) (fun _ h=>h.elim)
theorem set_str {w:World} {b:Nat} {u v:Value} (h:w.heap[b]? = some (.cells #[u] 9 (0,0))):(w.setCell ⟨b,0,none⟩ v).heap[b]? = some (.cells #[v] 9 (0,0)):=by
 have:=set_at h 0 v
 simpa using this
set_option maxHeartbeats 6400000 in
set_option maxRecDepth 100000 in
theorem lines_goes (s:List UInt8) (hs:s.length≤1000000) (b n0 n1:Nat) (w0:World) (hb:w0.heap[b]? = some (.cells #[.string (S s)] 9 (0,0))) (hn:n0≤b):
  Goes kC Tryz.prog 197 #[.pointer (some ⟨b,0,none⟩)] encL n0 n1 (fun _ _=>True) (lnsR s) w0:=by
 intro l J w hbw _ hJ hY h0;have hb1:w.heap[b]? = some (.cells #[.string (S s)] 9 (0,0)):=(hbw.block _ (lt_of_at hb)).trans hb;have HB:=Lib.hid hb1;have HJ:=Lib.hid hJ;have HY:=Lib.hid hY;have H0:=Lib.hid h0;have HIx:=Lib.hid (fun(t:ByteArray) w=>Tryz.strings_IndexByte t 10 w);clear hb1 hJ hY h0 hb hbw;go_enter Tryz.func197,Tryz.ntmps197;go_wp2_with fail;go_loopw [3,4] (fun _ _ wr=>∃(pre:List (List UInt8)) (t:List UInt8),t.length≤1000000∧Hid (pre++lnsR t=lnsR s)∧Hid (wr.heap[b]? = some (.cells #[.string (S t)] 9 (0,0)))∧Hid (J pre wr)) (fun _ _ wr=>match wr.cell? ⟨b,0,none⟩with |some (.string x)=>x.size |_=>0)
 case atStart=>exact⟨[],s,hs,Lib.hid rfl,HB,H0⟩
 case round=>
  clear HB H0;obtain⟨pre,t,ht,HP,HB,HJ1⟩:=hrel;have c0:wr.cell? ⟨b,0,none⟩=some (.string (S t)):=cell_at HB.out 0;have f0:wr.frozen? ⟨b,0,none⟩=false:=frozen_at HB.out 0;have lb:=lt_of_at HB.out;have z:(S t).size=t.length:=S_size t;by_cases hne:t=[]
  ·subst hne
   have HEND:Hid (J (lnsR s) wr):=Lib.hid (by have:=HP.out;rw[show lnsR []=[]from rfl,List.append_nil]at this;rw[←this];exact HJ1.out);have g0:¬(0:Int)<((S []).size:Int):=by rw[z];simp
   generalize S []=q at *;clear HB;go_wp2_with fail;go_end0;exact⟨⟨_,rfl⟩,HEND.out⟩
  ·have hpos:(0:Int)<((S t).size:Int):=by
    rw[z];have:t.length≠0:=fun e=>hne (List.eq_nil_of_length_eq_zero e)
    omega
   have hIx:=HIx.out (S t) wr;have e10:(10:Int).toNat.toUInt8=(10:UInt8):=rfl;rw[e10,S_list]at hIx;have hNow:∀v,Hid (J pre ((wr.setCell ⟨b,0,none⟩ v))):=fun v=>Lib.hid (HJ.out _ _ _ HJ1.out (its_set HB.out hn))
   have hHp:∀v,(wr.setCell ⟨b,0,none⟩ v).heap[b]? = some (.cells #[v] 9 (0,0)):=fun v=>set_str HB.out
   have hLs:∀v,n0≤(wr.setCell ⟨b,0,none⟩ v).heap.size:=fun v=>Nat.le_trans hn (Nat.le_of_lt (lt_of_at (hHp v)))
   rcases idxByte_spec t with ⟨i1,i2⟩|⟨u,r,i1,i2,i3⟩
   ·rw[i1]at hIx
    have HC:=Lib.hid hIx;have hP:=HP.out;rw[lnsR_none t hne i2]at hP;have HP2:Hid ((pre++[t])++lnsR []=lnsR s):=Lib.hid (by rw[show lnsR []=[]from rfl,List.append_nil];exact hP);have HN:=hNow (.string ⟨#[]⟩);have HHp:=Lib.hid (hHp (.string ⟨#[]⟩));have hpl:(pre++[t])<+: lnsR s:=⟨[],by rw[List.append_nil];exact hP⟩;have HYx:=Lib.hid (HY.out pre t _ HN.out hpl);have hm0:(0:Nat)<(S t).size:=by omega
    clear hIx hP HP HJ1 hNow hHp hLs i1 i2 HIx hne HN;go_wp2_with fail;refine HC.out.mono ?_;rintro e w2 ⟨rfl,hw⟩;subst hw;clear HC;go_upto_region 6 with fail;obtain⟨fn,tmps,assign,body,hy,hR⟩:=HYx.out;simp only[encL]at hy;refine(wpIn_wide (n:=4)).1 ?_
    gi_wp2
    refine hR.mono ?_;rintro e w5 ⟨rfl,hj5,hk5⟩;have HJ5:=Lib.hid hj5;have HB5:=Lib.hid (hk5.2 _ _ _ _ HHp.out (by decide));have c5:w5.cell? ⟨b,0,none⟩=some (.string ⟨#[]⟩):=cell_at HB5.out 0;clear hj5 hk5 hy hR HYx
    gi_wp2
    go_wp2_with fail;go_roundw
    case rel=>exact⟨pre++[t],[],by simp,HP2,HB5,HJ5⟩
    case measure=>simp only[c0,c5];exact hm0
   ·rw[i3]at hIx
    have HC:=Lib.hid hIx;have hP:=HP.out;rw[i1,lnsR_line u r i2]at hP;have HP2:Hid ((pre++[u++[10]])++lnsR r=lnsR s):=Lib.hid (by rw[List.append_assoc];exact hP);have hpl:(pre++[u++[10]])<+: lnsR s:=⟨lnsR r,by rw[List.append_assoc];exact hP⟩;have htl:t.length=u.length+1+r.length:=by rw[i1];simp;omega
    have hs1:=fun w=>slice_toS (S t) (u.length+1) (by omega) (by omega) w
    have hs2:=fun w=>slice_fromS (S t) (u.length+1) (by omega) (by omega) w
    have t1:(S t).extract 0 (u.length+1)=S (u++[10]):=by
     rw[S_extract,List.drop_zero,i1,show u.length+1-0=(u++[10]).length by simp,show u++10::r=(u++[10])++r by simp,List.take_left]
    have t2:(S t).extract (u.length+1) (S t).size=S r:=by
     rw[S_extract,z,i1,show u.length+1=(u++[10]).length by simp,show u++10::r=(u++[10])++r by simp,List.drop_left];congr 1;exact List.take_of_length_le (by simp;omega)
    rw[t1]at hs1;rw[t2]at hs2;rw[show((u.length+1:Nat):Int)=(u.length:Int)+1 by omega]at hs1 hs2;have HN:=hNow (.string (S r));have HHp:=Lib.hid (hHp (.string (S r)));have HYx:Hid (∀W,J pre W→_):=Lib.hid (fun W hW=>HY.out pre (u++[10]) W hW hpl);have HJd:Hid (J pre (wr.setCell ⟨b,0,none⟩ (.string (S r))).drew):=Lib.hid (HJ.out _ _ _ HN.out (its_drew (hLs _)));have HZ:Hid ((S r).size<(S t).size):=Lib.hid (by rw[S_size,S_size];omega);have hrl:r.length≤1000000:=by omega
    have hul:u.length≤1000000:=by omega
    have hge:(0:Int)≤(u.length:Int):=by omega
    have hwr:IntKind.i64.wrap ((u.length:Int)+1)=(u.length:Int)+1:=by rw[IntKind.wrap_i64];omega
    have hlt1:(u.length:Int)+1≤((S t).size:Int):=by omega
    clear hIx hP HP HJ1 hNow hHp hLs i1 i2 i3 HIx hne t1 t2 htl ht z HN;simp only[encL]at HYx;generalize S t=q at *;generalize S (u++[10])=q1 at *;generalize hq2:S r=q2 at *;have HQ2:=Lib.hid hq2;clear hq2;generalize u.length=n at *;go_wp2_with fail;refine HC.out.mono ?_;rintro e w2 ⟨rfl,hw⟩;subst hw;clear HC;go_upto_region 4 with fail;go_region;have HHd:Hid ((w2.setCell ⟨b,0,none⟩ (.string q2)).drew.heap[b]? = some (.cells #[.string q2] 9 (0,0))):=Lib.hid HHp.out;generalize (w2.setCell ⟨b,0,none⟩ (.string q2)).drew=w7 at *;go_upto_region 6 with fail;obtain⟨fn,tmps,assign,body,hy,hR⟩:=HYx.out w7 HJd.out;refine(wpIn_wide (n:=4)).1 ?_
    gi_wp2
    refine hR.mono ?_;rintro e w5 ⟨rfl,hj5,hk5⟩;have HJ5:=Lib.hid hj5;have HB5:=Lib.hid (hk5.2 _ _ _ _ HHd.out (by decide));have c5:w5.cell? ⟨b,0,none⟩=some (.string q2):=cell_at HB5.out 0;clear hj5 hk5 hy hR HYx
    gi_wp2
    go_wp2_with fail;go_roundw
    case rel=>exact⟨_,r,hrl,HP2,by rw[HQ2.out];exact HB5,HJ5⟩
    case measure=>simp only[c0,c5];exact HZ.out
end Sp
namespace Sp
open Go.RowKit Go.Shelf
open Tk (S)
open Cm (cell_at set_at set_other Keep flat_get)
attribute [local go_sem] Oper.semAt_some
def kL (t:TypeId):Bool:=t==189||t==3||t==154
def bkTo (A:List Pc):Nat→List (Nat × Pc)
 |0=>[]
 |i+1=>(i,A.getD i ⟨0,[],[]⟩)::bkTo A i
theorem bkTo_len (A:List Pc):∀n,(bkTo A n).length=n
 |0=>rfl
 |n+1=>by rw[bkTo,List.length_cons,bkTo_len A n]
def encB (x:Nat × Pc):Array Value:=#[.int .i64 x.1,.agg #[.int .i64 x.2.kind,.string (S x.2.s),.int .i64 0,.int .i64 0]]
def Pcl (W:World) (b:Nat) (A:List Pc) (m:Nat):Prop:=A=[]∨∃cur:Array Value,W.heap[b]? = some (.cells cur 189 (0,0))∧∀i (hi:i<A.length),
 cur[i*4]? = some (.int .i64 A[i].kind)∧cur[i*4+1]? = some (.string (S A[i].s))∧
 cur[i*4+2]? = some (.int .i64 ((if i<m then 0 else nxt 2 A (i+1):Nat):Int))∧cur[i*4+3]? = some (.int .i64 ((if i<m then 0 else nxt 4 A (i+1):Nat):Int))
theorem Pcl.of_own {w:World} {B b n cap:Nat} {A:List Pc} (h:w.ownsRow B 189 4 (.slice (some ⟨b,0,none⟩) A.length cap) A.length (A.flatMap encP)):Pcl w b A A.length:=by
 by_cases h0:A=[]
 ·exact Or.inl h0
 ·rcases h.2 with ⟨hv,hn⟩|⟨g,cap',cur,hv,hB,hg,hnc,hm,hsz,ht⟩
  ·exact Or.inl (List.eq_nil_of_length_eq_zero hn)
  ·simp only[Value.slice.injEq,Option.some.injEq,Addr.mk.injEq,and_true]at hv
   obtain⟨rfl,_,rfl⟩:=hv;refine Or.inr ⟨cur,hg,fun i hi=>?_⟩
   have hget:∀q u,q<4→(encP A[i])[q]? = some u→cur[i*4+q]? = some u:=fun q u hq hu=>by
    have h1:=flat_get encP_len A i A[i] (List.getElem?_eq_getElem hi) q u hu;rw[←ht,List.getElem?_take]at h1;rw[if_pos (by omega)]at h1
    simpa using h1
   refine⟨hget 0 _ (by omega) rfl,hget 1 _ (by omega) rfl,?_,?_⟩
   ·rw[if_pos hi];exact hget 2 _ (by omega) rfl
   ·rw[if_pos hi];exact hget 3 _ (by omega) rfl
def SrcB (A:List Pc) (b bb cap:Nat) (ao:Option Addr) (pre:List (Nat × Pc)) (W:World):Prop:=
 W.heap[bb]? = some (.cells #[.slice ao A.length cap] 154 (0,0))∧(A=[]∨ao=some ⟨b,0,none⟩)∧∃m,m+pre.length=A.length∧Pcl W b A m
set_option maxHeartbeats 6400000 in
set_option maxRecDepth 100000 in
theorem back_goes (A:List Pc) (hA:A.length≤1000000) (b bb cap n0 n1:Nat) (ao:Option Addr) (w0:World) (hn:n0≤w0.heap.size):
  Goes kL Tryz.prog 219 #[.pointer (some ⟨bb,0,none⟩)] encB n0 n1 (SrcB A b bb cap ao) (bkTo A A.length) w0:=by
 intro l J w hbw hS hJ hY h0;have HS:=Lib.hid hS;have HY:=Lib.hid hY;have H0:=Lib.hid h0;obtain⟨c0,_⟩:=hS _ _ h0;have q0:w.cell? ⟨bb,0,none⟩=some (.slice ao A.length cap):=cell_at c0 0;clear hS hJ hY h0 c0 hbw hn;go_enter Tryz.func219,Tryz.ntmps219;go_wp2_with fail;go_loopw [3] (fun i wr=>∃(pre:List (Nat × Pc)) (m:Nat),i=.int .i64 ((m:Int)-1)∧m+pre.length=A.length∧Hid (pre++bkTo A m=bkTo A A.length)∧Hid (J pre wr)) (fun i _=>(intOf i+1).toNat)
 case atStart=>exact⟨[],A.length,rfl,rfl,Lib.hid rfl,H0⟩
 case round=>
  clear H0 q0;obtain⟨pre,m,rfl,hml,HP,HJ1⟩:=hrel;rcases m with _ |i
  ·have HEND:Hid (J (bkTo A A.length) wr):=Lib.hid (by have:=HP.out;rw[bkTo,List.append_nil]at this;rw[←this];exact HJ1.out)
   go_wp2_with fail;go_end0;exact⟨⟨_,rfl⟩,HEND.out⟩
  ·have hi:i<A.length:=by omega
   obtain⟨s1,s2,m',hm',s3⟩:=HS.out pre wr HJ1.out;obtain rfl:m'=i+1:=by omega
   have hne:A≠[]:=fun e=>by rw[e]at hi;exact absurd hi (Nat.not_lt_zero _)
   have hao:ao=some ⟨b,0,none⟩:=s2.resolve_left hne;obtain⟨cur,k1,k2⟩:=s3.resolve_left hne;obtain⟨p0,p1,p2,p3⟩:=k2 i hi;rw[if_pos (by omega)]at p2 p3;have q0:wr.cell? ⟨bb,0,none⟩=some (.slice ao A.length cap):=cell_at s1 0;have r0:wr.cell? ⟨b,i*4,none⟩=some (.int .i64 A[i].kind):=(cell_at k1 _).trans p0;have r1:wr.cell? ⟨b,i*4+1,none⟩=some (.string (S A[i].s)):=(cell_at k1 _).trans p1;have r2:wr.cell? ⟨b,i*4+2,none⟩=some (.int .i64 0):=(cell_at k1 _).trans p2;have r3:wr.cell? ⟨b,i*4+3,none⟩=some (.int .i64 0):=(cell_at k1 _).trans p3;have hP:=HP.out;have hgd:A.getD i ⟨0,[],[]⟩=A[i]:=by rw[List.getD_eq_getElem?_getD,List.getElem?_eq_getElem hi];rfl
   rw[bkTo,hgd]at hP;have HP2:Hid ((pre++[(i,A[i])])++bkTo A i=bkTo A A.length):=Lib.hid (by rw[List.append_assoc];exact hP);have hpl:(pre++[(i,A[i])])<+: bkTo A A.length:=⟨bkTo A i,by rw[List.append_assoc];exact hP⟩;have HYx:=Lib.hid (HY.out pre (i,A[i]) wr HJ1.out hpl);have hii:((i+1:Nat):Int)-1=(i:Int):=by omega
   have hge:(0:Int)≤(i:Int):=by omega
   have hlt:(i:Int)<(A.length:Int):=by omega
   rw[hii];subst hao;clear s1 s2 s3 hm' k1 k2 p0 p1 p2 p3 hP hgd HP hne;go_upto_region 3 with fail;obtain⟨fn,tmps,assign,body,hy,hR⟩:=HYx.out;simp only[encB]at hy;refine(wpIn_wide (n:=4)).1 ?_
   gi_wp2
   refine hR.mono ?_;rintro e w5 ⟨rfl,hj5,hk5⟩;have HJ5:=Lib.hid hj5;clear hj5 hk5 hy hR HYx
   gi_wp2
   go_wp2_with fail;go_roundw
   case rel=>exact⟨pre++[(i,A[i])],i,rfl,by simp;omega,HP2,HJ5⟩
   case measure=>simp[intOf]
theorem backward_any (ao:Option Addr) (n cap:Nat) (w:World):Calls Tryz.prog 205 #[.slice ao n cap] w fun e w'=>e=.returned (.func (.func 219) #[] #[.pointer (some ⟨w.heap.size,0,none⟩)])∧w'=w.alloc (.cells #[.slice ao n cap] 154):=by
 go_enter Tryz.func205,Tryz.ntmps205;go_wp2_with fail;go_ret;exact⟨rfl,rfl⟩
theorem bkTo_at (A:List Pc):∀(n k:Nat),k<n→(bkTo A n)[k]? = some (n-1-k,A.getD (n-1-k) ⟨0,[],[]⟩)
 |0,k,h=>absurd h (Nat.not_lt_zero _)
 |n+1,0,h=>by rw[bkTo];simp
 |n+1,k+1,h=>by
  rw[bkTo,List.getElem?_cons_succ,bkTo_at A n k (by omega),show n+1-1-(k+1)=n-1-k by omega]
theorem bk_x {A:List Pc} {pre:List (Nat × Pc)} {x:Nat × Pc} {m:Nat} (h:(pre++[x])<+: bkTo A A.length) (hm:m+pre.length=A.length):0<m∧x.1=m-1:=by
 obtain⟨t,ht⟩:=h;have hl:=congrArg List.length ht;rw[bkTo_len]at hl;simp only[List.length_append,List.length_singleton]at hl;have h1:=bkTo_at A A.length pre.length (by omega);rw[←ht,List.append_assoc,List.getElem?_append_right (Nat.le_refl _),Nat.sub_self]at h1;have h2:x=_:=Option.some.inj h1;refine⟨by omega,?_⟩;rw[h2];show A.length-1-pre.length=m-1;omega
structure IL (A:List Pc) (b LB SB HB bb cap:Nat) (ao:Option Addr) (w:World) (pre:List (Nat × Pc)) (W:World):Prop where
 lb:W.heap[LB]? = some (.cells #[.slice ao A.length cap] 154 (0,0))
 bb:W.heap[bb]? = some (.cells #[.slice ao A.length cap] 154 (0,0))
 pc:∃m,m+pre.length=A.length∧Pcl W b A m∧W.heap[SB]? = some (.cells #[.int .i64 (nxt 2 A m:Nat)] 3 (0,0))∧W.heap[HB]? = some (.cells #[.int .i64 (nxt 4 A m:Nat)] 3 (0,0))
 keep:Keep (fun g=>g=b) w W
theorem bds_refl {K:TypeId→Bool} {n:Nat} (w:World):BdS K n w w:=⟨⟨Below.refl _ _,fun _ _ _ _ h _=>h⟩,fun _ _ h _=>h⟩
theorem Pcl.mine {n0 b m:Nat} {A:List Pc} {W W':World} (h:Pcl W b A m) (k:Mine kL n0 W W'):Pcl W' b A m:=by
 rcases h with h |⟨cur,h1,h2⟩
 ·exact Or.inl h
 ·exact Or.inr ⟨cur,k.2 _ _ _ _ h1 (by decide),h2⟩
theorem IL.mine {A:List Pc} {b LB SB HB bb cap n0:Nat} {ao:Option Addr} {w:World} {pre:List (Nat × Pc)} {W W':World} (h:IL A b LB SB HB bb cap ao w pre W) (hn:w.heap.size≤n0) (k:Mine kL n0 W W'):IL A b LB SB HB bb cap ao w pre W':=by
 obtain⟨m,h1,h2,h3,h4⟩:=h.pc
 exact⟨k.2 _ _ _ _ h.lb (by decide),k.2 _ _ _ _ h.bb (by decide),⟨m,h1,h2.mine k,k.2 _ _ _ _ h3 (by decide),k.2 _ _ _ _ h4 (by decide)⟩,
  ⟨k.1.os.trans h.keep.os,k.1.tape.trans h.keep.tape,k.1.output.trans h.keep.output,Nat.le_trans h.keep.size k.1.size,fun j hj hs=>(k.1.block j (by omega)).trans (h.keep.block j hj hs)⟩⟩
def StL (A:List Pc) (b LB SB HB bb cap:Nat) (ao:Option Addr) (w:World) (i:Nat) (W W1:World):Prop:=
 W1.heap[LB]? = some (.cells #[.slice ao A.length cap] 154 (0,0))∧W1.heap[bb]? = some (.cells #[.slice ao A.length cap] 154 (0,0))∧
 W1.heap[SB]? = some (.cells #[.int .i64 (nxt 2 A (i+1):Nat)] 3 (0,0))∧W1.heap[HB]? = some (.cells #[.int .i64 (nxt 4 A (i+1):Nat)] 3 (0,0))∧
 Pcl W1 b A i∧(Keep (fun g=>g=b) w W1∧BdS kL 0 W W1)∧∀hi:i<A.length,W1.cell? ⟨b,i*4,none⟩=some (.int .i64 A[i].kind)
theorem IL.step {A:List Pc} {b LB SB HB bb cap i:Nat} {ao:Option Addr} {w:World} {pre:List (Nat × Pc)} {W:World} (h:IL A b LB SB HB bb cap ao w pre W) (hm:i+1+pre.length=A.length) (hi:i<A.length) (hne:A≠[])
  (n1:b≠SB) (n2:b≠HB) (n4:b≠LB) (n5:b≠bb):
  StL A b LB SB HB bb cap ao w i W ((W.setCell ⟨b,i*4+2,none⟩ (.int .i64 (nxt 2 A (i+1):Nat))).setCell ⟨b,i*4+3,none⟩ (.int .i64 (nxt 4 A (i+1):Nat))).drew:=by
 obtain⟨m,h1,h2,h3,h4⟩:=h.pc;obtain rfl:m=i+1:=by omega
 obtain⟨cur,k1,k2⟩:=h2.resolve_left hne;have oth:∀{g:Nat} {o:Obj},b≠g→W.heap[g]? = some o→((W.setCell ⟨b,i*4+2,none⟩ (.int .i64 (nxt 2 A (i+1):Nat))).setCell ⟨b,i*4+3,none⟩ (.int .i64 (nxt 4 A (i+1):Nat))).drew.heap[g]? = some o:=fun hg ho=>set_other (set_other ho (Ne.symm hg)) (Ne.symm hg)
 have hb:((W.setCell ⟨b,i*4+2,none⟩ (.int .i64 (nxt 2 A (i+1):Nat))).setCell ⟨b,i*4+3,none⟩ (.int .i64 (nxt 4 A (i+1):Nat))).drew.heap[b]? = some (.cells ((cur.setIfInBounds (i*4+2) (.int .i64 (nxt 2 A (i+1):Nat))).setIfInBounds (i*4+3) (.int .i64 (nxt 4 A (i+1):Nat))) 189 (0,0)):=set_at (set_at k1 _ _) _ _;have kk:Keep (fun g=>g=b) W ((W.setCell ⟨b,i*4+2,none⟩ (.int .i64 (nxt 2 A (i+1):Nat))).setCell ⟨b,i*4+3,none⟩ (.int .i64 (nxt 4 A (i+1):Nat))).drew:=(((Keep.refl (fun g=>g=b) W).setCell (p:=⟨b,i*4+2,none⟩) (Or.inl rfl) _).setCell (p:=⟨b,i*4+3,none⟩) (Or.inl rfl) _).drew
 have hcur:∀j,((cur.setIfInBounds (i*4+2) (.int .i64 (nxt 2 A (i+1):Nat))).setIfInBounds (i*4+3) (.int .i64 (nxt 4 A (i+1):Nat)))[j]? = if i*4+3=j then(if j<cur.size then some (.int .i64 (nxt 4 A (i+1):Nat))else none)else if i*4+2=j then(if j<cur.size then some (.int .i64 (nxt 2 A (i+1):Nat))else none)else cur[j]?:=fun j=>by
  rw[Array.getElem?_setIfInBounds,Array.getElem?_setIfInBounds];simp only[Array.size_setIfInBounds];split
  ·rename_i hj;rw[←hj]
  ·split
   ·rename_i hj;rw[←hj]
   ·rfl
 have hsz:∀j v,cur[j]? = some v→j<cur.size:=fun j v h=>(Array.getElem?_eq_some_iff.1 h).1
 refine⟨oth n4 h.lb,oth n5 h.bb,oth n1 h3,oth n2 h4,Or.inr ⟨_,hb,fun j hj=>?_⟩,⟨h.keep.trans kk,BdS.of_keep kk (Nat.zero_le _) (fun _ _=>Nat.zero_le _) (fun g e=>by subst e;exact⟨_,_,_,k1,by decide⟩)⟩,fun hi'=>?_⟩
 ·obtain⟨p0,p1,p2,p3⟩:=k2 j hj
  rw[hcur,hcur,hcur,hcur];refine⟨?_,?_,?_,?_⟩
  ·rw[if_neg (by omega),if_neg (by omega)];exact p0
  ·rw[if_neg (by omega),if_neg (by omega)];exact p1
  ·rw[if_neg (by omega)]
   by_cases e:j=i
   ·subst e
    rw[if_pos rfl,if_pos (hsz _ _ p2),if_neg (by omega)]
   ·rw[if_neg (by omega),p2]
    by_cases hji:j<i
    ·rw[if_pos (by omega),if_pos hji]
    ·rw[if_neg (by omega),if_neg hji]
  ·by_cases e:j=i
   ·subst e
    rw[if_pos rfl,if_pos (hsz _ _ p3),if_neg (by omega)]
   ·rw[if_neg (by omega),if_neg (by omega),p3]
    by_cases hji:j<i
    ·rw[if_pos (by omega),if_pos hji]
    ·rw[if_neg (by omega),if_neg hji]
 ·rw[cell_at hb,hcur,if_neg (by omega),if_neg (by omega)]
  exact(k2 i hi').1
theorem StL.fin {A:List Pc} {b LB SB HB bb cap i:Nat} {ao:Option Addr} {w:World} {pre:List (Nat × Pc)} {x:Nat × Pc} {W W1:World} (h:StL A b LB SB HB bb cap ao w i W W1) (hm:i+1+pre.length=A.length) (hi:i<A.length)
  (n3:SB≠HB) (n6:LB≠SB) (n7:LB≠HB) (n8:bb≠SB) (n9:bb≠HB) (n1:b≠SB) (n2:b≠HB) (lS:w.heap.size≤SB) (lH:w.heap.size≤HB):
  (A[i].kind=2→IL A b LB SB HB bb cap ao w (pre++[x]) (W1.setCell ⟨SB,0,none⟩ (.int .i64 i))∧BdS kL 0 W (W1.setCell ⟨SB,0,none⟩ (.int .i64 i)))∧
  (A[i].kind=4→IL A b LB SB HB bb cap ao w (pre++[x]) (W1.setCell ⟨HB,0,none⟩ (.int .i64 i))∧BdS kL 0 W (W1.setCell ⟨HB,0,none⟩ (.int .i64 i)))∧
  (A[i].kind≠2→A[i].kind≠4→IL A b LB SB HB bb cap ao w (pre++[x]) W1∧BdS kL 0 W W1):=by
 obtain⟨y1,y2,y3,y4,y5,⟨y6,y8⟩,y7⟩:=h;have hx:=List.getElem?_eq_getElem hi;have x2:=nxt_at (k:=2) hx;have x4:=nxt_at (k:=4) hx;have hl:i+(pre++[x]).length=A.length:=by simp;omega
 have pcS:∀g v,b≠g→Pcl (W1.setCell ⟨g,0,none⟩ v) b A i:=fun g v hg=>by
  rcases y5 with h |⟨cur,h1,h2⟩
  ·exact Or.inl h
  ·exact Or.inr ⟨cur,set_other h1 hg,h2⟩
 refine⟨fun hk=>?_,fun hk=>?_,fun hk2 hk4=>?_⟩
 ·rw[if_pos hk]at x2
  rw[if_neg (by omega)]at x4;have kk:Keep (fun g=>g=SB) W1 (W1.setCell ⟨SB,0,none⟩ (.int .i64 (i:Nat))):=(Keep.refl (fun g=>g=SB) W1).setCell (p:=⟨SB,0,none⟩) (Or.inl rfl) _
  refine⟨⟨set_other y1 n6,set_other y2 n8,⟨i,hl,pcS _ _ n1,?_,?_⟩,⟨kk.os.trans y6.os,kk.tape.trans y6.tape,kk.output.trans y6.output,Nat.le_trans y6.size kk.size,fun j hj hs=>(kk.block j (Nat.lt_of_lt_of_le hj y6.size) (by omega)).trans (y6.block j hj hs)⟩⟩,
   y8.trans (BdS.of_keep kk (Nat.zero_le _) (fun _ _=>Nat.zero_le _) (fun g e=>by subst e;exact⟨_,_,_,y3,by decide⟩))⟩
  ·rw[x2];have:=set_at y3 0 (.int .i64 (i:Nat));simpa using this
  ·rw[x4];exact set_other y4 (Ne.symm n3)
 ·rw[if_neg (by omega)]at x2
  rw[if_pos hk]at x4;have kk:Keep (fun g=>g=HB) W1 (W1.setCell ⟨HB,0,none⟩ (.int .i64 (i:Nat))):=(Keep.refl (fun g=>g=HB) W1).setCell (p:=⟨HB,0,none⟩) (Or.inl rfl) _
  refine⟨⟨set_other y1 n7,set_other y2 n9,⟨i,hl,pcS _ _ n2,?_,?_⟩,⟨kk.os.trans y6.os,kk.tape.trans y6.tape,kk.output.trans y6.output,Nat.le_trans y6.size kk.size,fun j hj hs=>(kk.block j (Nat.lt_of_lt_of_le hj y6.size) (by omega)).trans (y6.block j hj hs)⟩⟩,
   y8.trans (BdS.of_keep kk (Nat.zero_le _) (fun _ _=>Nat.zero_le _) (fun g e=>by subst e;exact⟨_,_,_,y4,by decide⟩))⟩
  ·rw[x2];exact set_other y3 n3
  ·rw[x4];have:=set_at y4 0 (.int .i64 (i:Nat));simpa using this
 ·rw[if_neg hk2]at x2
  rw[if_neg hk4]at x4;exact⟨⟨y1,y2,⟨i,hl,y5,by rw[x2];exact y3,by rw[x4];exact y4⟩,y6⟩,y8⟩
end Sp
namespace Sp
open Go.RowKit Go.Shelf
open Tk (S S_list S_size)
open Cm (cell_at alloc_at alloc_new lt_of_at frozen_at set_at Keep own_keep own_obj)
attribute [local go_sem] Oper.semAt_some
theorem lnsR_flat:∀s:List UInt8,(lnsR s).flatten=s
 |[]=>rfl
 |c::r=>by
  have ih:=lnsR_flat r;rw[lnsR];by_cases h:c=10
  ·rw[if_pos h,List.flatten_cons,ih,h];rfl
  ·rw[if_neg h]
   cases hx:lnsR r with
   |nil=>rw[hx]at ih;rw[←ih];rfl
   |cons x xs=>rw[hx]at ih;rw[←ih];rfl
theorem lnsR_ok:∀(n:Nat) (s:List UInt8),s.length≤n→∀pre x suf,lnsR s=pre++x::suf→LineOk x suf.flatten∧x≠[]
 |n,[],_,pre,x,suf,h=>by cases pre<;>cases h
 |0,c::r,hn,_,_,_,_=>by simp at hn
 |n+1,c::r,hn,pre,x,suf,h=>by
  rcases idxByte_spec (c::r)with ⟨_,h2⟩|⟨u,r',h1,h2,_⟩
  ·rw[lnsR_none (c::r) (by simp) h2]at h
   cases pre with
   |nil=>
    simp only[List.nil_append,List.cons.injEq]at h;obtain⟨rfl,rfl⟩:=h;exact⟨⟨c::r,[],by simp,h2,Or.inr ⟨rfl,rfl⟩⟩,by simp⟩
   |cons p pre=>simp at h
  ·rw[h1,lnsR_line u r' h2]at h
   cases pre with
   |nil=>
    simp only[List.nil_append,List.cons.injEq]at h;obtain⟨rfl,rfl⟩:=h;exact⟨⟨u,[10],rfl,h2,Or.inl rfl⟩,by simp⟩
   |cons p pre=>
    simp only[List.cons_append,List.cons.injEq]at h;have hl:=congrArg List.length h1;simp only[List.length_append,List.length_cons]at hl hn;exact lnsR_ok n r' (by omega) pre x suf h.2
def IC (s:List UInt8) (w:World) (pre:List (List UInt8)) (W:World):Prop:=
 ∃(line:ByteArray) (d:List (Nat × Nat)) (ps:List Pc) (suf:List (List UInt8)),pre++suf=lnsR s∧Cst w.heap.size (w.heap.size+1) W line d ps∧Cut1 s ps suf.flatten∧ps.length≤pre.flatten.length∧Below w.heap.size w W
theorem Cst.mine {n0 C B:Nat} {w w':World} {line:ByteArray} {d:List (Nat × Nat)} {ps:List Pc} (h:Cst C B w line d ps) (k:Mine kC n0 w w'):Cst C B w' line d ps:=by
 obtain⟨h1,h2,rv,ov,h3,h4,h5⟩:=h;have kk:=k.keep;refine⟨h1,Nat.le_trans h2 k.1.size,rv,ov,k.2 _ _ _ _ h3 (by decide),h4.keep kk (fun g cur fr hg hs=>?_),own_keep h5 kk (fun g hg hs=>?_)⟩
 ·exact absurd (hs _ _ _ hg) (by decide)
 ·obtain⟨cur,hc⟩:=own_obj h5 hg
  exact absurd (hs _ _ _ hc) (by decide)
theorem IC.mine {s:List UInt8} {w:World} {pre:List (List UInt8)} {A B:World} (h:IC s w pre A) (m:Mine kC w.heap.size A B):IC s w pre B:=by
 obtain⟨line,d,ps,suf,h1,h2,h3,h4,h5⟩:=h;exact⟨line,d,ps,suf,h1,h2.mine m,h3,h4,h5.trans m.1⟩
theorem lines_any (s:ByteArray) (w:World):Calls Tryz.prog 170 #[.string s] w fun e w'=>e=.returned (.func (.func 197) #[] #[.pointer (some ⟨w.heap.size,0,none⟩)])∧w'=w.alloc (.cells #[.string s] 9):=by
 go_enter Tryz.func170,Tryz.ntmps170;go_wp2_with fail;go_ret;exact⟨rfl,rfl⟩
def PcR (w:World) (v:Value) (A:List Pc):Prop:=∃ao cap b,v=.slice ao A.length cap∧(A=[]∨(ao=some ⟨b,0,none⟩∧b<w.heap.size))∧Pcl w b A 0
theorem Cst.line {C B:Nat} {w w5:World} {line x:ByteArray} {d d5:List (Nat × Nat)} {ps:List Pc} {v5:Value} (h:Cst C B w line d ps) (hb:Below w.heap.size w w5) (hr:RunsAt w5 v5 d5):
  Cst C B ((w5.setCell ⟨C,0,none⟩ (.string x)).setCell ⟨C,1,none⟩ v5) x d5 ps∧BdS kC C w ((w5.setCell ⟨C,0,none⟩ (.string x)).setCell ⟨C,1,none⟩ v5):=by
 obtain⟨h1,h2,rv,ov,h3,h4,h5⟩:=h.go hb;have hw:=h.2.1;have k:Keep (fun g=>g=C) w5 ((w5.setCell ⟨C,0,none⟩ (.string x)).setCell ⟨C,1,none⟩ v5):=((Keep.refl (fun g=>g=C) w5).setCell (p:=⟨C,0,none⟩) (Or.inl rfl) _).setCell (p:=⟨C,1,none⟩) (Or.inl rfl) _;refine⟨⟨h1,Nat.le_trans h2 k.size,v5,ov,?_,hr.keep k (fun g cur fr hg e=>?_),own_keep h5 k (fun g hg e=>by have:=(h5.lt g hg).1;omega)⟩,(bds_below hb (by omega)).trans (BdS.of_keep k (Nat.le_of_lt (lt_of_at h3)) (fun g e=>by subst e;exact Nat.le_refl _) (fun g e=>?_))⟩
 ·have:=set_at (set_at h3 0 (.string x)) 1 v5
  simpa using this
 ·subst e
  exact absurd (type_eq h3 hg) (by decide)
 ·subst e
  exact⟨_,_,_,h3,by decide⟩
theorem suf_of {s:List UInt8} {pre suf:List (List UInt8)} {x:List UInt8} (h:pre++suf=lnsR s) (hp:(pre++[x])<+: lnsR s):∃suf',suf=x::suf':=by
 obtain⟨t,ht⟩:=hp;rw[←h,List.append_assoc]at ht;exact⟨t,(List.append_cancel_left ht).symm⟩
set_option maxHeartbeats 6400000 in
set_option maxRecDepth 100000 in
theorem cut_any (HLA:∀(A:List Pc) (hA:A.length≤1000000) (b cap:Nat) (ao:Option Addr) (w:World) (hao:A=[]∨ao=some ⟨b,0,none⟩) (hp:Pcl w b A A.length) (hbl:A=[]∨b<w.heap.size),Calls Tryz.prog 173 #[.slice ao A.length cap] w fun e w'=>e=.returned (.tuple #[])∧Pcl w' b A 0∧Keep (fun g=>g=b) w w') (s:List UInt8) (hs:s.length≤300000) (w:World):
  Calls Tryz.prog 150 #[.string (S s)] w fun e w'=>∃v A,e=.returned v∧CG s A∧A.length≤300000∧PcR w' v A∧Below w.heap.size w w':=by
 have HLn:=Lib.hid (fun s w=>lines_any s w);have HRn:=Lib.hid (fun s h w=>runsOf_any s h w);refine(callsIn_wide (n:=5)).1 ?_;refine callsIn_of_wp_marks Tryz.func150 (by first |rfl |kernel_rfl) trivial ?_ rfl;simp only[Tryz.ntmps150,List.size_toArray,List.length_cons,List.length_nil,Nat.reduceAdd,Nat.reduceSub,Array.replicate_succ,Array.replicate_zero,List.push_toArray,List.append_toArray,List.nil_append,List.cons_append]
 gi_wp2_with (refine⟨trivial,?_⟩;gi_at_call 170;refine(callsIn_wide.2 (HLn.out _ _)).mono ?_;rintro e w1 ⟨rfl,rfl⟩)
 have hC0:=alloc_at (alloc_new w (.cells #[.string ⟨#[]⟩,.slice none 0 0,.slice none 0 0] 177)) (.cells #[.string (S s)] 9);have hBx:=alloc_new (w.alloc (.cells #[.string ⟨#[]⟩,.slice none 0 0,.slice none 0 0] 177)) (.cells #[.string (S s)] 9);rw[World.size_alloc]at hBx;have hB2:Below w.heap.size w ((w.alloc (.cells #[.string ⟨#[]⟩,.slice none 0 0,.slice none 0 0] 177)).alloc (.cells #[.string (S s)] 9)):=((Below.refl _ w).alloc (Nat.le_refl _) _).alloc (by simp) _;have hsz2:((w.alloc (.cells #[.string ⟨#[]⟩,.slice none 0 0,.slice none 0 0] 177)).alloc (.cells #[.string (S s)] 9)).heap.size=w.heap.size+2:=by simp
 generalize (w.alloc (.cells #[.string ⟨#[]⟩,.slice none 0 0,.slice none 0 0] 177)).alloc (.cells #[.string (S s)] 9)=w2 at *;have hI0:IC s w [] w2:=⟨⟨#[]⟩,[],[],lnsR s,rfl,⟨by omega,by omega,_,_,hC0,⟨⟨none,0,rfl,Nat.le_refl _,Or.inl rfl⟩,fun k hk=>by simp[Value.ownBlock]at hk⟩,World.ownsRow_nil _ _ _ _⟩,by rw[lnsR_flat];exact Cut1.refl s,Nat.le_refl _,hB2⟩
 refine for_goes (α:=List UInt8) (K:=kC) (gf:=197) (lb:=#[.pointer (some ⟨w.heap.size+1,0,none⟩)]) (n0:=w.heap.size) (n1:=w.heap.size) rfl (enters_of Tryz.func197 (by kernel_rfl) rfl) hB2.size hB2.size
  (lines_goes s (by omega) (w.heap.size+1) w.heap.size w.heap.size w2 hBx (by omega)) (fun _=>rfl) (IC s w) (fun _ _ _=>trivial) (fun pre X Y h m=>h.mine m) hI0
  (fun x a' _=>a'={tmps:=#[.string (S s),undef,.slice none 0 0,.pointer (some ⟨w.heap.size,0,none⟩),.string (S x),undef,.string (S s),.func (.func 197) #[] #[.pointer (some ⟨w.heap.size+1,0,none⟩)],.string (S x),undef,undef,undef,undef,undef,undef,undef,undef,undef,undef,undef,undef,undef,undef,undef,undef],defers:=[]})
  (fun _ _ _ _ h _=>h) ?assign ?body ?done
 case assign=>
  clear hI0 hC0 hBx hB2 hsz2;rintro l pre x W R hI hR;have HI:=Lib.hid hI;have HR:=Lib.hid hR;clear hI hR;simp only[encL]
  gi_wp2
  exact HR.out _ _ (bds_refl _) HI.out rfl
 case body=>
  clear hI0 hC0 hBx hB2 hsz2;rintro l pre x a' W ⟨line,d,ps,suf,h1,h2,h3,h4,h5⟩ rfl hpre;obtain⟨suf',rfl⟩:=suf_of h1 hpre;obtain⟨hok,hne⟩:=lnsR_ok s.length s (Nat.le_refl _) pre x suf' h1.symm
  have hlen:pre.flatten.length+x.length+suf'.flatten.length=s.length:=by
   have:=congrArg (fun l=>(List.flatten l).length) h1;simp only[lnsR_flat,List.flatten_append,List.flatten_cons,List.length_append]at this;omega
  have zx:(S x).size=x.length:=S_size x;have hRx:=runsOf_any (S x) (by omega) W;rw[S_list]at hRx;have HRx:=Lib.hid hRx;have H1:=Lib.hid h1;have H2:=Lib.hid h2;have H3:=Lib.hid h3;have H5:=Lib.hid h5;clear hRx h1 h3 h5 hpre;obtain⟨_,_,rv,ov,k3,_,_⟩:=h2;have HK3:=Lib.hid k3;clear k3
  gi_wp2_with (refine⟨trivial,?_⟩;gi_at_call 171;refine(CallsIn.inRound l (callsIn_wide.2 HRx.out)).mono ?_;rintro e w5 ⟨v5,d5,rfl,g1,g2,g3,g4,g5⟩;have G1:=Lib.hid g1;have G2:=Lib.hid g2;have G3:=Lib.hid (And.intro g3 g5);have G4:=Lib.hid g4;have k5:w5.heap[w.heap.size]? = some (.cells #[.string line,rv,ov] 177 (0,0)):=(g4.block _ (lt_of_at HK3.out)).trans HK3.out;have c50:w5.cell? ⟨w.heap.size,0,none⟩=some (.string line):=cell_at k5 0;have c51:w5.cell? ⟨w.heap.size,1,none⟩=some rv:=cell_at k5 1;have f50:w5.frozen? ⟨w.heap.size,0,none⟩=false:=frozen_at k5 0;have f51:w5.frozen? ⟨w.heap.size,1,none⟩=false:=frozen_at k5 1;obtain⟨ao5,ca5,hv5⟩:=g3.len;subst hv5;clear g1 g2 g3 g4 g5)
  have HLn0:=Lib.hid (H2.out.line (x:=S x) G4.out G3.out);obtain⟨HLc,HLb⟩:=HLn0.out;have HLc:=Lib.hid HLc;have HLb:=Lib.hid HLb;clear HLn0;generalize (w5.setCell ⟨w.heap.size,0,none⟩ (.string (S x))).setCell ⟨w.heap.size,1,none⟩ (.slice ao5 d5.length ca5)=w6 at *;clear HRx c50 c51 f50 f51 k5 HK3 G3 G4 H2;have zx':((S x).size:Int)=(x.length:Int):=by rw[zx]
  gi_loopw [5] (fun i wr=>∃(k:Nat) (ps':List Pc),k≤x.length∧i=.int .i64 k∧ps'.length≤pre.flatten.length+k∧Hid (Cut1 s ps' (x.drop k++suf'.flatten))∧Hid (Cst w.heap.size (w.heap.size+1) wr (S x) d5 ps')∧Hid (BdS kC w.heap.size W wr)) (fun i _=>x.length-(intOf i).toNat)
  case atStart=>exact⟨0,ps,Nat.zero_le _,rfl,by omega,Lib.hid (by rw[List.drop_zero];have:=H3.out;rwa[List.flatten_cons]at this),HLc,HLb⟩
  case round=>
   clear HLc HLb;obtain⟨k,ps',hk,rfl,hpl,K1,K2,K3⟩:=hrel;by_cases hlt:k<x.length
   ·have hi1:(k:Int)<((S x).size:Int):=by rw[zx'];omega
    have hN:=next_any K2.out (by rw[S_list];exact G1.out) G2.out suf'.flatten (by rw[S_list];exact hok) k (by rw[zx];exact hlt) (by rw[zx];omega) (by rw[zx];omega);have HN:=Lib.hid hN;clear hN
    gi_wp2_with (refine⟨trivial,?_⟩;gi_at_call 172;refine(CallsIn.inRound l (callsIn_wide.2 HN.out)).mono ?_;rintro e w7 ⟨k',qs,rfl,n1,n2,n3,n4,n5,n6⟩;have N4:=Lib.hid n4;have N5:=Lib.hid n5;have N6:=Lib.hid n6;clear n4 n5 n6)
    go_roundw
    case rel=>
     refine⟨k',ps'++qs,by rw[zx]at n2;exact n2,rfl,by rw[List.length_append];omega,Lib.hid ?_,N4,Lib.hid (K3.out.trans N5.out)⟩;have:=N6.out;rw[S_list]at this;exact K1.out.trans this
    case measure=>rw[zx]at n2;simp[intOf];omega
   ·have hi1:¬(k:Int)<((S x).size:Int):=by rw[zx'];omega
    have HE:Hid (IC s w (pre++[x]) wr):=Lib.hid ⟨S x,d5,ps',suf',by rw[List.append_assoc];exact H1.out,K2.out,by have:=K1.out;rwa[List.drop_eq_nil_of_le (by omega),List.nil_append]at this,by rw[List.flatten_append,List.length_append];simp only[List.flatten_cons,List.flatten_nil,List.append_nil];omega,H5.out.trans K3.out.1.1⟩
    gi_wp2
    exact⟨HE.out,K3.out⟩
 case done=>
  have hw2:=hB2.size;clear hI0 hC0 hBx hB2 hsz2;rintro D W hD ⟨line,d,ps,suf,h1,h2,h3,h4,h5⟩ hK;obtain rfl:suf=[]:=List.append_cancel_left (h1.trans (List.append_nil _).symm);have hCG:=h3.done;rw[lnsR_flat]at h4;obtain⟨_,hB1,rv,ov,k3,_,k5⟩:=h2
  obtain⟨b,ao,cap,rfl,a1,a2,a3,a4,a5,a6⟩:∃b ao cap,ov=.slice ao ps.length cap∧(ps=[]∨ao=some ⟨b,0,none⟩)∧Pcl W b ps ps.length∧(ps=[]∨b<W.heap.size)∧w.heap.size<b∧b≠D∧(ps=[]∨(ao=some ⟨b,0,none⟩∧b<W.heap.size)):=by
   have hDl:=lt_of_at hK;rcases k5.2 with ⟨rfl,h0⟩|⟨g,cap,cur,rfl,hB,hg,hr⟩
   ·obtain rfl:ps=[]:=List.eq_nil_of_length_eq_zero h0
    exact⟨W.heap.size,none,0,rfl,Or.inl rfl,Or.inl rfl,Or.inl rfl,by omega,by omega,Or.inl rfl⟩
   ·have hgl:=lt_of_at hg
    refine⟨g,_,cap,rfl,Or.inr rfl,Pcl.of_own k5 (n:=0),Or.inr hgl,by omega,fun e=>?_,Or.inr ⟨rfl,hgl⟩⟩;rw[e,hK]at hg;cases hg
  have q2:W.cell? ⟨w.heap.size,2,none⟩=some (.slice ao ps.length cap):=cell_at k3 2;have HLk:=Lib.hid (HLA ps (by omega) b cap ao W a1 a2 a3);have HK3:=Lib.hid k3;have HK:=Lib.hid hK;have H5:=Lib.hid h5;have HCG:=Lib.hid hCG;clear hCG h1 h3 h5 k3 k5 a1 a2 a3 hK HLA
  gi_wp2_with (refine⟨trivial,?_⟩;gi_at_call 173;refine(callsIn_wide.2 HLk.out).mono ?_;rintro e w9 ⟨rfl,l1,l2⟩;have L1:=Lib.hid l1;have L2:=Lib.hid l2;have k9:=l2.at HK3.out (by omega);have q9:w9.cell? ⟨w.heap.size,2,none⟩=some (.slice ao ps.length cap):=cell_at k9 2;clear l1 l2 k9)
  have hK9:w9.heap[D]? = some (Obj.deferred (some [])):=L2.out.at HK.out (Ne.symm a5);have tm:=turn_mine (K:=kL) (n0:=w.heap.size) (n1:=0) (o':=Obj.deferred none) hK9 rfl (by omega) (Nat.zero_le _);have hb9:Below w.heap.size w w9:=H5.out.trans (L2.out.below (fun g e=>by subst e;omega) H5.out.size);refine⟨by simp,.inl ⟨_,_,rfl,run_takeDeferred hK9,?_⟩⟩;exact⟨_,results_tmp rfl _ _ _,_,ps,rfl,HCG.out,by omega,⟨ao,cap,b,rfl,a6.imp id (fun h=>⟨h.1,Nat.lt_of_lt_of_le h.2 (Nat.le_trans L2.out.size tm.1.1.size)⟩),L1.out.mine tm.1⟩,hb9.trans tm.1.1⟩
end Sp
namespace Sp
open Go.RowKit
open Tk (S)
open Cm (cell_at alloc_new alloc_at)
def RdW (r b cap:Nat) (ao:Option Addr) (A:List Pc) (i:Nat) (w:World):Prop:=
 w.heap[r]? = some (.cells #[.slice ao A.length cap,.int .i64 (i:Int)] 157 (0,0))∧(A=[]∨ao=some ⟨b,0,none⟩)∧Pcl w b A 0
theorem RdW.piece {r b cap i:Nat} {ao:Option Addr} {A:List Pc} {w:World} (h:RdW r b cap ao A i w) (k:Nat) (hk:k<A.length):
  ao=some ⟨b,0,none⟩∧∃cur,w.heap[b]? = some (.cells cur 189 (0,0))∧cur[k*4]? = some (.int .i64 A[k].kind)∧cur[k*4+1]? = some (.string (S A[k].s))∧
  cur[k*4+2]? = some (.int .i64 (nxt 2 A (k+1):Nat))∧cur[k*4+3]? = some (.int .i64 (nxt 4 A (k+1):Nat)):=by
 obtain⟨h1,h2,h3⟩:=h;have hne:A≠[]:=fun e=>by rw[e]at hk;exact absurd hk (Nat.not_lt_zero _)
 obtain⟨cur,k1,k2⟩:=h3.resolve_left hne;obtain⟨p0,p1,p2,p3⟩:=k2 k hk;rw[if_neg (by omega)]at p2 p3;exact⟨h2.resolve_left hne,cur,k1,p0,p1,p2,p3⟩
set_option maxHeartbeats 3200000 in
set_option maxRecDepth 100000 in
theorem endsR_any (r b cap i:Nat) (ao:Option Addr) (A:List Pc) (e l:Bool) (w:World) (h:RdW r b cap ao A i w) (hi:i<A.length) (hA:A.length≤1000000):
  Calls Tryz.prog 174 #[.pointer (some ⟨r,0,none⟩),.agg #[.bool e,.bool l]] w fun x w'=>x=.returned (.bool (isEnd e l A[i]))∧Below w.heap.size w w':=by
 obtain⟨rfl,cur,k1,p0,p1,p2,p3⟩:=h.piece i hi;have c1:=alloc_at h.1 (.cells #[.bool e,.bool l] 160);have d1:=alloc_at k1 (.cells #[.bool e,.bool l] 160);have n1:=alloc_new w (.cells #[.bool e,.bool l] 160);have HB:=Lib.hid ((Below.refl w.heap.size w).alloc (Nat.le_refl _) (.cells #[.bool e,.bool l] 160));have hge:(0:Int)≤(i:Int):=by omega
 have hlt:(i:Int)<(A.length:Int):=by omega
 unfold isEnd;generalize A[i].kind=K at *;have q0:(w.alloc (.cells #[.bool e,.bool l] 160)).cell? ⟨r,0,none⟩=some (.slice (some ⟨b,0,none⟩) A.length cap):=cell_at c1 0;have q1:(w.alloc (.cells #[.bool e,.bool l] 160)).cell? ⟨r,1,none⟩=some (.int .i64 (i:Int)):=cell_at c1 1;have q2:(w.alloc (.cells #[.bool e,.bool l] 160)).cell? ⟨b,i*4,none⟩=some (.int .i64 (K:Int)):=(cell_at d1 _).trans p0;have b0:(w.alloc (.cells #[.bool e,.bool l] 160)).cell? ⟨w.heap.size,0,none⟩=some (.bool e):=cell_at n1 0;have b1:(w.alloc (.cells #[.bool e,.bool l] 160)).cell? ⟨w.heap.size,1,none⟩=some (.bool l):=cell_at n1 1;clear h k1 p0 p1 p2 p3 c1 d1 n1
 have fin:∀K2 K4:Bool,decide (K=2)=K2→decide (K=4)=K4→((K:Int)==2)=K2∧((K:Int)==4)=K4:=fun K2 K4 h2 h4=>by
  subst h2 h4;exact⟨by rw[Bool.eq_iff_iff];simp;omega,by rw[Bool.eq_iff_iff];simp;omega⟩
 obtain⟨f2,f4⟩:=fin _ _ rfl rfl;clear fin;generalize decide (K=2)=K2 at *;generalize decide (K=4)=K4 at *;generalize (K:Int)=K' at *;go_enter Tryz.func174,Tryz.ntmps174;go_wp2_with fail;generalize w.alloc (.cells #[.bool e,.bool l] 160)=w1 at *;go_quiet (fail)
 cases e<;>cases l<;>cases K2<;>cases K4<;>(
  go_wp2_with fail;go_ret;exact⟨rfl,below_drewN HB.out _⟩)
set_option maxHeartbeats 3200000 in
set_option maxRecDepth 100000 in
theorem emphR_any (r b cap i st sh:Nat) (ao:Option Addr) (A:List Pc) (kd:Int) (s:ByteArray) (e l:Bool) (w:World) (h:RdW r b cap ao A i w):
  Calls Tryz.prog 176 #[.pointer (some ⟨r,0,none⟩),.agg #[.int .i64 kd,.string s,.int .i64 (st:Int),.int .i64 (sh:Int)],.agg #[.bool e,.bool l]] w fun x w'=>
   x=.returned (.bool (decide (¬(l=true∧sh<st)∧st<A.length∧i<st)))∧Below w.heap.size w w':=by
 have c1:=alloc_at (alloc_at h.1 (.cells #[.int .i64 kd,.string s,.int .i64 (st:Int),.int .i64 (sh:Int)] 189)) (.cells #[.bool e,.bool l] 160);have n1:=alloc_at (alloc_new w (.cells #[.int .i64 kd,.string s,.int .i64 (st:Int),.int .i64 (sh:Int)] 189)) (.cells #[.bool e,.bool l] 160);have n2:=alloc_new (w.alloc (.cells #[.int .i64 kd,.string s,.int .i64 (st:Int),.int .i64 (sh:Int)] 189)) (.cells #[.bool e,.bool l] 160);have HB:=Lib.hid (((Below.refl w.heap.size w).alloc (Nat.le_refl _) (.cells #[.int .i64 kd,.string s,.int .i64 (st:Int),.int .i64 (sh:Int)] 189)).alloc (by simp) (.cells #[.bool e,.bool l] 160));rw[World.size_alloc]at n2;clear h;have q0:((w.alloc (.cells #[.int .i64 kd,.string s,.int .i64 (st:Int),.int .i64 (sh:Int)] 189)).alloc (.cells #[.bool e,.bool l] 160)).cell? ⟨r,0,none⟩=some (.slice ao A.length cap):=cell_at c1 0;have q1:((w.alloc (.cells #[.int .i64 kd,.string s,.int .i64 (st:Int),.int .i64 (sh:Int)] 189)).alloc (.cells #[.bool e,.bool l] 160)).cell? ⟨r,1,none⟩=some (.int .i64 (i:Int)):=cell_at c1 1;have s2:((w.alloc (.cells #[.int .i64 kd,.string s,.int .i64 (st:Int),.int .i64 (sh:Int)] 189)).alloc (.cells #[.bool e,.bool l] 160)).cell? ⟨w.heap.size,2,none⟩=some (.int .i64 (st:Int)):=cell_at n1 2;have s3:((w.alloc (.cells #[.int .i64 kd,.string s,.int .i64 (st:Int),.int .i64 (sh:Int)] 189)).alloc (.cells #[.bool e,.bool l] 160)).cell? ⟨w.heap.size,3,none⟩=some (.int .i64 (sh:Int)):=cell_at n1 3;have b1:((w.alloc (.cells #[.int .i64 kd,.string s,.int .i64 (st:Int),.int .i64 (sh:Int)] 189)).alloc (.cells #[.bool e,.bool l] 160)).cell? ⟨w.heap.size+1,1,none⟩=some (.bool l):=cell_at n2 1;clear c1 n1 n2;have D1:decide ((sh:Int)<(st:Int))=decide (sh<st):=by rw[Bool.eq_iff_iff];simp
 have D2:decide ((st:Int)<(A.length:Int))=decide (st<A.length):=by rw[Bool.eq_iff_iff];simp
 have D3:decide ((i:Int)<(st:Int))=decide (i<st):=by rw[Bool.eq_iff_iff];simp
 by_cases g1:l=true∧sh<st
 ·have HR:Hid ((decide (¬(l=true∧sh<st)∧st<A.length∧i<st))=false):=Lib.hid (by simp[g1])
  rw[decide_eq_true g1.2]at D1;obtain⟨rfl,_⟩:=g1;rw[HR.out];clear D2 D3;go_enter Tryz.func176,Tryz.ntmps176;go_wp2_with fail;go_ret;exact⟨rfl,HB.out⟩
 ·have D1':l=true→decide ((sh:Int)<(st:Int))=false:=fun e=>by rw[D1];exact decide_eq_false (fun h=>g1 ⟨e,h⟩)
  have HR:Hid ((decide (¬(l=true∧sh<st)∧st<A.length∧i<st))=(decide (st<A.length)&&decide (i<st))):=Lib.hid (by rw[Bool.eq_iff_iff];simp[g1]);rw[HR.out];clear D1 g1;generalize decide (st<A.length)=X2 at *;generalize decide (i<st)=X3 at *;generalize (st:Int)=st' at *;generalize (sh:Int)=sh' at *;cases l
  all_goals (
   try (have D1:=D1' rfl)
   clear D1';go_enter Tryz.func176,Tryz.ntmps176;go_wp2_with fail
   cases X2<;>cases X3<;>(
    go_quiet (fail);go_wp2_with fail;go_ret;exact⟨rfl,below_drewN HB.out _⟩))
set_option maxHeartbeats 3200000 in
set_option maxRecDepth 100000 in
theorem linkR_any (r b cap i st sh:Nat) (ao:Option Addr) (A:List Pc) (kd:Int) (s:ByteArray) (e l:Bool) (w:World) (h:RdW r b cap ao A i w) (hA:A.length≤1000000) (hsh:sh≤A.length):
  Calls Tryz.prog 177 #[.pointer (some ⟨r,0,none⟩),.agg #[.int .i64 kd,.string s,.int .i64 (st:Int),.int .i64 (sh:Int)],.agg #[.bool e,.bool l]] w fun x w'=>
   x=.returned (.bool (decide (l=false∧¬(e=true∧st<sh)∧i<sh∧sh+1<A.length∧(A.getD (sh+1) ⟨0,[],[]⟩).kind=5)))∧Below w.heap.size w w':=by
 have c1:=alloc_at (alloc_at h.1 (.cells #[.int .i64 kd,.string s,.int .i64 (st:Int),.int .i64 (sh:Int)] 189)) (.cells #[.bool e,.bool l] 160);have n1:=alloc_at (alloc_new w (.cells #[.int .i64 kd,.string s,.int .i64 (st:Int),.int .i64 (sh:Int)] 189)) (.cells #[.bool e,.bool l] 160);have n2:=alloc_new (w.alloc (.cells #[.int .i64 kd,.string s,.int .i64 (st:Int),.int .i64 (sh:Int)] 189)) (.cells #[.bool e,.bool l] 160);have HB:=Lib.hid (((Below.refl w.heap.size w).alloc (Nat.le_refl _) (.cells #[.int .i64 kd,.string s,.int .i64 (st:Int),.int .i64 (sh:Int)] 189)).alloc (by simp) (.cells #[.bool e,.bool l] 160));rw[World.size_alloc]at n2;have q0:((w.alloc (.cells #[.int .i64 kd,.string s,.int .i64 (st:Int),.int .i64 (sh:Int)] 189)).alloc (.cells #[.bool e,.bool l] 160)).cell? ⟨r,0,none⟩=some (.slice ao A.length cap):=cell_at c1 0;have q1:((w.alloc (.cells #[.int .i64 kd,.string s,.int .i64 (st:Int),.int .i64 (sh:Int)] 189)).alloc (.cells #[.bool e,.bool l] 160)).cell? ⟨r,1,none⟩=some (.int .i64 (i:Int)):=cell_at c1 1;have s2:((w.alloc (.cells #[.int .i64 kd,.string s,.int .i64 (st:Int),.int .i64 (sh:Int)] 189)).alloc (.cells #[.bool e,.bool l] 160)).cell? ⟨w.heap.size,2,none⟩=some (.int .i64 (st:Int)):=cell_at n1 2;have s3:((w.alloc (.cells #[.int .i64 kd,.string s,.int .i64 (st:Int),.int .i64 (sh:Int)] 189)).alloc (.cells #[.bool e,.bool l] 160)).cell? ⟨w.heap.size,3,none⟩=some (.int .i64 (sh:Int)):=cell_at n1 3;have b0:((w.alloc (.cells #[.int .i64 kd,.string s,.int .i64 (st:Int),.int .i64 (sh:Int)] 189)).alloc (.cells #[.bool e,.bool l] 160)).cell? ⟨w.heap.size+1,0,none⟩=some (.bool e):=cell_at n2 0;have b1:((w.alloc (.cells #[.int .i64 kd,.string s,.int .i64 (st:Int),.int .i64 (sh:Int)] 189)).alloc (.cells #[.bool e,.bool l] 160)).cell? ⟨w.heap.size+1,1,none⟩=some (.bool l):=cell_at n2 1
 have HP:Hid (∀hk:sh+1<A.length,ao=some ⟨b,0,none⟩∧∃K:Nat,(A.getD (sh+1) ⟨0,[],[]⟩).kind=K∧((w.alloc (.cells #[.int .i64 kd,.string s,.int .i64 (st:Int),.int .i64 (sh:Int)] 189)).alloc (.cells #[.bool e,.bool l] 160)).cell? ⟨b,(sh+1)*4,none⟩=some (.int .i64 (K:Int))):=Lib.hid (fun hk=>by
  obtain⟨e1,cur,k1,p0,_⟩:=h.piece (sh+1) hk;exact⟨e1,A[sh+1].kind,by rw[List.getD_eq_getElem?_getD,List.getElem?_eq_getElem hk];rfl,(cell_at (alloc_at (alloc_at k1 (.cells #[.int .i64 kd,.string s,.int .i64 (st:Int),.int .i64 (sh:Int)] 189)) (.cells #[.bool e,.bool l] 160)) _).trans p0⟩)
 clear h c1 n1 n2;generalize (A.getD (sh+1) ⟨0,[],[]⟩).kind=K at *;have D1:decide ((st:Int)<(sh:Int))=decide (st<sh):=by rw[Bool.eq_iff_iff];simp
 have D2:decide ((i:Int)<(sh:Int))=decide (i<sh):=by rw[Bool.eq_iff_iff];simp
 have D3:decide ((sh:Int)+1<(A.length:Int))=decide (sh+1<A.length):=by rw[Bool.eq_iff_iff];simp;omega
 have D4:((K:Int)==5)=decide (K=5):=by rw[Bool.eq_iff_iff];simp;omega
 have r1:(0:Int)≤(sh:Int)+1:=by omega
 have r2:(sh:Int)+1<9223372036854775808:=by omega
 by_cases g1:l=true∨(e=true∧st<sh)
 ·have HR:Hid (decide (l=false∧¬(e=true∧st<sh)∧i<sh∧sh+1<A.length∧K=5)=false):=Lib.hid (by rcases g1 with g1 |g1<;>simp[g1])
  rw[HR.out];clear D2 D3 D4 HP;cases l
  ·obtain⟨rfl,h2⟩:=g1.resolve_left (by simp)
   rw[decide_eq_true h2]at D1;clear g1;go_enter Tryz.func177,Tryz.ntmps177;go_wp2_with fail;go_ret;exact⟨rfl,HB.out⟩
  ·clear g1
   go_enter Tryz.func177,Tryz.ntmps177;go_wp2_with fail;go_ret;exact⟨rfl,HB.out⟩
 ·have hl:l=false:=by cases l<;>simp_all
  subst hl;have D1':e=true→decide ((st:Int)<(sh:Int))=false:=fun e'=>by rw[D1];exact decide_eq_false (fun h=>g1 (Or.inr ⟨e',h⟩))
  have HR:Hid (decide ((false:Bool)=false∧¬(e=true∧st<sh)∧i<sh∧sh+1<A.length∧K=5)=(decide (i<sh)&&(decide (sh+1<A.length)&&decide (K=5)))):=Lib.hid (by
   have:¬(e=true∧st<sh):=fun h=>g1 (Or.inr h)
   rw[Bool.eq_iff_iff];simp[this])
  rw[HR.out];clear D1 g1 HR;by_cases g2:i<sh
  ·by_cases g3:sh+1<A.length
   ·obtain⟨rfl,_,rfl,hK⟩:=HP.out g3
    rw[decide_eq_true g2]at D2;rw[decide_eq_true g3]at D3;rw[decide_eq_true g2,decide_eq_true g3];have r3:(sh:Int)+1<(A.length:Int):=by omega
    clear HP;generalize decide (K=5)=X4 at *;generalize (K:Int)=K' at *;generalize (st:Int)=st' at *;cases e
    all_goals (
     try (have D1:=D1' rfl)
     clear D1';go_enter Tryz.func177,Tryz.ntmps177;go_wp2_with fail
     cases X4<;>(
      go_quiet (fail);go_wp2_with fail;go_ret;exact⟨rfl,below_drewN HB.out _⟩))
   ·rw[decide_eq_true g2]at D2
    rw[decide_eq_false g3]at D3;rw[decide_eq_true g2,decide_eq_false g3];clear HP D4;generalize (st:Int)=st' at *;cases e
    all_goals (
     try (have D1:=D1' rfl)
     clear D1';go_enter Tryz.func177,Tryz.ntmps177;go_wp2_with fail;go_quiet (fail);go_wp2_with fail;go_ret;exact⟨rfl,below_drewN HB.out _⟩)
  ·rw[decide_eq_false g2]at D2
   rw[decide_eq_false g2];clear HP D3 D4;generalize (st:Int)=st' at *;cases e
   all_goals (
    try (have D1:=D1' rfl)
    clear D1';go_enter Tryz.func177,Tryz.ntmps177;go_wp2_with fail;go_quiet (fail);go_wp2_with fail;go_ret;exact⟨rfl,below_drewN HB.out _⟩)
end Sp
end Go.Proofs.YtpakjdgddomdjabGreatDoor
