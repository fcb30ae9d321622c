import Derived.Test.YtpakjdgddomdjabGreatDoorPkAV
import Derived.Test.YtpakjdgddomdjabGreatDoorPkAW
import Derived.Test.YtpakjdgddomdjabGreatDoorPkAG
import Derived.Test.YtpakjdgddomdjabGreatDoorPkAN
import Derived.Test.YtpakjdgddomdjabGreatDoorPkAK
import Derived.Test.YtpakjdgddomdjabGreatDoorPkL
import Derived.Laws.StructEq
set_option linter.unusedVariables false
namespace Go.Proofs.YtpakjdgddomdjabGreatDoor
namespace Wr
open Go.RowKit
open Bt (TrB fitAll ttAll rgB one_rg)
open Bk (Bk)
theorem fitAll_one {R:Nat} {l:List Bk} {x:Bk} (h:fitAll R l) (hx:x∈l):fitAll R [x]:=by
 unfold fitAll;exact⟨Bt.fitAll_at h x hx,by unfold fitAll;trivial⟩
theorem tt_one {l:List Bk} {x:Bk} (hx:x∈l):ttAll [x]≤ttAll l:=by
 have:=Bt.ttAll_mem hx;rw[Bt.ttAll_cons,Bt.ttAll];omega
theorem lines_one {l:List Bk} (hr:rgB l=true) (hf:fitAll 1048576 l) (ht:ttAll l≤20000) {x:Bk} (hx:x∈l) (v:Value) (w:World) (hv:TrB w v [x]):Calls Tryz.prog 12 #[v] w fun e w'=>∃u,e=.returned (.tuple #[u,.int .i64 0])∧(∃B,w.heap.size≤B∧Pa.OutS B w' u (Bk.one x))∧Below w.heap.size w w':=by
 have h1:=one_rg hr hx;have h:=linesW_any v [x] w hv (fitAll_one hf hx) (Nat.le_trans (tt_one hx) ht);unfold WrLns wrE wrL at h;rw[if_pos h1,if_pos h1,Bk.wl_one]at h;exact h
end Wr
end Go.Proofs.YtpakjdgddomdjabGreatDoor
namespace Go.Proofs.YtpakjdgddomdjabGreatDoor
namespace Wr
open Go.RowKit
open Tk (S Rd)
open Sp (OkAns)
open Bt (TrB fitAll ttAll rgB rrightB_any fit47 sliceB)
open Cm (Keep own_keep own_obj)
open Bk (Bk Tx wl)
open Pa (OutG OutS OutP encX_map RdP SprAns told12 appS_rd)
theorem infoN13:(Tryz.prog.info? 3).map (fun i=>(i.zero,i.size,i.bytes))=some (some (.int .i64 0),1,8):=by kernel_rfl
theorem ne_pair13 (p q:Int) (w:World):(binOp .neq 35 (.agg #[.int .i64 p,.int .i64 q]) (.agg #[.int .i64 p,.int .i64 q])).run Tryz.prog w=.ok (.bool false) w:=by
 obtain⟨i0,hi,hz0,hz1,hz2⟩:=info_parts infoN13;have hcl:Tryz.prog.cellsOf 3=1:=by kernel_rfl
 rw[run_neq_struct,run_equalIn_array w 9999 _ _ Tryz.underlying35 hi];rw[hcl];simp[Op.eqItems,go_sem,List.range_succ,Tryz.underlying3]
theorem guard13 (op:BinOp) (x y:Operand) (xs ys:Array Value) (w:World):(eqGuard op 35 x y (.agg xs) (.agg ys)).run Tryz.prog w=.ok () w:=run_eqGuard_agg w op _ x y xs ys (by kernel_rfl)
theorem pl_snoc:∀(l:List Bk) (x:Bk) (j:Nat),pl j (l++[x])=pl j l++[((if l=[]then j else j+(wl l).length+1),(if l=[]then j else j+(wl l).length+1)+(Bk.one x).length)]
 |[],x,j=>rfl
 |[y],x,j=>by
  rw[List.cons_append,List.nil_append,pl,pl,pl,pl,if_neg (by simp),Bk.wl_one,pl];rfl
 |y::z::r,x,j=>by
  have ih:=pl_snoc (z::r) x (j+(Bk.one y).length+1);rw[if_neg (by simp)]at ih ⊢;rw[List.cons_append,pl,ih,pl,Bk.wl_two,List.length_append,List.length_cons];have e:j+(Bk.one y).length+1+(wl (z::r)).length+1=j+((Bk.one y).length+((wl (z::r)).length+1))+1:=by omega
  rw[e];rfl
theorem strs_on {B B':Nat} {w w':World} {v u:Value} {os:List Tx} {ps:List (Nat × Nat)} (h:OutS B w v os) (k:OutP B' w u ps) (hk:Keep (fun j=>some j=u.ownBlock) w w'):OutS B w' v os:=
 ⟨Nat.le_trans (OutG.size h) hk.size,own_keep (OutG.own h) hk (fun g hg he=>by
  obtain⟨c1,h1⟩:=own_obj (OutG.own h) hg;obtain⟨c2,h2⟩:=own_obj (OutG.own k) he.symm;rw[h1]at h2;simp at h2),fun _ _ _ _=>trivial⟩
theorem prs_on {B:Nat} {w w':World} {v u:Value} {os:List Tx} {ps:List (Nat × Nat)} (h:OutS B w v os) (k:OutP B w u ps) (hk:Keep (fun j=>some j=v.ownBlock) w w'):OutP B w' u ps:=
 ⟨Nat.le_trans (OutG.size k) hk.size,own_keep (OutG.own k) hk (fun g hg he=>by
  obtain⟨c1,h1⟩:=own_obj (OutG.own k) hg;obtain⟨c2,h2⟩:=own_obj (OutG.own h) he.symm;rw[h1]at h2;simp at h2),fun _ _ _ _=>trivial⟩
theorem strs_app {B:Nat} {w:World} {v u:Value} {os ys:List Tx} (h:OutS B w v os) (hu:Rd w u ys) (hs:os.length+ys.length≤1000000):
  ∃v' w',(∀ty,(Builtin.append_ #[31,31] ty #[v,u]).run Tryz.prog w=.ok v' w')∧OutS B w' v' (os++ys)∧Keep (fun j=>some j=v.ownBlock) w w':=by
 have ho:=OutG.own h;rw[encX_map]at ho;obtain⟨v',w',g1,g2,g3⟩:=appS_rd ho hu (OutG.size h) hs;have hk:Keep (fun j=>some j=v.ownBlock) w w':=(Keep.refl _ _).grown g3 (fun k hk=>Or.inl hk.symm);exact⟨v',w',g1,⟨Nat.le_trans (OutG.size h) hk.size,by rw[encX_map];exact g2,fun _ _ _ _=>trivial⟩,hk⟩
theorem strs_off {B B':Nat} {w0 w w':World} {v u:Value} {os xs:List Tx} (h:OutS B w0 v os) (hB:w0.heap.size≤B') (k:OutS B' w u xs) (hk:Keep (fun j=>some j=v.ownBlock) w w'):OutS B' w' u xs:=
 ⟨Nat.le_trans (OutG.size k) hk.size,own_keep (OutG.own k) hk (fun g hg he=>by
  have h1:=(OutG.block h g he.symm).2;have h2:=(OutG.block k g hg).1;omega),fun _ _ _ _=>trivial⟩
theorem OutP.len {B:Nat} {w:World} {v:Value} {ps:List (Nat × Nat)} (h:OutP B w v ps):∃ao c,v=.slice ao ps.length c:=by
 obtain⟨ao,c,hv,_⟩:=OutG.rk h (fun _=>rfl);exact⟨ao,c,hv⟩
set_option maxHeartbeats 6400000 in
set_option maxRecDepth 100000 in
theorem writeParts_walk (w:World) (va:Value) (a:List Bk) (ra:TrB w va a) (fa:fitAll reachBytes a) (ta:ttAll a≤1048576):
  Calls Tryz.prog 4 #[va] w (OkAns w true):=by
 obtain⟨aa,ca,rfl⟩:=ra.len;have HA:=Lib.hid awake13_any;have FA:=Lib.hid (fun w' (h:Below w.heap.size w w')=>small_any a _ w' (ra.below h) fa);have fs:=Bt.fitAll_tt a fa ta;cases hs:smallB a with
 |false=>
  rw[hs]at FA;clear ra fs fa ta hs;go_enter Tryz.func4,Tryz.ntmps4;go_wp2_with fail;refine(HA.out _).mono ?_;rintro e w2 ⟨rfl,b2⟩;have H2:=Lib.hid b2;clear b2;go_wp2_with fail;refine(FA.out _ H2.out).mono ?_;rintro e w3 ⟨rfl,b3⟩;have H3:=Lib.hid (H2.out.trans (b3.mono H2.out.size));clear FA b3;go_wp2_with fail;refine(HA.out _).mono ?_;rintro e w4 ⟨rfl,b4⟩;have H4:=Lib.hid (H3.out.trans (b4.mono H3.out.size));clear b4;go_wp2_with fail;go_ret;exact⟨rfl,H4.out⟩
 |true=>
  rw[hs]at FA;have htt:=small_tt hs ta;have HR:=Lib.hid (fun w' (h:Below w.heap.size w w')=>rrightB_any a _ w' (fit47 fa) (by omega) (ra.below h));cases hr:rgB a with
  |false=>
   rw[hr]at HR;clear ra fs fa ta hs htt hr;go_enter Tryz.func4,Tryz.ntmps4;go_wp2_with fail;refine(HA.out _).mono ?_;rintro e w2 ⟨rfl,b2⟩;have H2:=Lib.hid b2;clear b2;go_wp2_with fail;refine(FA.out _ H2.out).mono ?_;rintro e w3 ⟨rfl,b3⟩;have H3:=Lib.hid (H2.out.trans (b3.mono H2.out.size));clear FA b3;go_wp2_with fail;refine(HR.out _ H3.out).mono ?_;rintro e w5 ⟨rfl,b5⟩;have H5:=Lib.hid (H3.out.trans (b5.mono H3.out.size));clear HR b5;go_wp2_with fail;refine(HA.out _).mono ?_;rintro e w4 ⟨rfl,b4⟩;have H4:=Lib.hid (H5.out.trans (b4.mono H5.out.size));clear b4;go_wp2_with fail;go_ret;exact⟨rfl,H4.out⟩
  |true=>
   rw[hr]at HR;have RA:=Lib.hid (fun w' (h:Below w.heap.size w w')=>ra.below h);have hsz:=rg_sz hr (by omega);have hal:a.length≤700:=by have:=Bt.szAll_len a;have:=Bt.sz_tt a;omega
   have HX:Hid (∀j (hj:j<a.length),(∀v w',TrB w' v [a[j]]→Calls Tryz.prog 12 #[v] w' fun e w''=>∃u,e=.returned (.tuple #[u,.int .i64 0])∧(∃B,w'.heap.size≤B∧OutS B w'' u (Bk.one a[j]))∧Below w'.heap.size w' w'')∧
     0<(Bk.one a[j]).length∧(Bk.one a[j]).length≤2100):=Lib.hid (fun j hj=>by
    have hx:=List.getElem_mem hj;have h1:=all_mem (Bt.rg_parts hr).1 _ hx;refine⟨fun v w' hv=>lines_one hr fs (by omega) hx v w' hv,?_⟩;obtain⟨s,r,e,hk,_⟩:=first_kind _ (ok1_of false _ h1);have hz:=(one_sz false a[j] _ h1 (Nat.le_refl _)).1;have ht:=Bt.ttAll_mem hx;exact⟨by rw[e];simp,by omega⟩)
   have HT:Hid (∀j,(wl (a.take j)).length≤2100):=Lib.hid (fun j=>by
    have h1:=(wl_sz false 0 (a.take j) _ (all_take (Bt.rg_parts hr).1 j) (Nat.le_refl _)).1;have h2:=tt_take a j;omega)
   have HW:Hid (∀j (hj:j<a.length),wl (a.take (j+1))=(if j=0 then Bk.one a[j]else wl (a.take j)++[]::Bk.one a[j])∧pl 0 (a.take (j+1))=pl 0 (a.take j)++[((if j=0 then 0 else(wl (a.take j)).length+1),(if j=0 then 0 else(wl (a.take j)).length+1)+(Bk.one a[j]).length)]):=Lib.hid (fun j hj=>by
    rw[List.take_succ_eq_append_getElem hj,wl_snoc,pl_snoc];by_cases h0:j=0
    ·subst h0
     rw[List.take_zero,if_pos rfl,if_pos rfl,if_pos rfl,if_pos rfl];exact⟨rfl,rfl⟩
    ·have hne:a.take j≠[]:=by intro e;have:=congrArg List.length e;rw[List.length_take,List.length_nil]at this;omega
     rw[if_neg hne,if_neg hne,if_neg h0,if_neg h0,Nat.zero_add];exact⟨rfl,rfl⟩)
   have HAll:=Lib.hid (fun v w' (hv:TrB w' v a)=>linesW_any v a w' hv fs (by omega));unfold WrLns wrE wrL at HAll;rw[if_pos hr,if_pos hr]at HAll;have HSp:=Lib.hid (fun v w' (hv:Rd w' v (wl a))=>told12.spread v (wl a) w' hv (by omega));rw[sprB_pl hr (by omega)]at HSp;unfold SprAns at HSp;have HSm:=Lib.hid (fun va vb w' (h1:Rd w' va (wl a)) (h2:Rd w' vb (wl a))=>Ln.same_any va vb (wl a) (wl a) w' h1 h2 (by omega) (by omega));simp only[decide_true]at HSm;have hpl:(pl 0 a).length=a.length:=pl_len a 0;have hwl:(wl a).length≤2100:=by omega
   have HPT:Hid (∀j,(pl 0 (a.take j)).length≤700):=Lib.hid (fun j=>by rw[pl_len,List.length_take];omega);have HEq:=Lib.hid (fun(p q:Int) w=>ne_pair13 p q w);clear ra fs fa ta hs htt hr hsz;go_enter Tryz.func4,Tryz.ntmps4;go_wp2_with fail;refine(HA.out _).mono ?_;rintro e w2 ⟨rfl,b2⟩;have H2:=Lib.hid b2;clear b2;go_wp2_with fail;refine(FA.out _ H2.out).mono ?_;rintro e w3 ⟨rfl,b3⟩;have H3:=Lib.hid (H2.out.trans (b3.mono H2.out.size));clear FA b3;go_wp2_with fail;refine(HR.out _ H3.out).mono ?_;rintro e w5 ⟨rfl,b5⟩;have H5:=Lib.hid (H3.out.trans (b5.mono H3.out.size));clear HR b5 HA;go_wp2_with fail;go_loopw [3,4,27] (fun wv av iv wr=>∃j:Nat,j≤a.length∧iv=.int .i64 j∧Hid (OutS w5.heap.size wr wv (wl (a.take j)))∧Hid (OutP w5.heap.size wr av (pl 0 (a.take j)))∧Hid (Below w5.heap.size w5 wr)) (fun _ _ iv _=>a.length-(intOf iv).toNat)
   case atStart=>exact⟨0,Nat.zero_le _,rfl,Lib.hid (by rw[List.take_zero,wl];exact OutG.nil (Nat.le_refl _)),Lib.hid (by rw[List.take_zero,pl];exact OutG.nil (Nat.le_refl _)),Lib.hid (Below.refl _ _)⟩
   case round=>
    obtain⟨j,hj,rfl,HO3,HO4,HB⟩:=hrel;have HB0:=Lib.hid (H5.out.trans (HB.out.mono H5.out.size));by_cases hlt:j<a.length
    ·have hi1:(j:Int)<(a.length:Int):=by omega
     have hT:=RA.out wr HB0.out;obtain⟨bk,ok,vl,vs,ak,ck,rfl,hbk,hC⟩:=hT.at j hlt;obtain⟨hS,hcap⟩:=sliceB hT j hlt;have hs1:(j:Int)+1≤(ca:Int):=by omega
     have hs2:IntKind.i64.wrap ((j:Int)+1)=(j:Int)+1:=by rw[IntKind.wrap_i64];omega
     have hkc:j<ca:=by omega
     obtain⟨hLn,hp0,hp1⟩:=HX.out j hlt;obtain⟨hw1,hw2⟩:=HW.out j hlt;have hTj:=HT.out j;have hPj:=HPT.out j;have HLn:=Lib.hid (hLn _ wr hS);have HW1:=Lib.hid hw1;have HW2:=Lib.hid hw2;have HLz:Hid (j=0→wl (a.take j)=[]):=Lib.hid (fun h=>by rw[h,List.take_zero,wl]);have HRest:=Lib.hid True.intro;clear hT hS hC hLn HX HW hw1 hw2 HT HAll HSp HSm HPT HEq;generalize Bk.one a[j]=X at *;generalize wl (a.take j)=L at *;generalize pl 0 (a.take j)=P at *;obtain⟨v3,hv3⟩:∃v,u3=v:=⟨_,rfl⟩;obtain⟨v4,hv4⟩:∃v,u4=v:=⟨_,rfl⟩;subst hv3;subst hv4;go_wp2_with fail;refine HLn.out.mono ?_;rintro e w7 ⟨u,rfl,⟨B7,hB7,hu⟩,b7⟩;have H7:=Lib.hid (HB.out.trans (b7.mono HB.out.size));have hO3:OutS w5.heap.size w7 u3 L:=OutG.go HO3.out (Keep.of_below b7);have hO4:OutP w5.heap.size w7 u4 P:=OutG.go HO4.out (Keep.of_below b7);obtain⟨au,cu,hvu⟩:=(Pa.OutS.rd hu).len;subst hvu;obtain⟨N,hN⟩:∃N,X.length=N:=⟨_,rfl⟩;have hNz:((N:Int)==0)=false:=by rw[beq_eq_false_iff_ne];omega
     by_cases h0:j=0
     ·have g0:¬(0:Int)<(j:Int):=by omega
      have g00:¬(j:Int)>0:=by omega
      have hd0:(j:Int)=0:=by omega
      rw[if_pos h0]at HW1;rw[if_pos h0]at HW2;obtain⟨a3,c3,hv3⟩:=(Pa.OutS.rd hO3).len;have hLz:L=[]:=HLz.out h0;obtain⟨v9,w9,hr9,ho9,hk9⟩:=Pa.OutP.push hO4 (0,0+N) (by omega);have hS9:=strs_on hO3 hO4 hk9;have hU9:=strs_on hu hO4 hk9;obtain⟨v10,w10,hr10,ho10,hk10⟩:=strs_app hS9 (Pa.OutS.rd hU9) (by rw[hLz];simp only[List.length_nil];omega);have hP10:=prs_on hS9 ho9 hk10;have H10:=Lib.hid ((H7.out.trans (OutG.below hO4 hk9)).trans (OutG.below hS9 hk10));have HS10:Hid (OutS w5.heap.size w10 v10 (wl (a.take (j+1)))):=Lib.hid (by rw[HW1.out];rw[hLz,List.nil_append]at ho10;exact ho10);have HP10:Hid (OutP w5.heap.size w10 v9 (pl 0 (a.take (j+1)))):=Lib.hid (by rw[HW2.out,hN];exact hP10);rw[hLz]at hv3;simp only[List.length_nil]at hv3;subst hv3;rw[hN]at hr10 ⊢;have wn:IntKind.i64.wrap ((0:Int)+(N:Int))=(N:Int):=by rw[IntKind.wrap_i64];omega
      simp only[Nat.zero_add]at hr9;rw[show((0:Nat):Int)=0 from rfl]at hr9;obtain⟨a9,c9,hv9⟩:=OutP.len ho9;clear HLn HO3 HO4 HB HB0 hO3 hO4 hu hS9 hU9 ho9 ho10 hk9 hk10 hP10 HW1 HW2 b7 HRest hLz HLz h0 hv9;go_wp2_with (first |(at_builtin;(show wpList _ _ _ (Oper.mk (some 61) _ _ _ _ _::_) _ _);refine Lib.wpList_append_run _ rfl (.tmp 51) (.tmp 60) _ _ rfl _ _ rfl rfl _ _ (hr9 _) ?_)|(at_builtin;(show wpList _ _ _ (Oper.mk (some 64) _ _ _ _ _::_) _ _);refine Lib.wpList_append_run _ rfl (.tmp 62) (.tmp 63) _ _ rfl _ _ rfl rfl _ _ (hr10 _) ?_));go_roundw
      case rel=>exact⟨j+1,by omega,by go_num,HS10,HP10,H10⟩
      case measure=>simp[intOf]<;>omega
     ·have g0:(0:Int)<(j:Int):=by omega
      rw[if_neg h0]at HW1;rw[if_neg h0]at HW2;obtain⟨v8,w8,hr8,ho8,hk8⟩:=Pa.OutS.push hO3 [] (by omega);have hP8:OutP w5.heap.size w8 u4 P:=prs_on hO3 hO4 hk8;have hU8:=strs_off HO3.out hB7 hu hk8;have hl8:(L++[[]]).length=L.length+1:=by simp
      obtain⟨a8,c8,hv8⟩:=(Pa.OutS.rd ho8).len;obtain⟨v9,w9,hr9,ho9,hk9⟩:=Pa.OutP.push hP8 (L.length+1,L.length+1+N) (by omega);have hS9:=strs_on ho8 hP8 hk9;have hU9:=strs_on hU8 hP8 hk9;obtain⟨v10,w10,hr10,ho10,hk10⟩:=strs_app hS9 (Pa.OutS.rd hU9) (by rw[hl8];omega);have hP10:=prs_on hS9 ho9 hk10;have H10:=Lib.hid (((H7.out.trans (OutG.below hO3 hk8)).trans (OutG.below hP8 hk9)).trans (OutG.below hS9 hk10));have HS10:Hid (OutS w5.heap.size w10 v10 (wl (a.take (j+1)))):=Lib.hid (by rw[HW1.out];rw[List.append_assoc]at ho10;exact ho10);have HP10:Hid (OutP w5.heap.size w10 v9 (pl 0 (a.take (j+1)))):=Lib.hid (by rw[HW2.out,hN];exact hP10);have hzs:S []=⟨#[]⟩:=rfl;rw[hzs]at hr8;rw[hl8]at hv8;obtain⟨M,hM⟩:∃M,L.length+1=M:=⟨_,rfl⟩;rw[hM]at hr9 hv8;have hM1:M≤2200:=by omega
      subst hv8;rw[hN]at hr10 ⊢;have wn:IntKind.i64.wrap ((M:Int)+(N:Int))=((M+N:Nat):Int):=by rw[IntKind.wrap_i64];omega
      obtain⟨a9,c9,hv9⟩:=OutP.len ho9;clear HLn HO3 HO4 HB HB0 hO3 hO4 hu hS9 hU9 hU8 hP8 ho8 ho9 ho10 hk8 hk9 hk10 hP10 HW1 HW2 b7 HRest HLz h0 hv9 hl8 hM hzs;go_wp2_with (first |(at_builtin;(show wpList _ _ _ (Oper.mk (some 50) _ _ _ _ _::_) _ _);refine Lib.wpList_append_run _ rfl (.tmp 48) (.tmp 49) _ _ rfl _ _ rfl rfl _ _ (hr8 _) ?_)|(at_builtin;(show wpList _ _ _ (Oper.mk (some 61) _ _ _ _ _::_) _ _);refine Lib.wpList_append_run _ rfl (.tmp 51) (.tmp 60) _ _ rfl _ _ rfl rfl _ _ (hr9 _) ?_)|(at_builtin;(show wpList _ _ _ (Oper.mk (some 64) _ _ _ _ _::_) _ _);refine Lib.wpList_append_run _ rfl (.tmp 62) (.tmp 63) _ _ rfl _ _ rfl rfl _ _ (hr10 _) ?_));go_roundw
      case rel=>exact⟨j+1,by omega,by go_num,HS10,HP10,H10⟩
      case measure=>simp[intOf]<;>omega
    ·obtain rfl:j=a.length:=by omega
     have hi1:¬(a.length:Int)<(a.length:Int):=by omega
     have htk:a.take a.length=a:=List.take_length;have HS:=Lib.hid HO3.out;have HP:=Lib.hid HO4.out;rw[htk]at HS HP;have HTr:=Lib.hid (RA.out wr HB0.out);have HAl:=Lib.hid (HAll.out _ wr HTr.out);have hps:(pl 0 a).length≤700:=by rw[hpl];exact hal
     clear HX HT HW HPT HAll HO3 HO4 hlt htk hpl hal;generalize hLg:wl a=L at *;generalize hPg:pl 0 a=P at *;go_wp2_with fail;refine HAl.out.mono ?_;rintro e w8 ⟨u,rfl,⟨B8,hB8,hu⟩,b8⟩;have H8:=Lib.hid (HB0.out.trans (b8.mono HB0.out.size));have HU8:=Lib.hid (Pa.OutS.rd hu);have HS8:=Lib.hid ((Pa.OutS.rd HS.out).below b8);have HP8:Hid (RdP w8 u4 P):=Lib.hid ⟨(OutG.rk HP.out (fun _=>rfl)).below b8,by omega⟩;have HSp8:=Lib.hid (HSp.out u w8 HU8.out);clear b8 hu HAl HSp HS HP;go_wp2_with fail;refine HSp8.out.mono ?_;rintro e w9 ⟨up,rfl,hp9,b9⟩;have H9:=Lib.hid (H8.out.trans (b9.mono H8.out.size));have HSm9:=Lib.hid (HSm.out u u3 w9 (HU8.out.below b9) (HS8.out.below b9));have HP9:Hid (RdP w9 u4 P):=Lib.hid ⟨HP8.out.1.below b9,HP8.out.2⟩;have HQ9:=Lib.hid hp9;obtain⟨⟨ap,cp,hvp,_⟩,_⟩:=hp9;obtain⟨⟨aq,cq,hvq,_⟩,_⟩:=HP9.out;subst hvp;subst hvq;clear b9 HSp8 HSm HU8 HS8 HP8;go_wp2_with fail;refine HSm9.out.mono ?_;rintro e w10 ⟨rfl,b10⟩;have H10:=Lib.hid (H9.out.trans (b10.mono H9.out.size));have HP10:Hid (RdP w10 (.slice aq P.length cq) P):=Lib.hid ⟨HP9.out.1.below b10,HP9.out.2⟩;have HQ10:Hid (RdP w10 (.slice ap P.length cp) P):=Lib.hid ⟨HQ9.out.1.below b10,HQ9.out.2⟩;clear b10 HSm9 HP9 HQ9;go_wp2_with fail;go_loopw [90] (fun iv wr=>∃k:Nat,k≤P.length∧iv=.int .i64 k∧Hid (Below w10.heap.size w10 wr)) (fun iv _=>P.length-(intOf iv).toNat)
     case atStart=>exact⟨0,Nat.zero_le _,rfl,Lib.hid (Below.refl _ _)⟩
     case round=>
      obtain⟨k,hk,rfl,HB'⟩:=hrel;by_cases hlt:k<P.length
      ·have hki:(k:Int)<(P.length:Int):=by omega
       obtain⟨b,o,ao',cap',h1,h2,x0,x1⟩:=Pa.RdP.at (show RdP wr _ P from⟨HQ10.out.1.below HB'.out,HQ10.out.2⟩) k hlt;simp only[Value.slice.injEq,true_and]at h1;obtain⟨rfl,rfl⟩:=h1;subst h2;obtain⟨b',o',ao',cap',h1,h2,y0,y1⟩:=Pa.RdP.at (show RdP wr _ P from⟨HP10.out.1.below HB'.out,HP10.out.2⟩) k hlt;simp only[Value.slice.injEq,true_and]at h1;obtain⟨rfl,rfl⟩:=h1;subst h2;have hne:=HEq.out (P[k].1:Nat) (P[k].2:Nat);have hgd:=fun op x y xs ys w=>guard13 op x y xs ys w
       clear HP10 HQ10 HEq;generalize P[k]=pq at *;obtain⟨p,q⟩:=pq;simp only at x0 x1 y0 y1 hne;go_wp2_with fail;go_quiet (fail);go_wp2_with fail;have HB9:=Lib.hid (below_drewN HB'.out nq);go_roundw
       case rel=>exact⟨k+1,by omega,by go_num,HB9⟩
       case measure=>simp[intOf]<;>omega
      ·have hki:¬(k:Int)<(P.length:Int):=by omega
       have H11:=Lib.hid (H10.out.trans (HB'.out.mono H10.out.size));clear HP10 HQ10 hlt HEq;go_wp2_with fail;go_ret;exact⟨rfl,H11.out⟩
end Wr
end Go.Proofs.YtpakjdgddomdjabGreatDoor
