import Derived.Test.YtpakjdgddomdjabGreatDoorPkX
import Derived.Deep.RegionLaw
import Derived.Test.YtpakjdgddomdjabGreatDoorPkV
import Derived.Test.YtpakjdgddomdjabGreatDoorPkW
import Derived.Test.YtpakjdgddomdjabGreatDoorBt10Told
import Derived.Lib.QuietBelow
import Derived.BigQuiet
import Derived.Test.YtpakjdgddomdjabGreatDoorPkAG
import Derived.Test.YtpakjdgddomdjabGreatDoorPkAJ
set_option linter.unusedVariables false
namespace Go.Proofs.YtpakjdgddomdjabGreatDoor
namespace Pa
open Go.RowKit
open Tk (Rd)
open Bk (Tx)
theorem rd_slice_run {w0:World} {ao:Option Addr} {c:Nat} {l:List Tx} (h:Rd w0 (.slice ao l.length c) l) (lo hi:Nat) (h1:lo≤hi) (h2:hi≤l.length) (hl:l.length≤1000000):
  ∃v,(∀w,(Instr.slice 31 (.slice ao l.length c) (some (.int .i64 (lo:Int))) (some (.int .i64 (hi:Int))) none).run Tryz.prog w=.ok v w)∧∀w',Below w0.heap.size w0 w'→Rd w' v ((l.drop lo).take (hi-lo)):=by
 have u:=Tryz.underlying31;have hz:Tryz.prog.cellsOf 9=1:=by kernel_rfl
 obtain⟨ao',c',hv,hc,hx⟩:=h;simp only[Value.slice.injEq,true_and]at hv;obtain⟨rfl,rfl⟩:=hv;have hpl:((l.drop lo).take (hi-lo)).length=hi-lo:=by rw[List.length_take,List.length_drop];omega
 by_cases h0:l=[]
 ·have hz:l.length=0:=by rw[h0];rfl
  obtain rfl:hi=0:=by omega
  obtain rfl:lo=0:=by omega
  rw[hz];refine⟨.slice ao 0 c,fun w=>?_,fun w' _=>⟨_,_,by rw[hpl],by omega,Or.inl (List.eq_nil_of_length_eq_zero (by omega))⟩⟩;cases ao<;>go_simp
 ·rcases hx with hx |⟨b,o,rfl,hb,hcell⟩
  ·exact absurd hx h0
  by_cases hic:lo<c
  ·refine⟨.slice (some ⟨b,o+lo,none⟩) (hi-lo) (c-lo),fun w=>?_,fun w' hb'=>?_⟩
   ·have hicn:¬c≤lo:=by omega
    have hn:¬c-lo=0:=by omega
    go_simp;rw[if_pos (show hi≤c by omega),if_neg (show ¬c=lo by omega)]
   ·refine⟨_,c-lo,by rw[hpl],by omega,Or.inr ⟨b,o+lo,rfl,Nat.lt_of_lt_of_le hb hb'.size,fun q x hq=>?_⟩⟩
    have hql:q<hi-lo:=by
     have:=(List.getElem?_eq_some_iff.1 hq).1;omega
    rw[List.getElem?_take_of_lt hql,List.getElem?_drop]at hq;rw[Nat.add_assoc];exact(hb'.cell (by exact hb)).trans (hcell _ x hq)
  ·obtain rfl:lo=c:=by omega
   obtain rfl:hi=lo:=by omega
   refine⟨.slice (some ⟨b,o,none⟩) 0 0,fun w=>?_,fun w' _=>⟨some ⟨b,o,none⟩,0,by rw[hpl,Nat.sub_self],by omega,Or.inl (List.eq_nil_of_length_eq_zero (by omega))⟩⟩;go_simp
theorem rd_slice_to {w0:World} {ao:Option Addr} {c:Nat} {l:List Tx} (h:Rd w0 (.slice ao l.length c) l) (hi:Nat) (h2:hi≤l.length) (hl:l.length≤1000000):
  ∃v,(∀w,(Instr.slice 31 (.slice ao l.length c) none (some (.int .i64 (hi:Int))) none).run Tryz.prog w=.ok v w)∧∀w',Below w0.heap.size w0 w'→Rd w' v (l.take hi):=by
 have u:=Tryz.underlying31;have hz:Tryz.prog.cellsOf 9=1:=by kernel_rfl
 obtain⟨ao',c',hv,hc,hx⟩:=h;simp only[Value.slice.injEq,true_and]at hv;obtain⟨rfl,rfl⟩:=hv;have hpl:(l.take hi).length=hi:=by rw[List.length_take];omega
 by_cases h0:l=[]
 ·have hz:l.length=0:=by rw[h0];rfl
  obtain rfl:hi=0:=by omega
  rw[hz];refine⟨.slice ao 0 c,fun w=>?_,fun w' _=>⟨_,_,by rw[hpl],by omega,Or.inl rfl⟩⟩;cases ao<;>go_simp
 ·rcases hx with hx |⟨b,o,rfl,hb,hcell⟩
  ·exact absurd hx h0
  refine⟨.slice (some ⟨b,o,none⟩) hi c,fun w=>?_,fun w' hb'=>?_⟩
  ·have hhc:hi≤c:=by omega
   go_simp
  ·refine⟨_,c,by rw[hpl],by omega,Or.inr ⟨b,o,rfl,Nat.lt_of_lt_of_le hb hb'.size,fun q x hq=>?_⟩⟩
   have hql:q<hi:=by
    have:=(List.getElem?_eq_some_iff.1 hq).1;omega
   rw[List.getElem?_take_of_lt hql]at hq;exact(hb'.cell (by exact hb)).trans (hcell _ x hq)
theorem rd_slice_from {w0:World} {ao:Option Addr} {c:Nat} {l:List Tx} (h:Rd w0 (.slice ao l.length c) l) (lo:Nat) (h2:lo≤l.length) (hl:l.length≤1000000):
  ∃v,(∀w,(Instr.slice 31 (.slice ao l.length c) (some (.int .i64 (lo:Int))) none none).run Tryz.prog w=.ok v w)∧∀w',Below w0.heap.size w0 w'→Rd w' v (l.drop lo):=by
 have u:=Tryz.underlying31;have hz:Tryz.prog.cellsOf 9=1:=by kernel_rfl
 obtain⟨ao',c',hv,hc,hx⟩:=h;simp only[Value.slice.injEq,true_and]at hv;obtain⟨rfl,rfl⟩:=hv;have hpl:(l.drop lo).length=l.length-lo:=List.length_drop;by_cases h0:l=[]
 ·have hz:l.length=0:=by rw[h0];rfl
  obtain rfl:lo=0:=by omega
  rw[hz];refine⟨.slice ao 0 c,fun w=>?_,fun w' _=>⟨_,_,by rw[hpl,hz],by omega,Or.inl (List.eq_nil_of_length_eq_zero (by omega))⟩⟩;cases ao<;>go_simp
 ·rcases hx with hx |⟨b,o,rfl,hb,hcell⟩
  ·exact absurd hx h0
  by_cases hic:lo<c
  ·refine⟨.slice (some ⟨b,o+lo,none⟩) (l.length-lo) (c-lo),fun w=>?_,fun w' hb'=>?_⟩
   ·have hicn:¬c≤lo:=by omega
    have hn:¬c-lo=0:=by omega
    go_simp
    try omega
   ·refine⟨_,c-lo,by rw[hpl],by omega,Or.inr ⟨b,o+lo,rfl,Nat.lt_of_lt_of_le hb hb'.size,fun q x hq=>?_⟩⟩
    rw[List.getElem?_drop]at hq;rw[Nat.add_assoc];exact(hb'.cell (by exact hb)).trans (hcell _ x hq)
  ·obtain rfl:lo=c:=by omega
   have hll:l.length=lo:=by omega
   refine⟨.slice (some ⟨b,o,none⟩) 0 0,fun w=>?_,fun w' _=>⟨some ⟨b,o,none⟩,0,by rw[hpl,hll,Nat.sub_self],by omega,Or.inl (List.eq_nil_of_length_eq_zero (by omega))⟩⟩;rw[hll];go_simp
end Pa
namespace Pa
open Go.RowKit
open Tk (S Rd)
open Bk (Tx)
theorem appS_empty {w:World} {B:Nat} {v:Value} {n:Nat} {xs:List Value} {i0:TypeInfo} (hi:Tryz.prog.info? 9=some i0) (h:w.ownsRow B 9 1 v n xs) (ty:TypeId) (ao:Option Addr) (c:Nat):
  (Builtin.append_ #[31,31] ty #[v,.slice ao 0 c]).run Tryz.prog w=.ok v w:=by
 rcases h.2 with ⟨rfl,rfl⟩|⟨g,cap,cur,rfl,_,_,hnc,_⟩
 ·cases ao<;>simp[Builtin.append_,run_underlying Tryz.underlying31,sizeOf,typeInfo,hi,Builtin.lenOf,Builtin.firstCells,loadCells,loadCellsFrom]
 ·cases ao<;>simp[Builtin.append_,run_underlying Tryz.underlying31,sizeOf,typeInfo,hi,Builtin.lenOf,Builtin.firstCells,hnc,storeCells,loadCells,loadCellsFrom]
theorem encS_one (xs:List Tx):∀u∈xs.map encStr,u.oneCell'=true:=by
 intro u hu;obtain⟨x,_,rfl⟩:=List.mem_map.1 hu;rfl
theorem encS_cells {w:World} {b o:Nat} {xs:List Tx} (h:∀j x,xs[j]? = some x→w.cell? ⟨b,o+j,none⟩=some (.string (S x))):
  ∀j u,(xs.map encStr)[j]? = some u→w.cell? (Addr.add ⟨b,o,none⟩ j)=some u:=by
 intro j u hj;rw[List.getElem?_map]at hj;cases hx:xs[j]? with
 |none=>rw[hx]at hj;simp at hj
 |some x=>
  rw[hx]at hj;simp only[Option.map_some,Option.some.injEq]at hj;subst hj;rw[show(Addr.add ⟨b,o,none⟩ j)=⟨b,o+j,none⟩by simp[Addr.add]];exact h j x hx
theorem appS_rd {w:World} {B:Nat} {v u:Value} {os ys:List Tx} (h:w.ownsRow B 9 1 v os.length (os.map encStr)) (hu:Rd w u ys) (hB:B≤w.heap.size) (hs:os.length+ys.length≤1000000):
  ∃v' w',(∀ty,(Builtin.append_ #[31,31] ty #[v,u]).run Tryz.prog w=.ok v' w')∧w'.ownsRow B 9 1 v' (os++ys).length ((os++ys).map encStr)∧w.grownBy w' v.ownBlock:=by
 obtain⟨i0,hi,hz0,hz1,hz2⟩:=info_parts infoX;obtain⟨ao,c,rfl,hc,hx⟩:=hu;by_cases h0:ys=[]
 ·subst h0
  refine⟨v,w,fun ty=>appS_empty hi h ty ao c,by rw[List.append_nil];exact h,⟨rfl,rfl,rfl,Nat.le_refl _,fun k _ _=>rfl⟩⟩
 ·rcases hx with hx |⟨b,o,rfl,hlt,hcell⟩
  ·exact absurd hx h0
  obtain⟨v',w',h1,h2,h3,_⟩:=run_append_own (P:=Tryz.prog) w B 31 0 9 i0 (.string ⟨#[]⟩) 1 16 Tryz.underlying31 hi hz0 hz1 hz2 rfl (by decide) v os.length (os.map encStr) h ⟨b,o,none⟩ ys.length c (ys.map encStr) (by simp) (encS_cells hcell) (encS_one ys) (by unfold maxLen;omega) (by omega) hB;refine⟨v',w',fun ty=>h1,?_,h3⟩;rw[List.length_append,List.map_append];exact h2
theorem OutS.app {B:Nat} {w:World} {v u:Value} {l ys:List Tx} (h:OutS B w v l) (hu:Rd w u ys) (hs:l.length+ys.length≤1000000):
  ∃v' w',(∀ty,(Builtin.append_ #[31,31] ty #[v,u]).run Tryz.prog w=.ok v' w')∧OutS B w' v' (l++ys)∧Below B w w':=by
 have hown:=OutG.own h;rw[encX_map]at hown;obtain⟨v',w',h1,h2,h3⟩:=appS_rd hown hu (OutG.size h) hs;refine⟨v',w',h1,⟨Nat.le_trans (OutG.size h) h3.size,?_,fun _ _ _ _=>trivial⟩,(Below.refl B w).grown h3 (OutG.size h) (fun k hk=>(OutG.block h k hk).1)⟩;rw[encX_map];exact h2
end Pa
namespace Pa
open Go.RowKit
open Tk (S S_list S_size Rd)
open Bk (Tx Bk fenceL spanK itemL kindOf closes inner)
open Ln (run trim)
open Kd (E0 NumK LevK InK opN opT told11 inV blankP_any)
theorem mem_20 {xs:List Tx} (ht:tot xs≤260000) {k:Nat} (hk:k<xs.length):xs[k].length≤260000:=by
 have:=tot_mem xs xs[k] (List.getElem_mem hk);omega
theorem kdP_at {xs:List Tx} (ht:tot xs≤260000) (k:Nat) (hk:k<xs.length) (w:World):Calls Tryz.prog 27 #[.string (S xs[k])] w (NumK w (kindOf E0 xs[k])):=by
 have:=told11.of (S xs[k]) w (by rw[S_size];exact mem_20 ht hk);rwa[S_list]at this
theorem runP_any (v:Value) (xs:List Tx) (w:World) (hr:Rd w v xs) (ht:tot xs≤260000) (i k:Nat) (hi:i≤xs.length):
  Calls Tryz.prog 29 #[v,.int .i64 (i:Nat),.int .i64 (k:Nat)] w fun e w'=>e=.returned (.int .i64 (plc xs (spanK E0 k (xs.drop i)).2:Nat))∧Below w.heap.size w w':=by
 obtain⟨ao,ca,rfl⟩:=hr.len;have hlen:xs.length≤270000:=Nat.le_trans (tot_len xs) (by omega);have HRd:=Lib.hid (fun w' (h:Below w.heap.size w w')=>Bt.Rd.at (hr.below h));have HO:=Lib.hid (fun j (hj:j<xs.length) w'=>kdP_at ht j hj w');obtain⟨X,hX⟩:∃X,plc xs (spanK E0 k (xs.drop i)).2=X:=⟨_,rfl⟩;have H0:Hid (X=plc xs (spanK E0 k (xs.drop i)).2):=Lib.hid hX.symm;rw[hX];clear hX hr ht;go_enter Tryz.func29,Tryz.ntmps29;go_wp2_with fail;go_loopw [1] (fun iv wr=>∃j:Nat,j≤xs.length∧iv=.int .i64 j∧Hid (Below w.heap.size w wr)∧Hid (X=plc xs (spanK E0 k (xs.drop j)).2)) (fun iv _=>xs.length-(intOf iv).toNat)
 case atStart=>exact⟨i,hi,rfl,Lib.hid (Below.refl _ _),H0⟩
 case round=>
  clear H0 hi;obtain⟨j,hj,rfl,HB,HN⟩:=hrel;by_cases hlt:j<xs.length
  ·have hi1:(j:Int)<(xs.length:Int):=by omega
   obtain⟨b,o,rfl,c0⟩:=HRd.out wr HB.out j hlt;have HOj:=Lib.hid (HO.out j hlt wr);have hdr:xs.drop j=xs[j]::xs.drop (j+1):=List.drop_eq_getElem_cons hlt;by_cases hk:kindOf E0 xs[j]=k
   ·have HN2:Hid (X=plc xs (spanK E0 k (xs.drop (j+1))).2):=Lib.hid (by rw[HN.out,hdr,span_yes hk])
    have e1:((kindOf E0 xs[j]:Int)==(k:Int))=true:=by rw[hk];simp
    clear hdr hk HN;unfold NumK at HOj;generalize kindOf E0 xs[j]=K at *;generalize S xs[j]=sx at *;go_wp2_with fail;refine HOj.out.mono ?_;rintro e w2 ⟨rfl,b2⟩;have HB2:=Lib.hid (HB.out.trans (b2.mono HB.out.size));clear b2 HOj;go_wp2_with fail;go_roundw
    case rel=>exact⟨j+1,by omega,by go_num,HB2,HN2⟩
    case measure=>simp[intOf]<;>omega
   ·have HR:Hid (X=j):=Lib.hid (by
     rw[HN.out,hdr,span_no hk,plc];simp only[List.length_cons,List.length_drop];omega)
    have e1:((kindOf E0 xs[j]:Int)==(k:Int))=false:=by rw[beq_eq_false_iff_ne];omega
    clear hdr hk HN;unfold NumK at HOj;generalize kindOf E0 xs[j]=K at *;generalize S xs[j]=sx at *;go_wp2_with fail;refine HOj.out.mono ?_;rintro e w2 ⟨rfl,b2⟩;have HB2:=Lib.hid (HB.out.trans (b2.mono HB.out.size));clear b2 HOj;go_wp2_with fail;go_ret;exact⟨ret_i (by rw[HR.out]),HB2.out⟩
  ·obtain rfl:j=xs.length:=by omega
   have HR:Hid (X=xs.length):=Lib.hid (by rw[HN.out,List.drop_length];rfl);clear HN hlt;go_wp2_with fail;go_ret;exact⟨ret_i (by rw[HR.out]),HB.out⟩
set_option maxHeartbeats 800000 in
theorem fenceP_any (v:Value) (xs:List Tx) (w:World) (hr:Rd w v xs) (ht:tot xs≤260000) (i:Nat) (hi:i<xs.length) (hk:kindOf E0 xs[i]=4):
  Calls Tryz.prog 28 #[v,.int .i64 (i:Nat)] w fun e w'=>e=.returned (.int .i64 (plc xs (fenceL (run 96 xs[i]) (xs.drop (i+1))).2:Nat))∧Below w.heap.size w w':=by
 obtain⟨ao,ca,rfl⟩:=hr.len;have hlen:xs.length≤270000:=Nat.le_trans (tot_len xs) (by omega);have HRd:=Lib.hid (fun w' (h:Below w.heap.size w w')=>Bt.Rd.at (hr.below h));have HOp:=told11.opens (S xs[i]) w (by rw[S_size];exact mem_20 ht hi);rw[S_list,opN,if_pos hk]at HOp;have HOp:=Lib.hid HOp;unfold LevK at HOp;have hrl:run 96 xs[i]≤260000:=Nat.le_trans (Ln.run_le 96 xs[i]) (mem_20 ht hi);have HC:=Lib.hid (fun j (hj:j<xs.length) (n:Nat) (hn:n≤260000) w'=>told11.closes (S xs[j]) (n:Int) w' (by rw[S_size];exact mem_20 ht hj) (by omega) (by omega));simp only[S_list,cl_nat]at HC;generalize opT xs[i]=ot at *;generalize run 96 xs[i]=n at *;obtain⟨X,hX⟩:∃X,plc xs (fenceL n (xs.drop (i+1))).2=X:=⟨_,rfl⟩;have H0:Hid (X=plc xs (fenceL n (xs.drop (i+1))).2):=Lib.hid hX.symm;rw[hX];obtain⟨b0,o0,rfl,c0⟩:=HRd.out w (Below.refl _ _) i hi;have hii:(i:Int)<(xs.length:Int):=by omega
 generalize S xs[i]=si at *;generalize S ot=sot at *;clear hX hr ht hk;have hw1:IntKind.i64.wrap ((i:Int)+1)=((i+1:Nat):Int):=by rw[IntKind.wrap_i64];omega
 obtain⟨i1,hi1⟩:∃q,q=i+1:=⟨_,rfl⟩;rw[←hi1]at hw1 H0;have Hi1:=Lib.hid hi1;have hi2:i1≤xs.length:=by omega
 clear hi1 hi;go_enter Tryz.func28,Tryz.ntmps28;go_wp2_with fail;refine HOp.out.mono ?_;rintro e w2 ⟨rfl,b2⟩;have HB2:=Lib.hid b2;clear b2 HOp;go_wp2_with fail;go_loopw [7] (fun iv wr=>∃j:Nat,j≤xs.length∧iv=.int .i64 j∧Hid (Below w.heap.size w wr)∧Hid (X=plc xs (fenceL n (xs.drop j)).2)) (fun iv _=>xs.length-(intOf iv).toNat)
 case atStart=>exact⟨i1,hi2,rfl,HB2,H0⟩
 case round=>
  clear H0 HB2 hw1 c0;obtain⟨j,hj,rfl,HB,HN⟩:=hrel;by_cases hlt:j<xs.length
  ·have hji:(j:Int)<(xs.length:Int):=by omega
   obtain⟨b,of,hbo,c0⟩:=HRd.out wr HB.out j hlt;simp only[Option.some.injEq,Addr.mk.injEq,and_true]at hbo;obtain⟨rfl,rfl⟩:=hbo;have HCj:=Lib.hid (HC.out j hlt n hrl wr);have hdr:xs.drop j=xs[j]::xs.drop (j+1):=List.drop_eq_getElem_cons hlt;unfold Sp.OkAns at HCj;cases hc:closes xs[j] n with
   |true=>
    have HP:Hid (X=j+1):=Lib.hid (by rw[HN.out,hdr,fence_yes hc,plc,List.length_drop];omega);rw[hc]at HCj;have hw2:IntKind.i64.wrap ((j:Int)+1)=((j+1:Nat):Int):=by rw[IntKind.wrap_i64];omega
    obtain⟨j1,hj1⟩:∃q,q=j+1:=⟨_,rfl⟩;rw[←hj1]at hw2 HP;clear hdr hc HN hj1;generalize S xs[j]=sx at *;go_wp2_with fail;refine HCj.out.mono ?_;rintro e w3 ⟨rfl,b3⟩;have HB3:=Lib.hid (HB.out.trans (b3.mono HB.out.size));clear b3 HCj;go_wp2_with fail;go_ret;exact⟨ret_i (by rw[HP.out]),HB3.out⟩
   |false=>
    have HN2:Hid (X=plc xs (fenceL n (xs.drop (j+1))).2):=Lib.hid (by rw[HN.out,hdr,fence_no hc]);rw[hc]at HCj;clear hdr hc HN;generalize S xs[j]=sx at *;go_wp2_with fail;refine HCj.out.mono ?_;rintro e w3 ⟨rfl,b3⟩;have HB3:=Lib.hid (HB.out.trans (b3.mono HB.out.size));clear b3 HCj;go_wp2_with fail;go_roundw
    case rel=>exact⟨j+1,by omega,by go_num,HB3,HN2⟩
    case measure=>simp[intOf]<;>omega
  ·obtain rfl:j=xs.length:=by omega
   have HP:Hid (X=xs.length):=Lib.hid (by rw[HN.out,List.drop_length];rfl);clear HN hlt;go_wp2_with fail;go_ret;exact⟨ret_i (by rw[HP.out]),HB.out⟩
theorem inner_blank {s x:Tx} (h:inner s=some x):trim x=[]↔kindOf E0 s=1:=by
 rw[Bk.kind_one];unfold inner at h;split at h
 ·rename_i hs
  injection h with h;subst h
  have:s=32::32::s.drop 2:=by
   match s,hs with
   |a::b::r,hs=>simp at hs;obtain⟨rfl,rfl⟩:=hs;rfl
   |[a],hs=>simp at hs
   |[],hs=>simp at hs
  rw[this,Bk.trim_sp,Bk.trim_sp];rfl
 ·split at h
  ·rename_i ht
   injection h with h;subst h;rw[ht];exact⟨fun _=>rfl,fun _=>rfl⟩
  ·cases h
set_option maxHeartbeats 800000 in
theorem itemP_any (v:Value) (xs:List Tx) (w:World) (hr:Rd w v xs) (ht:tot xs≤260000) (i:Nat) (hi:i<xs.length):
  Calls Tryz.prog 83 #[v,.int .i64 (i:Nat)] w fun e w'=>e=.returned (.int .i64 (plc xs (itemL E0 (xs.drop (i+1))).2:Nat))∧Below w.heap.size w w':=by
 obtain⟨ao,ca,rfl⟩:=hr.len;have hlen:xs.length≤270000:=Nat.le_trans (tot_len xs) (by omega);have HRd:=Lib.hid (fun w' (h:Below w.heap.size w w')=>Bt.Rd.at (hr.below h));have HC:=Lib.hid (fun j (hj:j<xs.length) w'=>told11.inner (S xs[j]) w' (by rw[S_size];exact mem_20 ht hj));simp only[S_list]at HC;have HBl:=Lib.hid (fun(x:Tx) (hx:x.length≤260000) w'=>blankP_any (S x) (by rw[S_size];omega) w');simp only[S_list]at HBl;obtain⟨X,hX⟩:∃X,plc xs (itemL E0 (xs.drop (i+1))).2=X:=⟨_,rfl⟩;have H0:Hid (X=endL xs (i+1) (xs.drop (i+1))):=Lib.hid (by rw[end_start xs (i+1) (by omega),hX]);rw[hX];have HSz:=Lib.hid (fun j (hj:j<xs.length) x (hx:inner xs[j]=some x)=>Nat.le_trans (inner_len hx) (mem_20 ht hj));clear hX hr ht;have hw1:IntKind.i64.wrap ((i:Int)+1)=((i+1:Nat):Int):=by rw[IntKind.wrap_i64];omega
 obtain⟨i1,hi1⟩:∃q,q=i+1:=⟨_,rfl⟩;rw[←hi1]at hw1 H0;have hi2:i1≤xs.length:=by omega
 clear hi1 hi;go_enter Tryz.func83,Tryz.ntmps83;go_wp2_with fail;go_loopw [5,6] (fun bv iv wr=>∃(e j:Nat),j≤xs.length∧bv=.int .i64 e∧iv=.int .i64 j∧Hid (Below w.heap.size w wr)∧Hid (X=endL xs e (xs.drop j))) (fun _ iv _=>xs.length-(intOf iv).toNat)
 case atStart=>exact⟨i1,i1,hi2,rfl,rfl,Lib.hid (Below.refl _ _),H0⟩
 case round=>
  clear H0 hw1;obtain⟨en,j,hj,rfl,rfl,HB,HN⟩:=hrel;by_cases hlt:j<xs.length
  ·have hji:(j:Int)<(xs.length:Int):=by omega
   obtain⟨b,of,rfl,c0⟩:=HRd.out wr HB.out j hlt;have HCj:=Lib.hid (HC.out j hlt wr);have hdr:xs.drop j=xs[j]::xs.drop (j+1):=List.drop_eq_getElem_cons hlt;unfold InK at HCj;cases hc:inner xs[j]with
   |none=>
    have hst:xs.drop j=[]∨∃s l,xs.drop j=s::l∧inner s=none:=Or.inr ⟨_,_,hdr,hc⟩;have HP:Hid (X=en):=Lib.hid (by rw[HN.out,end_stop hst]);rw[hc]at HCj;have hinv:inV none=.tuple #[.string ⟨#[]⟩,.bool false]:=rfl;rw[hinv]at HCj;clear hdr hc HN hst hinv;generalize S xs[j]=sx at *;go_wp2_with fail;refine HCj.out.mono ?_;rintro e w3 ⟨rfl,b3⟩;have HB3:=Lib.hid (HB.out.trans (b3.mono HB.out.size));clear b3 HCj;go_wp2_with fail;go_ret;exact⟨ret_i (by rw[HP.out]),HB3.out⟩
   |some x=>
    have HBx:=Lib.hid (fun w'=>HBl.out x (HSz.out j hlt x hc) w');rw[hc]at HCj;have hinv:inV (some x)= .tuple #[.string (S x),.bool true]:=rfl;rw[hinv]at HCj;by_cases hb1:kindOf E0 xs[j]=1
    ·have HN2:Hid (X=endL xs en (xs.drop (j+1))):=Lib.hid (by rw[HN.out,hdr,end_blank hc hb1])
     have htr:decide (trim x=[])=true:=decide_eq_true ((inner_blank hc).2 hb1);rw[htr]at HBx;clear hdr hc HN hb1 htr hinv;generalize S xs[j]=sx at *;generalize S x=sxx at *;go_wp2_with fail;refine HCj.out.mono ?_;rintro e w3 ⟨rfl,b3⟩;have HB3:=Lib.hid (HB.out.trans (b3.mono HB.out.size));clear b3 HCj;go_wp2_with fail;refine(HBx.out _).mono ?_;rintro e w4 ⟨rfl,b4⟩;have HB4:=Lib.hid (HB3.out.trans (b4.mono HB3.out.size));clear b4 HBx;go_wp2_with fail;go_roundw
     case rel=>exact⟨en,j+1,by omega,rfl,by go_num,HB4,HN2⟩
     case measure=>simp[intOf]<;>omega
    ·have HN2:Hid (X=endL xs (j+1) (xs.drop (j+1))):=Lib.hid (by rw[HN.out,hdr,end_more hc hb1 hlt])
     have htr:decide (trim x=[])=false:=decide_eq_false (fun h=>hb1 ((inner_blank hc).1 h));rw[htr]at HBx;clear hdr hc HN hb1 htr hinv;generalize S xs[j]=sx at *;generalize S x=sxx at *;go_wp2_with fail;refine HCj.out.mono ?_;rintro e w3 ⟨rfl,b3⟩;have HB3:=Lib.hid (HB.out.trans (b3.mono HB.out.size));clear b3 HCj;go_wp2_with fail;refine(HBx.out _).mono ?_;rintro e w4 ⟨rfl,b4⟩;have HB4:=Lib.hid (HB3.out.trans (b4.mono HB3.out.size));clear b4 HBx;go_wp2_with fail;go_roundw
     case rel=>exact⟨j+1,j+1,by omega,by go_num,by go_num,HB4,HN2⟩
     case measure=>simp[intOf]<;>omega
  ·obtain rfl:j=xs.length:=by omega
   have hst:xs.drop xs.length=[]∨∃s l,xs.drop xs.length=s::l∧inner s=none:=Or.inl List.drop_length;have HP:Hid (X=en):=Lib.hid (by rw[HN.out,end_stop hst]);clear HN hlt hst;go_wp2_with fail;go_ret;exact⟨ret_i (by rw[HP.out]),HB.out⟩
end Pa
namespace Pa
open Go.RowKit
open Tk (S S_list S_size Rd)
open Cm (Keep own_keep)
open Bk (Tx unquote unitem inner)
open Kd (StrK InK uqT uiT told11 inV)
def FillS (w0:World) (L:Nat) (os:List Tx) (wr:World):Prop:=
 ∃rest:List Value,os.length+rest.length=L∧wr.ownsRow w0.heap.size 9 1 (.slice (some ⟨w0.heap.size,0,none⟩) L L) L (os.map encStr++rest)∧Below w0.heap.size w0 wr
theorem FillS.start {w0 wr:World} {L:Nat} {xs:List Value} (h:wr.ownsRow w0.heap.size 9 1 (.slice (some ⟨w0.heap.size,0,none⟩) L L) L xs) (hg:w0.grownBy wr none):FillS w0 L [] wr:=
 ⟨xs,by have:xs.length=L*1:=h.1;simp;omega,h,(Below.refl _ _).grown hg (Nat.le_refl _) (fun k h=>by cases h)⟩
theorem FillS.put {w0 wr:World} {L:Nat} {os:List Tx} (h:FillS w0 L os wr) (hk:os.length<L) (x:Tx):FillS w0 L (os++[x]) (wr.setCell ⟨w0.heap.size,os.length,none⟩ (.string (S x))):=by
 obtain⟨rest,hl,h1,h2⟩:=h;cases rest with
 |nil=>simp at hl;omega
 |cons r rest=>
  have h3:=(h1.stored os.length (.string (S x))).1;refine⟨rest,by rw[List.length_append];simp only[List.length_cons,List.length_nil]at hl ⊢;omega,?_,h2.setCell (Nat.le_refl _) _⟩
  have e:(os.map encStr++r::rest).set os.length (.string (S x))=(os++[x]).map encStr++rest:=by
   rw[List.set_append_right _ _ (by rw[List.length_map];exact Nat.le_refl _),List.length_map,Nat.sub_self,List.set_cons_zero,List.map_append,List.append_assoc];rfl
  rwa[e]at h3
theorem FillS.go {w0 wr w':World} {L:Nat} {os:List Tx} (h:FillS w0 L os wr) (hb:Below wr.heap.size wr w'):FillS w0 L os w':=by
 obtain⟨rest,hl,h1,h2⟩:=h;exact⟨rest,hl,own_keep h1 (S:=fun _=>False) (Keep.of_below hb) (fun _ _=>id),h2.trans (hb.mono h2.size)⟩
theorem FillS.cell {w0 wr:World} {L:Nat} {os:List Tx} {j:Nat} (h:FillS w0 L os wr) (hj:j<L):(∃v,wr.cell? ⟨w0.heap.size,j,none⟩=some v)∧wr.frozen? ⟨w0.heap.size,j,none⟩=false:=by
 obtain⟨rest,hl,h1,h2⟩:=h;have hl':(os.map encStr++rest).length=L*1:=h1.1;exact⟨⟨_,(h1.cellAt j (by omega)).trans (List.getElem?_eq_getElem (by omega))⟩,h1.frozenAt j⟩
theorem FillS.bel {w0 wr:World} {L:Nat} {os:List Tx} (h:FillS w0 L os wr):Below w0.heap.size w0 wr:=by
 obtain⟨rest,hl,h1,h2⟩:=h;exact h2
theorem FillS.out {w0 wr:World} {L:Nat} {os:List Tx} (h:FillS w0 L os wr) (hL:os.length=L):OutS w0.heap.size wr (.slice (some ⟨w0.heap.size,0,none⟩) L L) os:=by
 obtain⟨rest,hl,h1,h2⟩:=h;have hr:rest=[]:=List.eq_nil_of_length_eq_zero (by omega);subst hr;subst hL;rw[List.append_nil]at h1;exact⟨h2.size,by rw[encX_map];exact h1,fun _ _ _ _=>trivial⟩
theorem take_next {α:Type} {l:List α} {k:Nat} (h:k<l.length):l.take (k+1)=l.take k++[l[k]]:=List.take_succ_eq_append_getElem h
def RowAns (w:World) (l:List Tx) (e:Ending) (w':World):Prop:=∃u,e=.returned u∧OutS w.heap.size w' u l∧Below w.heap.size w w'
set_option maxHeartbeats 800000 in
theorem quotedP_any (v:Value) (xs:List Tx) (w:World) (hr:Rd w v xs) (ht:tot xs≤260000):
  Calls Tryz.prog 94 #[v] w (RowAns w (xs.map uqT)):=by
 obtain⟨i0,hi,hz0,hz1,hz2⟩:=info_parts infoX;obtain⟨ao,ca,rfl⟩:=hr.len;have hlen:xs.length≤270000:=Nat.le_trans (tot_len xs) (by omega);have HRd:=Lib.hid (fun w' (h:Below w.heap.size w w')=>Bt.Rd.at (hr.below h));have HU:=Lib.hid (fun j (hj:j<xs.length) w'=>told11.unquote (S xs[j]) w' (by rw[S_size];exact mem_20 ht hj));simp only[S_list]at HU;unfold StrK at HU;have hm:xs.length≤maxLen:=by unfold maxLen;omega
 clear hr ht;go_enter Tryz.func94,Tryz.ntmps94;go_wp2_with (at_make;refine wpList_make_full _ rfl _ _ 31 rfl w.heap.size 9 i0 (.string ⟨#[]⟩) 1 Tryz.underlying31 hi hz0 hz1 _ _ _ _ xs.length rfl rfl rfl rfl (by rw[hz2];omega) hm (Nat.le_refl _) ?_);intro W2 hown hgrow;have HF:Hid (FillS w xs.length ((xs.map uqT).take 0) W2):=Lib.hid (by rw[List.take_zero];exact FillS.start hown hgrow);clear hown hgrow hi hz0 hz1 hz2;go_wp2_with fail;go_loopw [11] (fun iv wr=>∃j:Nat,j≤xs.length∧iv=.int .i64 j∧Hid (FillS w xs.length ((xs.map uqT).take j) wr)) (fun iv _=>xs.length-(intOf iv).toNat)
 case atStart=>exact⟨0,Nat.zero_le _,rfl,HF⟩
 case round=>
  clear HF;obtain⟨j,hj,rfl,HF⟩:=hrel;have HB:=Lib.hid HF.out.bel;by_cases hlt:j<xs.length
  ·have hji:(j:Int)<(xs.length:Int):=by omega
   obtain⟨b,of,hbo,c0⟩:=HRd.out wr HB.out j hlt;subst hbo;have HUj:=Lib.hid (HU.out j hlt wr);have htl:((xs.map uqT).take j).length=j:=by rw[List.length_take,List.length_map];omega
   have HN:Hid (∀w',FillS w xs.length ((xs.map uqT).take j) w'→FillS w xs.length ((xs.map uqT).take (j+1)) (w'.setCell ⟨w.heap.size,j,none⟩ (.string (S (uqT xs[j]))))):=Lib.hid (fun w' h=>by
    have h2:=h.put (by omega) (uqT xs[j]);rw[htl]at h2;rw[take_next (by rw[List.length_map];exact hlt),List.getElem_map];exact h2)
   clear htl;generalize S xs[j]=sx at *;generalize S (uqT xs[j])=su at *;go_wp2_with fail;refine HUj.out.mono ?_;rintro e w2 ⟨rfl,b2⟩;have HF2:=Lib.hid (HF.out.go b2);have HF3:=Lib.hid (HN.out w2 HF2.out);obtain⟨⟨v1,hc1⟩,hf1⟩:=HF2.out.cell hlt;clear b2 HUj HN;go_wp2_with fail;go_roundw
   case rel=>exact⟨j+1,by omega,by go_num,HF3⟩
   case measure=>simp[intOf]<;>omega
  ·obtain rfl:j=xs.length:=by omega
   have HO:Hid (OutS w.heap.size wr (.slice (some ⟨w.heap.size,0,none⟩) xs.length xs.length) (xs.map uqT)):=Lib.hid (by
    have h:=HF.out.out (by rw[List.length_take,List.length_map];omega);rwa[List.take_of_length_le (by rw[List.length_map];exact Nat.le_refl _)]at h)
   clear HF hlt;go_wp2_with fail;go_ret;exact⟨_,rfl,HO.out,HB.out⟩
def izP:List Tx→List Tx
 |[]=>[]
 |s::u=>uiT s::u.map (fun x=>(inner x).getD [])
set_option maxHeartbeats 1600000 in
theorem itemizedP_any (v:Value) (xs:List Tx) (w:World) (hr:Rd w v xs) (ht:tot xs≤260000) (h0:0<xs.length):
  Calls Tryz.prog 130 #[v] w (RowAns w (izP xs)):=by
 obtain⟨i0,hi,hz0,hz1,hz2⟩:=info_parts infoX;obtain⟨ao,ca,rfl⟩:=hr.len;have hlen:xs.length≤270000:=Nat.le_trans (tot_len xs) (by omega);have HRd:=Lib.hid (fun w' (h:Below w.heap.size w w')=>Bt.Rd.at (hr.below h));have HU:=Lib.hid (fun w'=>told11.unitem (S xs[0]) w' (by rw[S_size];exact mem_20 ht h0));have HC:=Lib.hid (fun j (hj:j<xs.length) w'=>told11.inner (S xs[j]) w' (by rw[S_size];exact mem_20 ht hj));simp only[S_list]at HU HC;unfold StrK at HU;unfold InK at HC;have hm:xs.length≤maxLen:=by unfold maxLen;omega
 have hL:(izP xs).length=xs.length:=by
  cases xs with
  |nil=>rfl
  |cons s u=>simp[izP]
 have HI0:Hid ((izP xs).take 1=[uiT xs[0]]):=Lib.hid (by
  cases xs with
  |nil=>simp at h0
  |cons s u=>simp[izP])
 have HIj:Hid (∀j (hj:j<xs.length),1≤j→(izP xs)[j]'(by rw[hL];exact hj)=(inner xs[j]).getD []):=Lib.hid (fun j hj h1=>by
  cases xs with
  |nil=>simp at h0
  |cons s u=>
   obtain⟨k,rfl⟩:∃k,j=k+1:=⟨j-1,by omega⟩;simp[izP])
 generalize izP xs=L at *;have hni:(0:Int)<(xs.length:Int):=by omega
 clear hr ht;go_enter Tryz.func130,Tryz.ntmps130;go_wp2_with (at_make;refine wpList_make_full _ rfl _ _ 31 rfl w.heap.size 9 i0 (.string ⟨#[]⟩) 1 Tryz.underlying31 hi hz0 hz1 _ _ _ _ xs.length rfl rfl rfl rfl (by rw[hz2];omega) hm (Nat.le_refl _) ?_);intro W2 hown hgrow;have HF:Hid (FillS w xs.length [] W2):=Lib.hid (FillS.start hown hgrow);have HB0:=Lib.hid HF.out.bel;obtain⟨b,of,hbo,c0⟩:=HRd.out W2 HB0.out 0 h0;subst hbo;rw[Nat.add_zero]at c0;clear hown hgrow hi hz0 hz1 hz2
 have HN0:Hid (∀w',FillS w xs.length [] w'→FillS w xs.length (L.take 1) (w'.setCell ⟨w.heap.size,0,none⟩ (.string (S (uiT xs[0]))))):=Lib.hid (fun w' h=>by
  rw[HI0.out];exact h.put (by simp;omega) (uiT xs[0]))
 clear HI0;generalize S xs[0]=s0 at *;generalize S (uiT xs[0])=su at *;go_wp2_with fail;refine(HU.out _).mono ?_;rintro e w2 ⟨rfl,b2⟩;have HF2:=Lib.hid (HF.out.go b2);have HF3:=Lib.hid (HN0.out w2 HF2.out);obtain⟨⟨v1,hc1⟩,hf1⟩:=HF2.out.cell h0;clear b2 HU HN0 HF HF2 c0;go_wp2_with fail;go_loopw [4] (fun iv wr=>∃j:Nat,1≤j∧j≤xs.length∧iv=.int .i64 j∧Hid (FillS w xs.length (L.take j) wr)) (fun iv _=>xs.length-(intOf iv).toNat)
 case atStart=>exact⟨1,Nat.le_refl _,by omega,rfl,HF3⟩
 case round=>
  clear HF3 hc1 hf1;obtain⟨j,h1,hj,rfl,HF⟩:=hrel;have HB:=Lib.hid HF.out.bel;by_cases hlt:j<xs.length
  ·have hji:(j:Int)<(xs.length:Int):=by omega
   obtain⟨b',of',hbo,c1⟩:=HRd.out wr HB.out j hlt;simp only[Option.some.injEq,Addr.mk.injEq,and_true]at hbo;obtain⟨rfl,rfl⟩:=hbo;have HCj:=Lib.hid (HC.out j hlt wr);have htl:(L.take j).length=j:=by rw[List.length_take];omega
   have HN:Hid (∀w',FillS w xs.length (L.take j) w'→FillS w xs.length (L.take (j+1)) (w'.setCell ⟨w.heap.size,j,none⟩ (.string (S ((inner xs[j]).getD []))))):=Lib.hid (fun w' h=>by
    have h2:=h.put (by omega) ((inner xs[j]).getD []);rw[htl]at h2;rw[take_next (by omega),HIj.out j hlt h1];exact h2)
   unfold inV at HCj;clear htl;generalize S xs[j]=sx at *;generalize S ((inner xs[j]).getD [])=si at *;generalize (inner xs[j]).isSome=ib at *;go_wp2_with fail;refine HCj.out.mono ?_;rintro e w4 ⟨rfl,b4⟩;have HF4:=Lib.hid (HF.out.go b4);have HF5:=Lib.hid (HN.out w4 HF4.out);obtain⟨⟨v4,hc4⟩,hf4⟩:=HF4.out.cell hlt;clear b4 HCj HN;go_wp2_with fail;go_roundw
   case rel=>exact⟨j+1,by omega,by omega,by go_num,HF5⟩
   case measure=>simp[intOf]<;>omega
  ·obtain rfl:j=xs.length:=by omega
   have HO:Hid (OutS w.heap.size wr (.slice (some ⟨w.heap.size,0,none⟩) xs.length xs.length) L):=Lib.hid (by
    have h:=HF.out.out (by rw[List.length_take];omega);rwa[List.take_of_length_le (by omega)]at h)
   clear HF hlt;go_wp2_with fail;go_ret;exact⟨_,rfl,HO.out,HB.out⟩
end Pa
namespace Pa
open Go.RowKit
open Tk (S Rd)
open Cm (Keep)
open Bk (Tx itemL kindOf)
open Kd (E0 NumK)
def SprF (w:World) (l:List (Nat × Nat)) (e:Ending) (w':World):Prop:=∃u,e=.returned u∧(OutP w.heap.size w' u l∧l.length≤1000000)∧Below w.heap.size w w'
theorem SprF.rd {w w':World} {u:Value} {l:List (Nat × Nat)} (h:OutP w.heap.size w' u l∧l.length≤1000000):RdP w' u l:=⟨OutG.rk h.1 (fun _=>rfl),h.2⟩
set_option maxHeartbeats 1600000 in
theorem itemsP_any (v:Value) (xs:List Tx) (w:World) (hr:Rd w v xs) (ht:tot xs≤260000) (i:Nat) (hi:i≤xs.length):
  Calls Tryz.prog 51 #[v,.int .i64 (i:Nat)] w (SprF w (itB xs i)):=by
 obtain⟨ao,ca,rfl⟩:=hr.len;have hlen:xs.length≤270000:=Nat.le_trans (tot_len xs) (by omega);have HRd:=Lib.hid (fun w' (h:Below w.heap.size w w')=>Bt.Rd.at (hr.below h));have HO1:=Lib.hid (fun j (hj:j<xs.length) w'=>kdP_at ht j hj w');have HIt:=Lib.hid (fun w' (hb:Below w.heap.size w w') j (hj:j<xs.length)=>itemP_any _ xs w' (hr.below hb) ht j hj);obtain⟨X,hX⟩:∃X,itB xs i=X:=⟨_,rfl⟩;have H0:Hid (X=([]:List (Nat × Nat))++itp xs (xs.length+1) i):=Lib.hid (by rw[List.nil_append,←hX];rfl);rw[hX];clear hX hr ht;go_enter Tryz.func51,Tryz.ntmps51;go_wp2_with fail;go_step3;go_wp2_with fail;go_step3;go_wp2_with fail;go_loopw [1,5] (fun iv vo wr=>∃(j f:Nat) (qs:List (Nat × Nat)),j≤xs.length∧xs.length+1≤f+j∧qs.length≤j∧iv=.int .i64 j∧Hid (OutP w.heap.size wr vo qs)∧Hid (Below w.heap.size w wr)∧Hid (X=qs++itp xs f j)) (fun iv _ _=>xs.length-(intOf iv).toNat)
 case atStart=>exact⟨i,xs.length+1,[],hi,by omega,Nat.zero_le _,rfl,Lib.hid (OutG.nil (Nat.le_refl _)),Lib.hid (Below.refl _ _),H0⟩
 case round=>
  clear H0 hi;obtain⟨j,f,qs,hj,hf,hqs,rfl,HO,HB,HN⟩:=hrel;by_cases hlt:j<xs.length
  ·obtain⟨g,rfl⟩:∃g,f=g+1:=⟨f-1,by omega⟩
   have hji:(j:Int)<(xs.length:Int):=by omega
   obtain⟨b,of,hbo,c0⟩:=HRd.out wr HB.out j hlt;subst hbo;have HOj:=Lib.hid (HO1.out j hlt wr);have hdr:xs.drop j=xs[j]::xs.drop (j+1):=List.drop_eq_getElem_cons hlt;unfold NumK at HOj;by_cases hk:kindOf E0 xs[j]=1
   ·have e1:((kindOf E0 xs[j]:Int)==1)=true:=by rw[hk];rfl
    have HN2:Hid (X=qs++itp xs g (j+1)):=Lib.hid (by rw[HN.out,itp_blank hdr hk]);clear HN hk hdr HIt;generalize kindOf E0 xs[j]=K at *;generalize S xs[j]=sx at *;go_wp2_with fail;refine HOj.out.mono ?_;rintro e w2 ⟨rfl,b2⟩;have HB2:=Lib.hid (HB.out.trans (b2.mono HB.out.size));have HO2:Hid (OutP w.heap.size w2 _ qs):=Lib.hid (OutG.go HO.out (Keep.of_below b2));clear b2 HOj;go_wp2_with fail;go_roundw
    case rel=>exact⟨j+1,g,qs,by omega,by omega,by omega,by go_num,HO2,HB2,HN2⟩
    case measure=>simp[intOf]<;>omega
   ·have e1:((kindOf E0 xs[j]:Int)==1)=false:=by rw[beq_eq_false_iff_ne];omega
    by_cases hk6:kindOf E0 xs[j]=6
    ·have e6:((kindOf E0 xs[j]:Int)==6)=true:=by rw[hk6];rfl
     have HIj:=Lib.hid (fun w' hb=>HIt.out w' hb j hlt);have hsuf:(itemL E0 (xs.drop (j+1))).2 <:+ xs.drop (j+1):=item_suf E0 _;have hpg:=plc_ge hsuf (by omega);have hpl:=plc_le xs (itemL E0 (xs.drop (j+1))).2;have HN2:=Lib.hid (HN.out.trans (by rw[itp_item hdr hk6]));clear HN hk hdr HIt hsuf hk6;obtain⟨nx,hnx⟩:∃n,plc xs (itemL E0 (xs.drop (j+1))).2=n:=⟨_,rfl⟩;simp only[hnx]at HIj;rw[hnx]at hpg hpl;have HN3:Hid (X=qs++(j,nx)::itp xs g nx):=Lib.hid (by rw[HN2.out,hnx]);clear hnx HN2;generalize kindOf E0 xs[j]=K at *;generalize S xs[j]=sx at *;go_wp2_with fail;refine HOj.out.mono ?_;rintro e w2 ⟨rfl,b2⟩;have HB2:=Lib.hid (HB.out.trans (b2.mono HB.out.size));have HO2:Hid (OutP w.heap.size w2 _ qs):=Lib.hid (OutG.go HO.out (Keep.of_below b2));clear b2 HOj;go_wp2_with fail;refine(HIj.out w2 HB2.out).mono ?_;rintro e w3 ⟨rfl,b3⟩;have HB3:=Lib.hid (HB2.out.trans (b3.mono HB2.out.size));have HO3:Hid (OutP w.heap.size w3 _ qs):=Lib.hid (OutG.go HO2.out (Keep.of_below b3));clear b3 HIj;obtain⟨v5,w5,hr5,ho5,hk5⟩:=OutP.push HO3.out (j,nx) (by omega);have HO5:=Lib.hid ho5;have HB5:=Lib.hid (HB3.out.trans (OutG.below HO3.out hk5));have HN5:Hid (X=(qs++[(j,nx)])++itp xs g nx):=Lib.hid (by rw[HN3.out,List.append_assoc];rfl);have Hq5:Hid ((qs++[(j,nx)]).length≤nx):=Lib.hid (by rw[List.length_append];simp;omega);clear HN3 ho5 hk5;go_wp2_with (at_builtin;refine Lib.wpList_append_run _ rfl _ _ _ _ rfl _ _ rfl rfl _ _ (hr5 _) ?_);go_roundw
     case rel=>exact⟨nx,g,_,by omega,by omega,Hq5.out,rfl,HO5,HB5,HN5⟩
     case measure=>simp[intOf]<;>omega
    ·have e6:((kindOf E0 xs[j]:Int)==6)=false:=by rw[beq_eq_false_iff_ne];omega
     have HR:Hid (X=qs):=Lib.hid (by rw[HN.out,itp_stop hdr hk hk6,List.append_nil]);clear HN hk hdr HIt hk6;generalize kindOf E0 xs[j]=K at *;generalize S xs[j]=sx at *;go_wp2_with fail;refine HOj.out.mono ?_;rintro e w2 ⟨rfl,b2⟩;have HB2:=Lib.hid (HB.out.trans (b2.mono HB.out.size));have HO2:Hid (OutP w.heap.size w2 _ qs):=Lib.hid (OutG.go HO.out (Keep.of_below b2));clear b2 HOj;go_wp2_with fail;go_ret;exact⟨_,rfl,by rw[HR.out];exact⟨HO2.out,by omega⟩,HB2.out⟩
  ·obtain rfl:j=xs.length:=by omega
   have HR:Hid (X=qs):=Lib.hid (by rw[HN.out,itp_end,List.append_nil]);clear HN hlt;go_wp2_with fail;go_ret;exact⟨_,rfl,by rw[HR.out];exact⟨HO.out,by omega⟩,HB.out⟩
theorem RdP.at {w:World} {v:Value} {l:List (Nat × Nat)} (h:RdP w v l):∀k (hk:k<l.length),∃b o ao cap,v=.slice ao l.length cap∧ao=some ⟨b,o,none⟩∧w.cell? ⟨b,o+k*2,none⟩=some (.int .i64 (l[k].1:Nat))∧w.cell? ⟨b,o+k*2+1,none⟩=some (.int .i64 (l[k].2:Nat)):=by
 obtain⟨⟨ao,cap,rfl,hc,hx⟩,_⟩:=h;intro k hk;rcases hx with hx |⟨b,o,rfl,hlt,hcell⟩
 ·rw[hx]at hk;simp at hk
 have h0:=hcell k l[k] (List.getElem?_eq_getElem hk) 0 _ rfl;have h1:=hcell k l[k] (List.getElem?_eq_getElem hk) 1 _ rfl;exact⟨b,o,_,cap,rfl,rfl,h0,h1⟩
set_option maxHeartbeats 800000 in
theorem listP_any (v:Value) (xs:List Tx) (w:World) (hr:Rd w v xs) (ht:tot xs≤260000) (i:Nat) (hi:i<xs.length) (hk:kindOf E0 xs[i]=6):
  Calls Tryz.prog 30 #[v,.int .i64 (i:Nat)] w fun e w'=>e=.returned (.int .i64 (plc xs (lst (xs.drop i)).2:Nat))∧Below w.heap.size w w':=by
 obtain⟨ao,ca,rfl⟩:=hr.len;have HI:=Lib.hid (itemsP_any _ xs w hr ht i (by omega));obtain⟨_,p,hp,hp2⟩:=itB_list hi hk;rw[←hp2];unfold SprF at HI;generalize itB xs i=l at *;clear hr ht hk hp2;go_enter Tryz.func30,Tryz.ntmps30;go_wp2_with fail;refine HI.out.mono ?_;rintro e w2 ⟨u,rfl,hr2',b2⟩;have hr2:=SprF.rd hr2';have HB2:=Lib.hid b2
 have h0:0<l.length:=by
  cases l with
  |nil=>cases hp
  |cons _ _=>simp
 have hl:=hr2.2;obtain⟨n1,hn1⟩:∃q,q=l.length-1:=⟨_,rfl⟩;have hn1l:n1<l.length:=by omega
 have hpe:l[n1]=p:=by
  rw[List.getLast?_eq_getElem?,←hn1,List.getElem?_eq_getElem hn1l]at hp;injection hp
 obtain⟨b,o,ao2,cap,rfl,rfl,c0,c1⟩:=hr2.at n1 hn1l;rw[hpe]at c1;have wl:IntKind.i64.wrap ((l.length:Int)-1)=(n1:Int):=by rw[IntKind.wrap_i64];omega
 have hn1i:(n1:Int)<(l.length:Int):=by omega
 clear hr2 hr2' b2 hp hpe HI hn1 c0;go_wp2_with fail;go_ret;exact⟨rfl,HB2.out⟩
def nxt (xs:List Tx) (j:Nat):Nat:=match xs.drop j with |[]=>xs.length |s::l=>plc xs (restB s l)
theorem nxt_eq {xs:List Tx} {j:Nat} (h:j<xs.length):nxt xs j=plc xs (restB xs[j] (xs.drop (j+1))):=by
 unfold nxt;rw[List.drop_eq_getElem_cons h]
set_option maxHeartbeats 3200000 in
theorem spreadP_any (v:Value) (xs:List Tx) (w:World) (hr:Rd w v xs) (ht:tot xs≤260000):
  Calls Tryz.prog 13 #[v] w (SprAns w (sprB xs)):=by
 obtain⟨ao,ca,rfl⟩:=hr.len;have hlen:xs.length≤270000:=Nat.le_trans (tot_len xs) (by omega);have HRd:=Lib.hid (fun w' (h:Below w.heap.size w w')=>Bt.Rd.at (hr.below h));have HO1:=Lib.hid (fun j (hj:j<xs.length) w'=>kdP_at ht j hj w')
 have HF4:=Lib.hid (fun w' (hb:Below w.heap.size w w') j (hj:j<xs.length) (hk:kindOf E0 xs[j]=4)=>by
  have h:=fenceP_any _ xs w' (hr.below hb) ht j hj hk;rw[←rest4 (l:=xs.drop (j+1)) hk,←nxt_eq hj]at h;exact h)
 have HR5:=Lib.hid (fun w' (hb:Below w.heap.size w w') j (hj:j<xs.length) (hk:kindOf E0 xs[j]=5)=>by
  have h:=runP_any _ xs w' (hr.below hb) ht j 5 (by omega);rw[List.drop_eq_getElem_cons hj,←rest5 (l:=xs.drop (j+1)) hk,←nxt_eq hj]at h;exact h)
 have HR8:=Lib.hid (fun w' (hb:Below w.heap.size w w') j (hj:j<xs.length) (hk:kindOf E0 xs[j]=8)=>by
  have h:=runP_any _ xs w' (hr.below hb) ht j 8 (by omega);rw[List.drop_eq_getElem_cons hj,←rest8 (l:=xs.drop (j+1)) hk,←nxt_eq hj]at h;exact h)
 have HL6:=Lib.hid (fun w' (hb:Below w.heap.size w w') j (hj:j<xs.length) (hk:kindOf E0 xs[j]=6)=>by
  have h:=listP_any _ xs w' (hr.below hb) ht j hj hk;rw[List.drop_eq_getElem_cons hj,←rest6 (l:=xs.drop (j+1)) hk,←nxt_eq hj]at h;exact h)
 have n5:((5:Nat):Int)=5:=rfl;have n8:((8:Nat):Int)=8:=rfl;simp only[n5]at HR5;simp only[n8]at HR8;obtain⟨X,hX⟩:∃X,sprB xs=X:=⟨_,rfl⟩;have H0:Hid (X=([]:List (Nat × Nat))++spr xs (xs.length+1) 0):=Lib.hid (by rw[List.nil_append,←hX];rfl);rw[hX];clear hX hr ht n5 n8;go_enter Tryz.func13,Tryz.ntmps13;go_wp2_with fail;go_step3;go_wp2_with fail;go_step3;go_wp2_with fail;go_loopw [3,4] (fun vo iv wr=>∃(j f:Nat) (qs:List (Nat × Nat)),j≤xs.length∧xs.length+1≤f+j∧qs.length≤j∧iv=.int .i64 j∧Hid (OutP w.heap.size wr vo qs)∧Hid (Below w.heap.size w wr)∧Hid (X=qs++spr xs f j)) (fun _ iv _=>xs.length-(intOf iv).toNat)
 case atStart=>exact⟨0,xs.length+1,[],Nat.zero_le _,Nat.le_refl _,Nat.le_refl _,rfl,Lib.hid (OutG.nil (Nat.le_refl _)),Lib.hid (Below.refl _ _),H0⟩
 case round=>
  clear H0;obtain⟨j,f,qs,hj,hf,hqs,rfl,HO,HB,HN⟩:=hrel;by_cases hlt:j<xs.length
  ·obtain⟨g,rfl⟩:∃g,f=g+1:=⟨f-1,by omega⟩
   have hji:(j:Int)<(xs.length:Int):=by omega
   obtain⟨b,of,hbo,c0⟩:=HRd.out wr HB.out j hlt;subst hbo;have HOj:=Lib.hid (HO1.out j hlt wr);have hdr:xs.drop j=xs[j]::xs.drop (j+1):=List.drop_eq_getElem_cons hlt;unfold NumK at HOj;by_cases hk:kindOf E0 xs[j]=1
   ·have e1:((kindOf E0 xs[j]:Int)==1)=true:=by rw[hk];rfl
    have HN2:Hid (X=qs++spr xs g (j+1)):=Lib.hid (by rw[HN.out,spr_blank hdr hk]);clear HN hk hdr HF4 HR5 HR8 HL6;generalize kindOf E0 xs[j]=K at *;generalize S xs[j]=sx at *;go_wp2_with fail;refine HOj.out.mono ?_;rintro e w2 ⟨rfl,b2⟩;have HB2:=Lib.hid (HB.out.trans (b2.mono HB.out.size));have HO2:Hid (OutP w.heap.size w2 _ qs):=Lib.hid (OutG.go HO.out (Keep.of_below b2));clear b2 HOj;go_wp2_with fail;go_roundw
    case rel=>exact⟨j+1,g,qs,by omega,by omega,by omega,by go_num,HO2,HB2,HN2⟩
    case measure=>simp[intOf]<;>omega
   ·have e1:((kindOf E0 xs[j]:Int)==1)=false:=by rw[beq_eq_false_iff_ne];omega
    have hsuf:restB xs[j] (xs.drop (j+1))<:+ xs.drop (j+1):=rest_suf _ _;have hpg:=plc_ge hsuf (by omega);have hpl:=plc_le xs (restB xs[j] (xs.drop (j+1)));have HN2:=Lib.hid (HN.out.trans (by rw[spr_block hdr hk]));have hcs:=kind_cases xs[j] hk
    have hrest1:Hid (kindOf E0 xs[j]=2∨kindOf E0 xs[j]=3∨kindOf E0 xs[j]=7→nxt xs j=j+1):=Lib.hid (fun h=>by
     rw[nxt_eq hlt,rest1 h,plc,List.length_drop];omega)
    rw[←nxt_eq hlt]at hpg hpl HN2;have HF:=Lib.hid (fun w' hb hk=>HF4.out w' hb j hlt hk);have HQ:=Lib.hid (fun w' hb hk=>HR5.out w' hb j hlt hk);have HP:=Lib.hid (fun w' hb hk=>HR8.out w' hb j hlt hk);have HL:=Lib.hid (fun w' hb hk=>HL6.out w' hb j hlt hk);obtain⟨nx,hnx⟩:∃n,nxt xs j=n:=⟨_,rfl⟩;rw[hnx]at hpg hpl hrest1;simp only[hnx]at HF HQ HP HL;have HN3:Hid (X=qs++(j,nx)::spr xs g nx):=Lib.hid (by rw[HN2.out,hnx]);clear hnx HN2 HN hk hdr HF4 HR5 HR8 HL6 hsuf;generalize kindOf E0 xs[j]=K at *;generalize S xs[j]=sx at *;rcases hcs with hk |hk |hk |hk |hk |hk |hk
    ·subst hk
     have hn1:nx=j+1:=hrest1.out (by omega);clear hrest1 HF HQ HP HL;go_wp2_with fail;refine HOj.out.mono ?_;rintro e w2 ⟨rfl,b2⟩;have HB2:=Lib.hid (HB.out.trans (b2.mono HB.out.size));have HO2:Hid (OutP w.heap.size w2 _ qs):=Lib.hid (OutG.go HO.out (Keep.of_below b2));clear b2 HOj;have hw1:IntKind.i64.wrap ((j:Int)+1)=(nx:Int):=by rw[IntKind.wrap_i64];omega
     have Hn1:=Lib.hid hn1;clear hn1;obtain⟨v5,w5,hr5,ho5,hk5⟩:=OutP.push HO2.out (j,nx) (by omega);have HO5:=Lib.hid ho5;have HB5:=Lib.hid (HB2.out.trans (OutG.below HO2.out hk5));have HN5:Hid (X=(qs++[(j,nx)])++spr xs g nx):=Lib.hid (by rw[HN3.out,List.append_assoc];rfl);have Hq5:Hid ((qs++[(j,nx)]).length≤nx):=Lib.hid (by rw[List.length_append];simp;omega);clear HN3 ho5 hk5;go_wp2_with (at_builtin;refine Lib.wpList_append_run _ rfl _ _ _ _ rfl _ _ rfl rfl _ _ (hr5 _) ?_);go_roundw
     case rel=>exact⟨nx,g,_,by omega,by omega,Hq5.out,rfl,HO5,HB5,HN5⟩
     case measure=>simp[intOf]<;>omega
    ·subst hk
     have hn1:nx=j+1:=hrest1.out (by omega);clear hrest1 HF HQ HP HL;go_wp2_with fail;refine HOj.out.mono ?_;rintro e w2 ⟨rfl,b2⟩;have HB2:=Lib.hid (HB.out.trans (b2.mono HB.out.size));have HO2:Hid (OutP w.heap.size w2 _ qs):=Lib.hid (OutG.go HO.out (Keep.of_below b2));clear b2 HOj;have hw1:IntKind.i64.wrap ((j:Int)+1)=(nx:Int):=by rw[IntKind.wrap_i64];omega
     have Hn1:=Lib.hid hn1;clear hn1;obtain⟨v5,w5,hr5,ho5,hk5⟩:=OutP.push HO2.out (j,nx) (by omega);have HO5:=Lib.hid ho5;have HB5:=Lib.hid (HB2.out.trans (OutG.below HO2.out hk5));have HN5:Hid (X=(qs++[(j,nx)])++spr xs g nx):=Lib.hid (by rw[HN3.out,List.append_assoc];rfl);have Hq5:Hid ((qs++[(j,nx)]).length≤nx):=Lib.hid (by rw[List.length_append];simp;omega);clear HN3 ho5 hk5;go_wp2_with (at_builtin;refine Lib.wpList_append_run _ rfl _ _ _ _ rfl _ _ rfl rfl _ _ (hr5 _) ?_);go_roundw
     case rel=>exact⟨nx,g,_,by omega,by omega,Hq5.out,rfl,HO5,HB5,HN5⟩
     case measure=>simp[intOf]<;>omega
    ·subst hk
     clear hrest1;go_wp2_with fail;refine HOj.out.mono ?_;rintro e w2 ⟨rfl,b2⟩;have HB2:=Lib.hid (HB.out.trans (b2.mono HB.out.size));have HO2:Hid (OutP w.heap.size w2 _ qs):=Lib.hid (OutG.go HO.out (Keep.of_below b2));clear b2 HOj;go_wp2_with fail;refine(HF.out w2 HB2.out trivial).mono ?_;rintro e w3 ⟨rfl,b3⟩;have HB3:=Lib.hid (HB2.out.trans (b3.mono HB2.out.size));have HO3:Hid (OutP w.heap.size w3 _ qs):=Lib.hid (OutG.go HO2.out (Keep.of_below b3));clear b3 HF HQ HP HL;obtain⟨v5,w5,hr5,ho5,hk5⟩:=OutP.push HO3.out (j,nx) (by omega);have HO5:=Lib.hid ho5;have HB5:=Lib.hid (HB3.out.trans (OutG.below HO3.out hk5));have HN5:Hid (X=(qs++[(j,nx)])++spr xs g nx):=Lib.hid (by rw[HN3.out,List.append_assoc];rfl);have Hq5:Hid ((qs++[(j,nx)]).length≤nx):=Lib.hid (by rw[List.length_append];simp;omega);clear HN3 ho5 hk5;go_wp2_with (at_builtin;refine Lib.wpList_append_run _ rfl _ _ _ _ rfl _ _ rfl rfl _ _ (hr5 _) ?_);go_roundw
     case rel=>exact⟨nx,g,_,by omega,by omega,Hq5.out,rfl,HO5,HB5,HN5⟩
     case measure=>simp[intOf]<;>omega
    ·subst hk
     clear hrest1;go_wp2_with fail;refine HOj.out.mono ?_;rintro e w2 ⟨rfl,b2⟩;have HB2:=Lib.hid (HB.out.trans (b2.mono HB.out.size));have HO2:Hid (OutP w.heap.size w2 _ qs):=Lib.hid (OutG.go HO.out (Keep.of_below b2));clear b2 HOj;go_wp2_with fail;refine(HQ.out w2 HB2.out trivial).mono ?_;rintro e w3 ⟨rfl,b3⟩;have HB3:=Lib.hid (HB2.out.trans (b3.mono HB2.out.size));have HO3:Hid (OutP w.heap.size w3 _ qs):=Lib.hid (OutG.go HO2.out (Keep.of_below b3));clear b3 HF HQ HP HL;obtain⟨v5,w5,hr5,ho5,hk5⟩:=OutP.push HO3.out (j,nx) (by omega);have HO5:=Lib.hid ho5;have HB5:=Lib.hid (HB3.out.trans (OutG.below HO3.out hk5));have HN5:Hid (X=(qs++[(j,nx)])++spr xs g nx):=Lib.hid (by rw[HN3.out,List.append_assoc];rfl);have Hq5:Hid ((qs++[(j,nx)]).length≤nx):=Lib.hid (by rw[List.length_append];simp;omega);clear HN3 ho5 hk5;go_wp2_with (at_builtin;refine Lib.wpList_append_run _ rfl _ _ _ _ rfl _ _ rfl rfl _ _ (hr5 _) ?_);go_roundw
     case rel=>exact⟨nx,g,_,by omega,by omega,Hq5.out,rfl,HO5,HB5,HN5⟩
     case measure=>simp[intOf]<;>omega
    ·subst hk
     clear hrest1;go_wp2_with fail;refine HOj.out.mono ?_;rintro e w2 ⟨rfl,b2⟩;have HB2:=Lib.hid (HB.out.trans (b2.mono HB.out.size));have HO2:Hid (OutP w.heap.size w2 _ qs):=Lib.hid (OutG.go HO.out (Keep.of_below b2));clear b2 HOj;go_wp2_with fail;refine(HL.out w2 HB2.out trivial).mono ?_;rintro e w3 ⟨rfl,b3⟩;have HB3:=Lib.hid (HB2.out.trans (b3.mono HB2.out.size));have HO3:Hid (OutP w.heap.size w3 _ qs):=Lib.hid (OutG.go HO2.out (Keep.of_below b3));clear b3 HF HQ HP HL;obtain⟨v5,w5,hr5,ho5,hk5⟩:=OutP.push HO3.out (j,nx) (by omega);have HO5:=Lib.hid ho5;have HB5:=Lib.hid (HB3.out.trans (OutG.below HO3.out hk5));have HN5:Hid (X=(qs++[(j,nx)])++spr xs g nx):=Lib.hid (by rw[HN3.out,List.append_assoc];rfl);have Hq5:Hid ((qs++[(j,nx)]).length≤nx):=Lib.hid (by rw[List.length_append];simp;omega);clear HN3 ho5 hk5;go_wp2_with (at_builtin;refine Lib.wpList_append_run _ rfl _ _ _ _ rfl _ _ rfl rfl _ _ (hr5 _) ?_);go_roundw
     case rel=>exact⟨nx,g,_,by omega,by omega,Hq5.out,rfl,HO5,HB5,HN5⟩
     case measure=>simp[intOf]<;>omega
    ·subst hk
     have hn1:nx=j+1:=hrest1.out (by omega);clear hrest1 HF HQ HP HL;go_wp2_with fail;refine HOj.out.mono ?_;rintro e w2 ⟨rfl,b2⟩;have HB2:=Lib.hid (HB.out.trans (b2.mono HB.out.size));have HO2:Hid (OutP w.heap.size w2 _ qs):=Lib.hid (OutG.go HO.out (Keep.of_below b2));clear b2 HOj;have hw1:IntKind.i64.wrap ((j:Int)+1)=(nx:Int):=by rw[IntKind.wrap_i64];omega
     have Hn1:=Lib.hid hn1;clear hn1;obtain⟨v5,w5,hr5,ho5,hk5⟩:=OutP.push HO2.out (j,nx) (by omega);have HO5:=Lib.hid ho5;have HB5:=Lib.hid (HB2.out.trans (OutG.below HO2.out hk5));have HN5:Hid (X=(qs++[(j,nx)])++spr xs g nx):=Lib.hid (by rw[HN3.out,List.append_assoc];rfl);have Hq5:Hid ((qs++[(j,nx)]).length≤nx):=Lib.hid (by rw[List.length_append];simp;omega);clear HN3 ho5 hk5;go_wp2_with (at_builtin;refine Lib.wpList_append_run _ rfl _ _ _ _ rfl _ _ rfl rfl _ _ (hr5 _) ?_);go_roundw
     case rel=>exact⟨nx,g,_,by omega,by omega,Hq5.out,rfl,HO5,HB5,HN5⟩
     case measure=>simp[intOf]<;>omega
    ·subst hk
     clear hrest1;go_wp2_with fail;refine HOj.out.mono ?_;rintro e w2 ⟨rfl,b2⟩;have HB2:=Lib.hid (HB.out.trans (b2.mono HB.out.size));have HO2:Hid (OutP w.heap.size w2 _ qs):=Lib.hid (OutG.go HO.out (Keep.of_below b2));clear b2 HOj;go_wp2_with fail;refine(HP.out w2 HB2.out trivial).mono ?_;rintro e w3 ⟨rfl,b3⟩;have HB3:=Lib.hid (HB2.out.trans (b3.mono HB2.out.size));have HO3:Hid (OutP w.heap.size w3 _ qs):=Lib.hid (OutG.go HO2.out (Keep.of_below b3));clear b3 HF HQ HP HL;obtain⟨v5,w5,hr5,ho5,hk5⟩:=OutP.push HO3.out (j,nx) (by omega);have HO5:=Lib.hid ho5;have HB5:=Lib.hid (HB3.out.trans (OutG.below HO3.out hk5));have HN5:Hid (X=(qs++[(j,nx)])++spr xs g nx):=Lib.hid (by rw[HN3.out,List.append_assoc];rfl);have Hq5:Hid ((qs++[(j,nx)]).length≤nx):=Lib.hid (by rw[List.length_append];simp;omega);clear HN3 ho5 hk5;go_wp2_with (at_builtin;refine Lib.wpList_append_run _ rfl _ _ _ _ rfl _ _ rfl rfl _ _ (hr5 _) ?_);go_roundw
     case rel=>exact⟨nx,g,_,by omega,by omega,Hq5.out,rfl,HO5,HB5,HN5⟩
     case measure=>simp[intOf]<;>omega
  ·obtain rfl:j=xs.length:=by omega
   have HR:Hid (X=qs):=Lib.hid (by rw[HN.out,spr_end,List.append_nil]);clear HN hlt;go_wp2_with fail;go_ret;exact⟨_,rfl,by rw[HR.out];exact⟨OutG.rk HO.out (fun _=>rfl),by omega⟩,HB.out⟩
end Pa
end Go.Proofs.YtpakjdgddomdjabGreatDoor
