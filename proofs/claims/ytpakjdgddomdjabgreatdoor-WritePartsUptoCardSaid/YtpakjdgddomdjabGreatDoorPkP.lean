import Derived.Test.YtpakjdgddomdjabGreatDoorPkO
import Derived.Test.YtpakjdgddomdjabGreatDoorPkH
import Derived.Lib.QuietBelow
import Derived.BigQuiet
import Derived.Deep.RegionHeld3
set_option linter.unusedVariables false
namespace Go.Proofs.YtpakjdgddomdjabGreatDoor
namespace Sp
open Go.RowKit
open Tk (S)
open Cm (Keep cell_at alloc_new alloc_at lt_of_at set_at set_other)
theorem FreshT.mono {B B':Nat} {w:World} {v:Value} {l:List Sp} (h:FreshT B' w v l) (hB:B≤B'):FreshT B w v l:=fun w' k=>h w' (k.mono (fun j _ hj=>hj.imp (fun h=>Nat.lt_of_lt_of_le h hB) id))
theorem FreshT.nil (B:Nat) (w:World):FreshT B w (.slice none 0 0) []:=fun w' _=>tr_nil w'
theorem RdW.keep {S:Nat→Prop} {r b cap i:Nat} {ao:Option Addr} {A:List Pc} {w w':World} (h:RdW r b cap ao A i w) (k:Keep S w w') (hr:¬S r) (hb:A=[]∨¬S b):RdW r b cap ao A i w':=by
 refine⟨k.at h.1 hr,h.2.1,?_⟩;rcases h.2.2 with h2 |⟨cur,h2,h3⟩
 ·exact Or.inl h2
 ·rcases hb with hb |hb
  ·exact Or.inl hb
  ·exact Or.inr ⟨cur,k.at h2 hb,h3⟩
theorem RdW.below {r b cap i:Nat} {ao:Option Addr} {A:List Pc} {w w':World} (h:RdW r b cap ao A i w) (hb:Below w.heap.size w w'):RdW r b cap ao A i w':=h.keep (S:=fun _=>False) (Keep.of_below hb) (fun h=>h) (Or.inr (fun h=>h))
theorem RdW.ne {r b cap i:Nat} {ao:Option Addr} {A:List Pc} {w:World} (h:RdW r b cap ao A i w):A=[]∨(b≠r∧b<w.heap.size):=by
 rcases h.2.2 with h2 |⟨cur,h2,h3⟩
 ·exact Or.inl h2
 ·refine Or.inr ⟨fun e=>?_,lt_of_at h2⟩
  subst e;have:=h.1;exact absurd (type_eq h2 this) (by decide)
theorem RdW.go {r b cap i:Nat} {ao:Option Addr} {A:List Pc} {w:World} (h:RdW r b cap ao A i w) (j:Nat):RdW r b cap ao A j (w.setCell ⟨r,1,none⟩ (.int .i64 (j:Int))):=by
 refine⟨by have:=set_at h.1 1 (.int .i64 (j:Int));simpa using this,h.2.1,?_⟩;rcases h.2.2 with h2 |⟨cur,h2,h3⟩
 ·exact Or.inl h2
 ·rcases h.ne with hn |hn
  ·exact Or.inl hn
  ·exact Or.inr ⟨cur,set_other h2 hn.1,h3⟩
def atOf (r:Nat) (w:World):Nat:=match w.cell? ⟨r,1,none⟩with
 |some (.int _ z)=>z.toNat
 |_=>0
theorem RdW.atOf {r b cap i:Nat} {ao:Option Addr} {A:List Pc} {w:World} (h:RdW r b cap ao A i w):atOf r w=i:=by
 have:w.cell? ⟨r,1,none⟩=some (.int .i64 (i:Int)):=cell_at h.1 1;unfold Sp.atOf;rw[this];simp
structure MS (r b cap:Nat) (ao:Option Addr) (A:List Pc) (e l:Bool) (w:World) (k:Nat) (L:List Sp) (t:List UInt8) (sv:Value) (W:World):Prop where
 rd:RdW r b cap ao A k W
 pl:W.heap[w.heap.size]? = some (.cells #[.bool e,.bool l] 160 (0,0))
 gt:Gth (w.heap.size+1) W sv L t
 hr:r<w.heap.size
 hb:A=[]∨b<w.heap.size
 kp:Keep (fun j=>j=r) w W
theorem MS.below {r b cap k:Nat} {ao:Option Addr} {A:List Pc} {e l:Bool} {w:World} {L:List Sp} {t:List UInt8} {sv:Value} {W W':World} (h:MS r b cap ao A e l w k L t sv W) (hb:Below W.heap.size W W'):MS r b cap ao A e l w k L t sv W':=
 ⟨h.rd.below hb,(Keep.of_below (S:=fun _=>False) hb).at h.pl (fun h=>h),h.gt.keep (S:=fun _=>False) (Keep.of_below hb) (fun _ h=>h.elim),h.hr,h.hb,h.kp.trans (Keep.of_below hb)⟩
theorem MS.fresh {r b cap k:Nat} {ao:Option Addr} {A:List Pc} {e l:Bool} {w:World} {L:List Sp} {t:List UInt8} {sv:Value} {W W':World} (h:MS r b cap ao A e l w k L t sv W) (hb:Keep (fun _=>False) W W'):MS r b cap ao A e l w k L t sv W':=
 ⟨h.rd.keep hb (fun h=>h) (Or.inr (fun h=>h)),hb.at h.pl (fun h=>h),h.gt.keep hb (fun _ h=>h.elim),h.hr,h.hb,h.kp.trans (hb.mono (fun _ _ h=>h.elim))⟩
theorem MS.go {r b cap k:Nat} {ao:Option Addr} {A:List Pc} {e l:Bool} {w:World} {L:List Sp} {t:List UInt8} {sv:Value} {W:World} (h:MS r b cap ao A e l w k L t sv W) (j:Nat):MS r b cap ao A e l w j L t sv (W.setCell ⟨r,1,none⟩ (.int .i64 (j:Int))):=by
 have kk:Keep (fun g=>g=r) W (W.setCell ⟨r,1,none⟩ (.int .i64 (j:Int))):=(Keep.refl (fun g=>g=r) W).setCell (p:=⟨r,1,none⟩) (Or.inl rfl) _;have hr:=h.hr;exact⟨h.rd.go j,kk.at h.pl (by omega),h.gt.keep kk (fun g hg=>by omega),hr,h.hb,h.kp.trans kk⟩
theorem MS.inner {r b cap k j:Nat} {ao:Option Addr} {A:List Pc} {e l:Bool} {w:World} {L:List Sp} {t:List UInt8} {sv:Value} {W W':World} (h:MS r b cap ao A e l w k L t sv W) (hr':RdW r b cap ao A j W') (kk:Keep (fun g=>g=r) W W'):MS r b cap ao A e l w j L t sv W':=by
 have hr:=h.hr;exact⟨hr',kk.at h.pl (by omega),h.gt.keep kk (fun g hg=>by omega),hr,h.hb,h.kp.trans kk⟩
theorem MS.gath {r b cap k:Nat} {ao:Option Addr} {A:List Pc} {e l:Bool} {w:World} {L L':List Sp} {t t':List UInt8} {sv sv':Value} {W W':World} (h:MS r b cap ao A e l w k L t sv W) (hg:Gth (w.heap.size+1) W' sv' L' t') (kk:Keep (EffG (w.heap.size+1) sv W) W W'):MS r b cap ao A e l w k L' t' sv' W':=by
 have hr:=h.hr;have hb:=h.hb;refine⟨h.rd.keep kk (fun e=>?_) (hb.imp id (fun hb e=>?_)),kk.at h.pl (fun e=>?_),hg,hr,hb,keep_chain h.kp kk (fun j hj hs e=>?_)⟩
 ·have:=e.1;omega
 ·have:=e.1;omega
 ·have:=e.1;omega
 ·have:=e.1;omega
theorem MS.own {r b cap k:Nat} {ao:Option Addr} {A:List Pc} {e l:Bool} {w:World} {L:List Sp} {t:List UInt8} {sv:Value} {W:World} (h:MS r b cap ao A e l w k L t sv W):∀g,sv.ownBlock=some g→g<W.heap.size:=fun g hg=>(h.gt.sps.own g hg).2.1
theorem MS.begin {r b cap k:Nat} {ao:Option Addr} {A:List Pc} {e l:Bool} {w:World} (h:RdW r b cap ao A k w):
  MS r b cap ao A e l w k [] [] (.slice none 0 0) ((w.alloc (.cells #[.bool e,.bool l] 160)).alloc (.cells #[.slice none 0 0,.pointer none,.slice none 0 0] 186)):=by
 have hb:Below w.heap.size w ((w.alloc (.cells #[.bool e,.bool l] 160)).alloc (.cells #[.slice none 0 0,.pointer none,.slice none 0 0] 186)):=((Below.refl _ w).alloc (Nat.le_refl _) _).alloc (by simp) _;have n2:=alloc_new (w.alloc (.cells #[.bool e,.bool l] 160)) (.cells #[.slice none 0 0,.pointer none,.slice none 0 0] 186);rw[World.size_alloc]at n2;exact⟨h.below hb,alloc_at (alloc_new w _) _,⟨⟨.pointer none,.slice none 0 0,n2,Or.inl rfl,World.ownsRow_nil _ _ _ _⟩,Sps.nil _ _⟩,lt_of_at h.1,h.ne.imp id (fun h=>h.2),Keep.of_below hb⟩
def RrAns (r b cap:Nat) (ao:Option Addr) (A:List Pc) (e l:Bool) (i:Nat) (w:World) (x:Ending) (w':World):Prop:=∃v,x=.returned v∧FreshT w.heap.size w' v (Rdr e l (raws (A.drop i))).1∧RdW r b cap ao A (fin e l A i) w'∧Keep (fun k=>k=r) w w'
def RdC (r b cap:Nat) (ao:Option Addr) (A:List Pc) (e l:Bool):Prop:=∀(i:Nat) (w:World),RdW r b cap ao A i w→i≤A.length→Calls Tryz.prog 151 #[.pointer (some ⟨r,0,none⟩),.agg #[.bool e,.bool l]] w (RrAns r b cap ao A e l i w)
theorem MS.done {r b cap k i:Nat} {ao:Option Addr} {A:List Pc} {e l:Bool} {w:World} {L:List Sp} {t:List UInt8} {sv sv':Value} {W W':World} (h:MS r b cap ao A e l w k L t sv W) (hG:Good A) (hi:i≤A.length) (ha:At e l A i k L t) (hk:k=A.length∨∃hk:k<A.length,isEnd e l A[k]=true)
  (hg:Gth (w.heap.size+1) W' sv' (flush L t) []) (kk:Keep (EffG (w.heap.size+1) sv W) W W'):RrAns r b cap ao A e l i w (.returned sv') W':=by
 obtain⟨e1,e2⟩:=ha.ended hG hi hk;have h':=h.gath hg kk;subst e1;refine⟨sv',rfl,?_,h'.rd,h'.kp⟩;rw[←e2];exact h'.gt.sps.fresh.mono (by omega)
end Sp
namespace Sp
open Go.RowKit Go.Shelf Go.Sort
open Tk (S S_list S_size)
open Cm (Keep cell_at alloc_new alloc_at set_other frozen_at)
theorem At.tot {e l:Bool} {A:List Pc} {i k:Nat} {L:List Sp} {t:List UInt8} (h:At e l A i k L t):totAll (flu L t)≤2*(raws A).length:=by
 have h1:=glue_tot (flu L t) (Rdr e l (raws (A.drop k))).1;have h2:=congrArg (fun x=>totAll x.1) h.rd;have h3:=Rdr_tot e l (raws (A.drop i));have h4:=raws_drop_len A i;unfold gl at h2;simp only at h2;omega
theorem At.dest {e l:Bool} {A:List Pc} {i k:Nat} {L:List Sp} {d:List UInt8} {Kd:List Sp} (h:At e l A i k (L++[.mk 4 d Kd]) []):d.length≤2*(raws A).length:=by
 have h1:=h.tot;have h2:=totAll_mem (l:=L++[.mk 4 d Kd]) (x:=.mk 4 d Kd) (by simp);rw[totOne_eq]at h2;rw[flu_nil]at h1;have h4:(Sp.mk 4 d Kd).s=d:=rfl;rw[h4]at h2;omega
set_option maxHeartbeats 12800000 in
set_option maxRecDepth 100000 in
theorem readR_any (r b cap:Nat) (ao:Option Addr) (A:List Pc) (hG:Good A) (hA:A.length≤300000) (hraw:(raws A).length≤300000) (e l:Bool) (HE:e=false→RdC r b cap ao A true l) (HL:l=false→RdC r b cap ao A e true):
  RdC r b cap ao A e l:=by
 intro i w h hi;have HM0:=Lib.hid (MS.begin (e:=e) (l:=l) h)
 have HEnds:Hid (∀(k:Nat) (W:World) (h:RdW r b cap ao A k W) (hk:k<A.length) (d:Nat) (os:Array Obj),Calls Tryz.prog 174 #[.pointer (some ⟨r,0,none⟩),.agg #[.bool e,.bool l]] (grow (redrawn W d) os) fun x w''=>x=.returned (.bool (isEnd e l A[k]))∧∃p:Regrown,w''=grow (redrawn W p.d) p.os):=
  Lib.hid (fun k W h hk d os=>Calls.regrown_of (endsR_any r b cap k ao A e l _ (h.below (below_regrown W d os)) hk (by omega)))
 have HG:=Lib.hid hG;have HE:=Lib.hid HE;have HL:=Lib.hid HL;clear h hG;go_enter Tryz.func151,Tryz.ntmps151;go_wp2_with fail;generalize (w.alloc (.cells #[.bool e,.bool l] 160)).alloc (.cells #[.slice none 0 0,.pointer none,.slice none 0 0] 186)=w1 at *;go_loopw [] (fun wr=>∃(k:Nat) (L:List Sp) (t:List UInt8) (sv:Value),Hid (MS r b cap ao A e l w k L t sv wr)∧Hid (At e l A i k L t)) (fun wr=>A.length-atOf r wr)
 case atStart=>exact⟨i,[],[],_,HM0,Lib.hid (At.begin e l A i hi)⟩
 case round=>
  obtain⟨k,L,t,sv,HM,HA⟩:=hrel;clear HM0;have ms:=HM.out;have HAt:=Lib.hid ms.rd.atOf;have q0:wr.cell? ⟨r,0,none⟩=some (.slice ao A.length cap):=cell_at ms.rd.1 0;have q1:wr.cell? ⟨r,1,none⟩=some (.int .i64 (k:Int)):=cell_at ms.rd.1 1;have b0:wr.cell? ⟨w.heap.size,0,none⟩=some (.bool e):=cell_at ms.pl 0;have b1:wr.cell? ⟨w.heap.size,1,none⟩=some (.bool l):=cell_at ms.pl 1;have p0:=fun d os=>cell_regrown (w:=wr) q0 d os
  have p1:=fun d os=>cell_regrown (w:=wr) q1 d os
  have p2:=fun d os=>cell_regrown (w:=wr) b0 d os
  have p3:=fun d os=>cell_regrown (w:=wr) b1 d os
  have hkf:=HA.out.le;have hfl:=(fin_le e l A i hi).2;have hkl:k≤A.length:=by omega
  clear ms hkf hfl;by_cases hk:k<A.length
  ·have d1:decide ((k:Int)<(A.length:Int))=true:=decide_eq_true (by omega)
   have HEn:=Lib.hid (HEnds.out k wr HM.out.rd hk);obtain⟨be,hbe⟩:∃be,isEnd e l A[k]=be:=⟨_,rfl⟩;rw[hbe]at HEn;cases be
   ·go_upto_region 2 with fail
    refine wp_region_quiet_below (by kernel_rfl) (by kernel_rfl) ?_
    repeat (go_big_quiet_step (first |(go_at_call 174;exact HEn.out _ _)))
    refine wpQuiet_nil ?_;intro w5 hw5;obtain⟨⟨dq,osq⟩,hw5'⟩:=hw5;subst hw5';have HM5:=Lib.hid (HM.out.below (below_regrown wr dq osq));clear HEn p0 p1 p2 p3 q0 q1 b0 b1 HM;go_wp2_with fail;generalize grow (redrawn wr dq) osq=w5 at *;have ms:=HM5.out;obtain⟨hao,cur,k1,c0,c1,c2,c3⟩:=ms.rd.piece k hk;subst hao;obtain⟨st,hst⟩:∃st,st=nxt 2 A (k+1):=⟨_,rfl⟩;obtain⟨sh,hsh⟩:∃sh,sh=nxt 4 A (k+1):=⟨_,rfl⟩;rw[←hst]at c2;rw[←hsh]at c3;have HST:=Lib.hid hst;have HSH:=Lib.hid hsh;clear hst hsh;have q0:w5.cell? ⟨r,0,none⟩=some (.slice (some ⟨b,0,none⟩) A.length cap):=cell_at ms.rd.1 0;have q1:w5.cell? ⟨r,1,none⟩=some (.int .i64 (k:Int)):=cell_at ms.rd.1 1;have r0:w5.cell? ⟨b,k*4,none⟩=some (.int .i64 (A[k].kind:Int)):=(cell_at k1 _).trans c0;have r1:w5.cell? ⟨b,k*4+1,none⟩=some (.string (S A[k].s)):=(cell_at k1 _).trans c1;have r2:w5.cell? ⟨b,k*4+2,none⟩=some (.int .i64 (st:Int)):=(cell_at k1 _).trans c2;have r3:w5.cell? ⟨b,k*4+3,none⟩=some (.int .i64 (sh:Int)):=(cell_at k1 _).trans c3;have q0a:∀o,(w5.alloc o).cell? ⟨r,0,none⟩=some (.slice (some ⟨b,0,none⟩) A.length cap):=fun o=>cell_at (alloc_at ms.rd.1 o) 0
    have q1a:∀o,(w5.alloc o).cell? ⟨r,1,none⟩=some (.int .i64 (k:Int)):=fun o=>cell_at (alloc_at ms.rd.1 o) 1
    have r0a:∀o,(w5.alloc o).cell? ⟨b,k*4,none⟩=some (.int .i64 (A[k].kind:Int)):=fun o=>(cell_at (alloc_at k1 o) _).trans c0
    have r1a:∀o,(w5.alloc o).cell? ⟨b,k*4+1,none⟩=some (.string (S A[k].s)):=fun o=>(cell_at (alloc_at k1 o) _).trans c1
    have r2a:∀o,(w5.alloc o).cell? ⟨b,k*4+2,none⟩=some (.int .i64 (st:Int)):=fun o=>(cell_at (alloc_at k1 o) _).trans c2
    have r3a:∀o,(w5.alloc o).cell? ⟨b,k*4+3,none⟩=some (.int .i64 (sh:Int)):=fun o=>(cell_at (alloc_at k1 o) _).trans c3
    have HS0:Hid (∀W:World,Keep (fun _=>False) w5 W→W.cell? ⟨r,0,none⟩=some (.slice (some ⟨b,0,none⟩) A.length cap)∧W.cell? ⟨r,1,none⟩=some (.int .i64 (k:Int))∧W.cell? ⟨b,k*4,none⟩=some (.int .i64 (A[k].kind:Int))∧W.cell? ⟨b,k*4+1,none⟩=some (.string (S A[k].s))∧W.cell? ⟨b,k*4+2,none⟩=some (.int .i64 (st:Int))∧W.cell? ⟨b,k*4+3,none⟩=some (.int .i64 (sh:Int))):=Lib.hid (fun W hW=>by
     have a0:=hW.at ms.rd.1 (fun h=>h);have a1:=hW.at k1 (fun h=>h);exact⟨cell_at a0 0,cell_at a0 1,(cell_at a1 _).trans c0,(cell_at a1 _).trans c1,(cell_at a1 _).trans c2,(cell_at a1 _).trans c3⟩)
    have hge:(0:Int)≤(k:Int):=by omega
    have hlt:(k:Int)<(A.length:Int):=by omega
    have hat:atOf r wr=k:=HAt.out;have hr5:r<w.heap.size:=ms.hr;have hs5:w.heap.size≤w5.heap.size:=ms.kp.size;clear ms k1 c0 c1 c2 c3 d1;go_cut [6]from 10 to 120 (fun p wx=>p=.pointer (some ⟨w5.heap.size,0,none⟩)∧Hid (wx.heap[w5.heap.size]? = some (.cells #[.int .i64 (A[k].kind:Int),.string (S A[k].s),.int .i64 (st:Int),.int .i64 (sh:Int)] 189 (0,0))∧Keep (fun _=>False) w5 wx))
    case first=>
     have HS:Hid (∀W:World,Keep (fun _=>False) w5 W→W.cell? ⟨r,0,none⟩=some (.slice (some ⟨b,0,none⟩) A.length cap)∧W.cell? ⟨r,1,none⟩=some (.int .i64 (k:Int))∧W.cell? ⟨b,k*4,none⟩=some (.int .i64 (A[k].kind:Int))∧W.cell? ⟨b,k*4+1,none⟩=some (.string (S A[k].s))∧W.cell? ⟨b,k*4+2,none⟩=some (.int .i64 (st:Int))∧W.cell? ⟨b,k*4+3,none⟩=some (.int .i64 (sh:Int))):=HS0;clear HM5 HA HEnds HG HE HL HAt HSH HST hr5 hs5 hat hbe hkl hi hraw hA
     go_region_held3 (fun W=>W.cell? ⟨r,0,none⟩=some (.slice (some ⟨b,0,none⟩) A.length cap)∧W.cell? ⟨r,1,none⟩=some (.int .i64 (k:Int))∧W.cell? ⟨b,k*4,none⟩=some (.int .i64 (A[k].kind:Int))∧W.cell? ⟨b,k*4+1,none⟩=some (.string (S A[k].s))∧W.cell? ⟨b,k*4+2,none⟩=some (.int .i64 (st:Int))∧W.cell? ⟨b,k*4+3,none⟩=some (.int .i64 (sh:Int)))
      (first |exact HS.out _ (Keep.refl _ _)|exact HS.out _ (Keep.refl _ _).drew |exact HS.out _ ((Keep.refl _ _).drew.alloc _)|exact HS.out _ (((((((Keep.refl _ _).drew.alloc _).setCell (Or.inr (Nat.le_refl _)) _).setCell (Or.inr (Nat.le_refl _)) _).setCell (Or.inr (Nat.le_refl _)) _).setCell (Or.inr (Nat.le_refl _)) _)))
      (fail)
     go_wp2_with fail;go_meet;refine⟨rfl,Lib.hid ⟨alloc_new w5 _,((Keep.refl _ _).alloc _).drew⟩⟩
    case rest=>
     obtain⟨rfl,HX⟩:=hcut;have hm6:=HM5.out.fresh HX.out.2;have q1':wc.cell? ⟨r,1,none⟩=some (.int .i64 (k:Int)):=cell_at hm6.rd.1 1;have f1':wc.frozen? ⟨r,1,none⟩=false:=frozen_at hm6.rd.1 1;have g1:(k:Int)+1<9223372036854775808:=by omega
     have hm7:=hm6.go (k+1);have x7:=set_other (i:=1) (v:=.int .i64 (((k+1:Nat):Int))) HX.out.1 (show w5.heap.size≠r by omega);rw[show((k+1:Nat):Int)=(k:Int)+1 from by omega]at hm7 x7;have HM7:=Lib.hid hm7;have HX7:=Lib.hid x7;clear q0 q1 r0 r1 r2 r3 q0a q1a r0a r1a r2a r3a hm6 hm7 x7 HX HM5;go_upto_region 6 with fail;generalize wc.setCell ⟨r,1,none⟩ (.int .i64 ((k:Int)+1))=w7 at *;generalize w5.heap.size=n at *;clear q1' f1';have y0:w7.cell? ⟨n,0,none⟩=some (.int .i64 (A[k].kind:Int)):=cell_at HX7.out 0;have y1:w7.cell? ⟨n,1,none⟩=some (.string (S A[k].s)):=cell_at HX7.out 1;have y2:w7.cell? ⟨n,2,none⟩=some (.int .i64 (st:Int)):=cell_at HX7.out 2;have y3:w7.cell? ⟨n,3,none⟩=some (.int .i64 (sh:Int)):=cell_at HX7.out 3;have z0:w7.cell? ⟨w.heap.size,0,none⟩=some (.bool e):=cell_at HM7.out.pl 0;have z1:w7.cell? ⟨w.heap.size,1,none⟩=some (.bool l):=cell_at HM7.out.pl 1;have hb1:=HA.out.bnd;by_cases h1:A[k].kind=1
     ·have HA9:=Lib.hid (HA.out.code HG.out hi hk h1)
      rw[h1]at y0;have y0':w7.cell? ⟨n,0,none⟩=some (.int .i64 1):=y0
      have HAd:Hid (Calls Tryz.prog 175 #[.pointer (some ⟨w.heap.size+1,0,none⟩),.agg #[.int .i64 2,.string (S A[k].s),.slice none 0 0]] w7 (AddAns (w.heap.size+1) (flush L t++[.mk 2 A[k].s []]) sv w7)):=
       Lib.hid (add_any (w.heap.size+1) w7.heap.size sv L t (.mk 2 A[k].s []) (.slice none 0 0) w7 HM7.out.gt (FreshT.nil _ _) HM7.out.gt.lt HM7.out.own (Nat.le_refl _) (by omega))
      clear y0 y2 y3 z0 z1 HE HL;go_wp2_with fail;refine HAd.out.mono ?_;rintro x w9 ⟨rfl,sv9,g9,o9,k9⟩;have HM9:=Lib.hid (HM7.out.gath g9 k9);clear g9 o9 k9 HAd HM7 HX7 y1 y0';go_wp2_with fail;go_roundw
      case rel=>exact⟨k+1,_,[],sv9,HM9,HA9⟩
      case measure=>rw[HM9.out.rd.atOf,hat];omega
     ·by_cases h2:A[k].kind=2
      ·have HEq:Hid (e=false):=Lib.hid (by
        cases e
        ·rfl
        ·exact absurd ⟨rfl,h2⟩ (isEnd_ne hbe).1)
       rw[h2]at y0;have y0':w7.cell? ⟨n,0,none⟩=some (.int .i64 2):=y0;have HB:Hid (Calls Tryz.prog 176 #[.pointer (some ⟨r,0,none⟩),.agg #[.int .i64 2,.string (S A[k].s),.int .i64 (st:Int),.int .i64 (sh:Int)],.agg #[.bool e,.bool l]] w7 _):=Lib.hid (emphR_any r b cap (k+1) st sh _ A 2 (S A[k].s) e l w7 HM7.out.rd);by_cases hb:¬(l=true∧sh<st)∧st<A.length∧k+1<st
       ·obtain⟨hf,ha9⟩:=HA.out.star_yes HG.out hi hk hbe h2 HST.out HSH.out hb
        have HA9:=Lib.hid ha9;rw[decide_eq_true hb]at HB;have hb2:st<A.length:=hb.2.1;have hb3:k+1<st:=hb.2.2;clear y0 hb ha9 HL;go_wp2_with fail;refine HB.out.mono ?_;rintro x w8 ⟨rfl,hb8⟩;have HM8:=Lib.hid (HM7.out.below hb8);have z1':w8.cell? ⟨w.heap.size,1,none⟩=some (.bool l):=cell_at HM8.out.pl 1;have HIn:=Lib.hid (HE.out HEq.out (k+1) w8 HM8.out.rd (by omega));clear hb8 y0' y1 y2 y3 z0 z1 HB HM7 HX7 HE;go_wp2_with fail;refine HIn.out.mono ?_;rintro x w9 ⟨v9,rfl,fr9,rd9,k9⟩;rw[hf]at rd9;generalize (Rdr true l (raws (A.drop (k+1)))).1=Kd at *;have hm9:=HM8.out.inner rd9 k9;have q1':w9.cell? ⟨r,1,none⟩=some (.int .i64 (st:Int)):=cell_at hm9.rd.1 1;have f1':w9.frozen? ⟨r,1,none⟩=false:=frozen_at hm9.rd.1 1;have g1':(st:Int)+1<9223372036854775808:=by omega
        have hrs:r<w8.heap.size:=Nat.lt_of_lt_of_le HM8.out.hr HM8.out.kp.size;have kk:Keep (fun g=>g=r) w9 (w9.setCell ⟨r,1,none⟩ (.int .i64 ((st+1:Nat):Int))):=(Keep.refl (fun g=>g=r) w9).setCell (p:=⟨r,1,none⟩) (Or.inl rfl) _;have hm10:=hm9.go (st+1);have fr10:=fr9.keep kk (fun j hj=>Or.inl (by omega));have hs10:=Nat.le_trans k9.size kk.size;rw[show((st+1:Nat):Int)=(st:Int)+1 from by omega]at hm10 fr10 hs10;obtain⟨ak,ck,rfl⟩:=fr9.tr.len
        have HAd:Hid (Calls Tryz.prog 175 #[.pointer (some ⟨w.heap.size+1,0,none⟩),.agg #[.int .i64 3,.string ⟨#[]⟩,.slice ak Kd.length ck]] (w9.setCell ⟨r,1,none⟩ (.int .i64 ((st:Int)+1))) (AddAns (w.heap.size+1) (flush L t++[.mk 3 [] Kd]) sv (w9.setCell ⟨r,1,none⟩ (.int .i64 ((st:Int)+1))))):=
         Lib.hid (add_any (w.heap.size+1) w8.heap.size sv L t (.mk 3 [] Kd) (.slice ak Kd.length ck) _ hm10.gt fr10 HM8.out.gt.lt HM8.out.own hs10 (by omega))
        have HM10:=Lib.hid hm10;clear fr9 rd9 k9 kk hm9 hm10 fr10 hs10 HM8 HIn z1';go_wp2_with fail;refine HAd.out.mono ?_;rintro x w11 ⟨rfl,sv11,g11,o11,k11⟩;have HM11:=Lib.hid (HM10.out.gath g11 k11);clear g11 o11 k11 HAd HM10;go_wp2_with fail;go_roundw
        case rel=>exact⟨st+1,_,[],sv11,HM11,HA9⟩
        case measure=>rw[HM11.out.rd.atOf,hat];omega
       ·have HA9:=Lib.hid (HA.out.star_no HG.out hk hbe h2 HST.out HSH.out hb)
        rw[decide_eq_false hb]at HB;clear y0 HE HL hb;go_wp2_with fail;refine HB.out.mono ?_;rintro x w8 ⟨rfl,hb8⟩;have HM8:=Lib.hid (HM7.out.below hb8);have x8:=(Keep.of_below (S:=fun _=>False) hb8).at HX7.out (fun h=>h);have y0:w8.cell? ⟨n,0,none⟩=some (.int .i64 2):=by have:=cell_at x8 0;rw[h2]at this;exact this
        have y1':w8.cell? ⟨n,1,none⟩=some (.string (S A[k].s)):=cell_at x8 1;have HAd:=Lib.hid (addText_any (w.heap.size+1) sv L t A[k].s w8 HM8.out.gt (by have:=HA9.out.bnd;rw[List.length_append]at this;omega));clear hb8 x8 y0' y1 y2 y3 z0 z1 HB HM7 HX7;go_wp2_with fail;refine HAd.out.mono ?_;rintro x w9 ⟨rfl,g9,k9⟩;have HM9:=Lib.hid (HM8.out.gath g9 k9);clear g9 k9 HAd HM8 y0 y1';go_wp2_with fail;go_roundw
        case rel=>exact⟨k+1,_,_,sv,HM9,HA9⟩
        case measure=>rw[HM9.out.rd.atOf,hat];omega
      ·by_cases h3:A[k].kind=3
       ·rw[h3]at y0
        have y0':w7.cell? ⟨n,0,none⟩=some (.int .i64 3):=y0;have hshl:sh≤A.length:=by rw[HSH.out];exact(nxt_le 4 A (k+1) (by omega)).2
        have HB:Hid (Calls Tryz.prog 177 #[.pointer (some ⟨r,0,none⟩),.agg #[.int .i64 3,.string (S A[k].s),.int .i64 (st:Int),.int .i64 (sh:Int)],.agg #[.bool e,.bool l]] w7 _):=Lib.hid (linkR_any r b cap (k+1) st sh _ A 3 (S A[k].s) e l w7 HM7.out.rd (by omega) hshl);by_cases hb:l=false∧¬(e=true∧st<sh)∧k+1<sh∧sh+1<A.length∧(A.getD (sh+1) ⟨0,[],[]⟩).kind=5
        ·obtain⟨hf,hs,hlong,ha9⟩:=HA.out.open_yes HG.out hi hk hbe h3 HST.out HSH.out hb
         have HA9:=Lib.hid ha9;rw[decide_eq_true hb]at HB;have HLq:=Lib.hid hb.1;have hb3:k+1<sh:=hb.2.2.1;clear y0 hb ha9 HE;go_wp2_with fail;refine HB.out.mono ?_;rintro x w8 ⟨rfl,hb8⟩;have HM8:=Lib.hid (HM7.out.below hb8);have x8:=(Keep.of_below (S:=fun _=>False) hb8).at HX7.out (fun h=>h);have z0':w8.cell? ⟨w.heap.size,0,none⟩=some (.bool e):=cell_at HM8.out.pl 0;have HIn:=Lib.hid (HL.out HLq.out (k+1) w8 HM8.out.rd (by omega));clear hb8 x8 y0' y1 y2 y3 z0 z1 HB HM7 HX7 HL;go_wp2_with fail;refine HIn.out.mono ?_;rintro x w9 ⟨v9,rfl,fr9,rd9,k9⟩;rw[hf]at rd9;generalize (Rdr e true (raws (A.drop (k+1)))).1=Kd at *;have hm9:=HM8.out.inner rd9 k9;obtain⟨_,cur9,k19,_,c19,_,_⟩:=rd9.piece (sh+1) hs;have hrs:r<w8.heap.size:=Nat.lt_of_lt_of_le HM8.out.hr HM8.out.kp.size;have g1':(sh:Int)+1<9223372036854775808:=by omega
         have g2':(sh:Int)+2<9223372036854775808:=by omega
         have g3':(0:Int)≤(sh:Int)+1:=by omega
         have g4':(sh:Int)+1<(A.length:Int):=by omega
         have q0':w9.cell? ⟨r,0,none⟩=some (.slice (some ⟨b,0,none⟩) A.length cap):=cell_at hm9.rd.1 0;have q1':w9.cell? ⟨r,1,none⟩=some (.int .i64 (sh:Int)):=cell_at hm9.rd.1 1;have f1':w9.frozen? ⟨r,1,none⟩=false:=frozen_at hm9.rd.1 1;have s1':w9.cell? ⟨b,(sh+1)*4+1,none⟩=some (.string (S A[sh+1].s)):=(cell_at k19 _).trans c19;have hX2:2≤(S A[sh+1].s).size:=by rw[S_size];exact hlong
         have hX3:(S A[sh+1].s).size≤1000000:=by
          have h:=HA9.out.dest;rw[List.length_dropLast,List.length_tail]at h;rw[S_size];omega
         have hcd:=cut_data (S A[sh+1].s) hX2;rw[S_list]at hcd;have hsl:=fun w=>sliceS (S A[sh+1].s) 1 ((S A[sh+1].s).size-1) (by omega) (by omega) w
         have g5:((S A[sh+1].s).size:Int)-1=(((S A[sh+1].s).size-1:Nat):Int):=by omega
         rw[←g5,hcd]at hsl;obtain⟨ak,ck,hv9⟩:=fr9.tr.len;subst hv9
         have HAd:Hid (∀W,Below w9.heap.size w9 W→Calls Tryz.prog 175 #[.pointer (some ⟨w.heap.size+1,0,none⟩),.agg #[.int .i64 4,.string (S A[sh+1].s.tail.dropLast),.slice ak Kd.length ck]] (W.setCell ⟨r,1,none⟩ (.int .i64 ((sh:Int)+2))) (AddAns (w.heap.size+1) (flush L t++[.mk 4 A[sh+1].s.tail.dropLast Kd]) sv (W.setCell ⟨r,1,none⟩ (.int .i64 ((sh:Int)+2))))∧MS r b cap (some ⟨b,0,none⟩) A e l w (sh+2) L t sv (W.setCell ⟨r,1,none⟩ (.int .i64 ((sh:Int)+2)))):=Lib.hid (fun W hbW=>by
          have hm9d:MS r b cap (some ⟨b,0,none⟩) A e l w sh L t sv W:=hm9.below hbW;have kk:Keep (fun g=>g=r) w9 (W.setCell ⟨r,1,none⟩ (.int .i64 ((sh+2:Nat):Int))):=(Keep.of_below (S:=fun g=>g=r) hbW).setCell (p:=⟨r,1,none⟩) (Or.inl rfl) _;have hm10:=hm9d.go (sh+2);have fr10:=fr9.keep kk (fun j hj=>Or.inl (by omega));have hs10:=Nat.le_trans k9.size kk.size;rw[show((sh+2:Nat):Int)=(sh:Int)+2 from by omega]at hm10 fr10 hs10;exact⟨add_any (w.heap.size+1) w8.heap.size sv L t (.mk 4 A[sh+1].s.tail.dropLast Kd) (.slice ak Kd.length ck) _ hm10.gt fr10 HM8.out.gt.lt HM8.out.own hs10 (by omega),hm10⟩)
         have HM9:=Lib.hid hm9;generalize S A[sh+1].s.tail.dropLast=Z at *;generalize S A[sh+1].s=Y at *;generalize A[sh+1].s=X at *;have p0':=fun d os=>cell_regrown (w:=w9) q0' d os
         have p1':=fun d os=>cell_regrown (w:=w9) q1' d os
         have ps':=fun d os=>cell_regrown (w:=w9) s1' d os
         clear fr9 rd9 k9 hm9 HM8 HIn z0' k19 c19 hcd hlong;go_wp2_with fail;refine wp_region_quiet_below (by kernel_rfl) (by kernel_rfl) ?_
         repeat (go_big_quiet_step (fail))
         refine wpQuiet_nil ?_;intro wd hwd;obtain⟨⟨dq2,osq2⟩,hwd'⟩:=hwd;subst hwd';have hbd:=below_regrown w9 dq2 osq2;have hm9d:=HM9.out.below hbd;have HAd2:=Lib.hid (HAd.out _ hbd);generalize grow (redrawn w9 dq2) osq2=wd at *;have q1'':wd.cell? ⟨r,1,none⟩=some (.int .i64 (sh:Int)):=cell_at hm9d.rd.1 1;have f1'':wd.frozen? ⟨r,1,none⟩=false:=frozen_at hm9d.rd.1 1;clear hbd hm9d HM9 HAd p0' p1' ps' q0' q1' s1' f1' g5;go_upto_region 16 with fail;have hsl2:∀(w:World),Sem.run Tryz.prog (Instr.slice 9 (Value.string Y) (some (Value.int IntKind.i64 1)) (some (Value.int IntKind.i64 ((Y.size:Int)-1))) none) w=Result.ok (Value.string Z) w:=hsl;clear hsl HE HL HEnds HS0 hb1;go_wp2_with fail;refine HAd2.out.1.mono ?_;rintro x w11 ⟨rfl,sv11,g11,o11,k11⟩;have HM11:=Lib.hid (HAd2.out.2.gath g11 k11);clear g11 o11 k11 HAd2 q1'' f1'' hsl2 hX2 hX3;go_wp2_with fail;go_roundw
         case rel=>exact⟨sh+2,_,[],sv11,HM11,HA9⟩
         case measure=>rw[HM11.out.rd.atOf,hat];omega
        ·have HA9:=Lib.hid (HA.out.open_no HG.out hk hbe h3 HST.out HSH.out hb)
         rw[decide_eq_false hb]at HB;clear y0 HE HL hb;go_wp2_with fail;refine HB.out.mono ?_;rintro x w8 ⟨rfl,hb8⟩;have HM8:=Lib.hid (HM7.out.below hb8);have x8:=(Keep.of_below (S:=fun _=>False) hb8).at HX7.out (fun h=>h);have y1':w8.cell? ⟨n,1,none⟩=some (.string (S A[k].s)):=cell_at x8 1;have HAd:=Lib.hid (addText_any (w.heap.size+1) sv L t A[k].s w8 HM8.out.gt (by have:=HA9.out.bnd;rw[List.length_append]at this;omega));clear hb8 x8 y0' y1 y2 y3 z0 z1 HB HM7 HX7;go_wp2_with fail;refine HAd.out.mono ?_;rintro x w9 ⟨rfl,g9,k9⟩;have HM9:=Lib.hid (HM8.out.gath g9 k9);clear g9 k9 HAd HM8 y1';go_wp2_with fail;go_roundw
         case rel=>exact⟨k+1,_,_,sv,HM9,HA9⟩
         case measure=>rw[HM9.out.rd.atOf,hat];omega
       ·have HA9:=Lib.hid (HA.out.other HG.out hk hbe ⟨h1,h2,h3⟩)
        have HAd:=Lib.hid (addText_any (w.heap.size+1) sv L t A[k].s w7 HM7.out.gt (by have:=HA9.out.bnd;rw[List.length_append]at this;omega));have K1:((A[k].kind:Int)==1)=false:=by rw[Bool.eq_false_iff];simp;omega
        have K2:((A[k].kind:Int)==2)=false:=by rw[Bool.eq_false_iff];simp;omega
        have K3:((A[k].kind:Int)==3)=false:=by rw[Bool.eq_false_iff];simp;omega
        clear h1 h2 h3;generalize (A[k].kind:Int)=K at *;go_wp2_with fail;refine HAd.out.mono ?_;rintro x w9 ⟨rfl,g9,k9⟩;have HM9:=Lib.hid (HM7.out.gath g9 k9);clear g9 k9 HAd HM7 y0 y1;go_wp2_with fail;go_roundw
        case rel=>exact⟨k+1,_,_,sv,HM9,HA9⟩
        case measure=>rw[HM9.out.rd.atOf,hat];omega
   ·go_upto_region 2 with fail
    refine wp_region_quiet_below (by kernel_rfl) (by kernel_rfl) ?_
    repeat (go_big_quiet_step (first |(go_at_call 174;exact HEn.out _ _)))
    refine wpQuiet_nil ?_;intro w5 hw5;obtain⟨⟨dq,osq⟩,hw5'⟩:=hw5;subst hw5';have HM5:=Lib.hid (HM.out.below (below_regrown wr dq osq));have HAl:=Lib.hid (allG_any (w.heap.size+1) sv L t _ HM5.out.gt (by have:=HA.out.bnd;omega));clear HEn p0 p1 p2 p3 q0 q1 b0 b1 HM;go_wp2_with fail;refine HAl.out.mono ?_;rintro x w9 ⟨sv9,rfl,g9,o9,k9⟩;have HR:=Lib.hid (HM5.out.done HG.out hi HA.out (Or.inr ⟨hk,hbe⟩) g9 k9);clear g9 o9 k9 HM5 HAl;go_wp2_with fail;go_ret;exact HR.out
  ·have d1:decide ((k:Int)<(A.length:Int))=false:=decide_eq_false (by omega)
   have hkl':k=A.length:=by omega
   go_upto_region 2 with fail;refine wp_region_quiet_below (by kernel_rfl) (by kernel_rfl) ?_
   repeat (go_big_quiet_step (fail))
   refine wpQuiet_nil ?_;intro w5 hw5;obtain⟨⟨dq,osq⟩,hw5'⟩:=hw5;subst hw5';have HM5:=Lib.hid (HM.out.below (below_regrown wr dq osq));have HAl:=Lib.hid (allG_any (w.heap.size+1) sv L t _ HM5.out.gt (by have:=HA.out.bnd;omega));clear p0 p1 p2 p3 q0 q1 b0 b1 HM;go_wp2_with fail;refine HAl.out.mono ?_;rintro x w9 ⟨sv9,rfl,g9,o9,k9⟩;have HR:=Lib.hid (HM5.out.done HG.out hi HA.out (Or.inl hkl') g9 k9);clear g9 o9 k9 HM5 HAl;go_wp2_with fail;go_ret;exact HR.out
end Sp
end Go.Proofs.YtpakjdgddomdjabGreatDoor
