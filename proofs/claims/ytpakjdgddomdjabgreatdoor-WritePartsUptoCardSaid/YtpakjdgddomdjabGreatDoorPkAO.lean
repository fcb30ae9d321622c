import Derived.Test.YtpakjdgddomdjabGreatDoorPkO
import Derived.OwnWalkIn
import Derived.TacticsInMore
import Derived.BigRegion
import Derived.Shelf.RegionOpen
import Derived.WalkKit
import Derived.BigRegionIn
import Derived.Sort.CutIn
import Derived.Test.YtpakjdgddomdjabGreatDoorSiRead
import Derived.Test.YtpakjdgddomdjabGreatDoorPkG
import Derived.Test.YtpakjdgddomdjabGreatDoorPkE
import Derived.Test.YtpakjdgddomdjabGreatDoorPkP
import Derived.Test.YtpakjdgddomdjabGreatDoorPkQ
import Derived.Test.YtpakjdgddomdjabGreatDoorPkR
set_option linter.unusedVariables false
namespace Go.Proofs.YtpakjdgddomdjabGreatDoor
namespace Sp
open Go.RowKit Go.Shelf
open Tk (S)
open Cm (cell_at alloc_at alloc_new lt_of_at frozen_at set_at Keep)
attribute [local go_sem] Oper.semAt_some
theorem region_inv {F:Fence} {n:Nat} {P:Program} {ops:Array Oper} {Q:Exit→Act→World→Prop} {id:Nat} {a:Act} {w:World} (Inv:Array Bool→Act→World→Prop) (hm:P.follows .mixedOrders=true)
  (h0:Inv (Array.replicate ops.size false) a w.drew)
  (hstep:∀(listed:Array Bool) (a:Act) (w:World) (i:Nat),Inv listed a w→i∈Region.ready .any ops listed→wpOpIn F n P ops Q i (fun a' w'=>Inv (listed.setIfInBounds i true) a' w') a w)
  (hdone:∀(listed:Array Bool) (a:Act) (w:World),Inv listed a w→Region.ready .any ops listed=[]→Q .normal a w)
  (hrun:∀(listed:Array Bool) (a:Act) (w:World),Inv listed a w→listed.size=ops.size):(Code.region id ops true).wpIn F n P Q a w:=by
 have cnt:∀(listed:Array Bool) (i:Nat),i<listed.size→listed.getD i true=false→(listed.setIfInBounds i true).toList.count false<listed.toList.count false:=fun listed i hi hg=>by
  have hgi:listed.toList[i]? = some false:=by
   rw[Array.getElem?_toList,Array.getElem?_eq_getElem hi]
   simpa [Array.getD,hi]using hg
  rw[Array.toList_setIfInBounds];obtain⟨hl,hv⟩:=List.getElem?_eq_some_iff.1 hgi;rw[List.count_set hl,hv];have:0<listed.toList.count false:=List.count_pos_iff.2 (by rw[←hv];exact List.getElem_mem hl);have e1:((false:Bool)==false)=true:=rfl;have e2:((true:Bool)==false)=false:=rfl;rw[e1,e2,if_pos rfl,if_neg (by simp)];omega
 have key:∀(fuel:Nat) (listed:Array Bool) (a:Act) (w:World),Inv listed a w→listed.toList.count false≤fuel→wpAnyIn F n P .any ops Q fuel listed a w:=by
  intro fuel;induction fuel with
  |zero=>
   intro listed a w h hc
   have hr:Region.ready .any ops listed=[]:=by
    refine List.eq_nil_iff_forall_not_mem.2 (fun i hi=>?_);obtain⟨h1,o,h2,_⟩:=mem_ready.1 hi;have:=cnt listed i (by rw[hrun _ _ _ h];exact(Array.getElem?_eq_some_iff.1 h2).1) h1;omega
   exact⟨hr,hdone _ _ _ h hr⟩
  |succ fuel ih=>
   intro listed a w h hc;refine⟨fun hr=>hdone _ _ _ h hr,fun i hi=>?_⟩;obtain⟨h1,o,h2,_⟩:=mem_ready.1 hi;have hlt:=cnt listed i (by rw[hrun _ _ _ h];exact(Array.getElem?_eq_some_iff.1 h2).1) h1;exact wpOpIn_mono (fun a' w' h'=>ih _ a' w' h' (by omega)) (hstep listed a w i h hi)
 refine wpIn_region_any hm (key _ _ _ _ h0 ?_);simp
theorem ready_nil {md:Region.Mode} {ops:Array Oper} {listed:Array Bool} (hr:Region.ready md ops listed=[]) (k:Nat) (hk:k<ops.size) (hL:∀j,j<k→listed.getD j false=true)
  (hd:∀o,ops[k]? = some o→o.after.toList.all (fun e=>!Region.binds md e||decide (e.on<k))=true):listed.getD k true=true:=by
 cases hb:listed.getD k true with
 |true=>rfl
 |false=>
  have hm:=(mem_ready (md:=md) (ops:=ops)).2 ⟨hb,_,Array.getElem?_eq_getElem hk,fun e he hbd=>by
   have h:=hd _ (Array.getElem?_eq_getElem hk);rw[List.all_eq_true]at h;have h1:=h e (Array.mem_toList_iff.2 he);rw[hbd]at h1;exact hL _ (by simpa using h1)⟩
  rw[hr]at hm;cases hm
structure Inv4 (A:List Pc) (LB SB HB bb b x1 cap:Nat) (x2:Pc) (us:List Value) (W:World) (c5 c6 c7 c8:Value) (listed:Array Bool) (a:Act) (w:World):Prop where
 size:listed.size=12
 act:∃t13 t14 t15 t16 t17 t18 t19 t20 t21 t22:Value,a={tmps:=#[.slice (some ⟨b,0,none⟩) A.length cap,.pointer (some ⟨LB,0,none⟩),.pointer (some ⟨SB,0,none⟩),.pointer (some ⟨HB,0,none⟩),.int .i64 x1,c5,c6,c7,c8,.slice (some ⟨b,0,none⟩) A.length cap,.func (.func 219) #[] #[.pointer (some ⟨bb,0,none⟩)],.int .i64 x1,.agg #[.int .i64 x2.kind,.string (S x2.s),.int .i64 0,.int .i64 0],t13,t14,t15,t16,t17,t18,t19,t20,t21,t22]++us.toArray,defers:=[]}∧
  (listed.getD 0 true=true→t13=.slice (some ⟨b,0,none⟩) A.length cap)∧(listed.getD 1 true=true→t14=.int .i64 x1)∧(listed.getD 2 true=true→t15=.slice (some ⟨b,0,none⟩) A.length cap)∧(listed.getD 3 true=true→t16=.int .i64 x1)∧
  (listed.getD 4 true=true→t17=.int .i64 (nxt 2 A (x1+1):Nat))∧(listed.getD 5 true=true→t18=.int .i64 (nxt 4 A (x1+1):Nat))∧(listed.getD 6 true=true→t19=.pointer (some ⟨b,x1*4,none⟩))∧(listed.getD 7 true=true→t20=.pointer (some ⟨b,x1*4+2,none⟩))∧
  (listed.getD 9 true=true→t21=.pointer (some ⟨b,x1*4,none⟩))∧(listed.getD 10 true=true→t22=.pointer (some ⟨b,x1*4+3,none⟩))
 world:(listed.getD 8 true=false→listed.getD 11 true=false→w=W.drew)∧(listed.getD 8 true=true→listed.getD 11 true=false→w=(W.setCell ⟨b,x1*4+2,none⟩ (.int .i64 (nxt 2 A (x1+1):Nat))).drew)∧(listed.getD 11 true=true→w=((W.setCell ⟨b,x1*4+2,none⟩ (.int .i64 (nxt 2 A (x1+1):Nat))).setCell ⟨b,x1*4+3,none⟩ (.int .i64 (nxt 4 A (x1+1):Nat))).drew)
 order:listed.getD 11 true=true→listed.getD 8 true=true
set_option maxHeartbeats 6400000 in
set_option maxRecDepth 100000 in
theorem lookAhead_any (A:List Pc) (hA:A.length≤1000000) (b cap:Nat) (ao:Option Addr) (w:World) (hao:A=[]∨ao=some ⟨b,0,none⟩) (hp:Pcl w b A A.length) (hbl:A=[]∨b < w.heap.size) :
   Calls Tryz.prog 173 #[.slice ao A.length cap] w fun e w'=>e = .returned (.tuple #[])∧Pcl w' b A 0∧Keep (fun g=>g=b) w w':=by
 have HBk:=Lib.hid (fun ao n c w=>backward_any ao n c w);refine (callsIn_wide (n:=5)).1 ?_;refine callsIn_of_wp_marks Tryz.func173 (by first | rfl | kernel_rfl) trivial ?_ rfl;simp only [Tryz.ntmps173,List.size_toArray,List.length_cons,List.length_nil,Nat.reduceAdd,Nat.reduceSub,Array.replicate_succ,Array.replicate_zero,List.push_toArray,List.append_toArray,List.nil_append,List.cons_append]
 gi_wp2_with (refine ⟨trivial,?_⟩;gi_at_call 205;refine (callsIn_wide.2 (HBk.out _ _ _ _)).mono ?_;rintro e w1 ⟨rfl,rfl⟩)
 gi_cut [2,3] from 5 (fun s2 s3 wx=>∃ SB HB:Nat,s2 = .pointer (some ⟨SB,0,none⟩)∧s3 = .pointer (some ⟨HB,0,none⟩)∧Hid (wx.heap[w.heap.size]? = some (.cells #[.slice ao A.length cap] 154 (0,0))∧wx.heap[SB]? = some (.cells #[.int .i64 (A.length:Nat)] 3 (0,0))∧wx.heap[HB]? = some (.cells #[.int .i64 (A.length:Nat)] 3 (0,0))∧w.heap.size < SB∧w.heap.size < HB∧SB≠HB∧Keep (fun _=>False) w wx))
 case first =>
   have HA0:=Lib.hid (alloc_at (alloc_at (alloc_new w (.cells #[.slice ao A.length cap] 154)) (.cells #[.int .i64 (A.length:Nat)] 3)) (.cells #[.int .i64 (A.length:Nat)] 3));have HA1:=Lib.hid (alloc_at (alloc_new (w.alloc (.cells #[.slice ao A.length cap] 154)) (.cells #[.int .i64 (A.length:Nat)] 3)) (.cells #[.int .i64 (A.length:Nat)] 3));have HA2:=Lib.hid (alloc_new ((w.alloc (.cells #[.slice ao A.length cap] 154)).alloc (.cells #[.int .i64 (A.length:Nat)] 3)) (.cells #[.int .i64 (A.length:Nat)] 3));have HK0:=Lib.hid ((((Keep.refl (fun _=>False) w).alloc (.cells #[.slice ao A.length cap] 154)).alloc (.cells #[.int .i64 (A.length:Nat)] 3)).alloc (.cells #[.int .i64 (A.length:Nat)] 3)).drew;rw [World.size_alloc] at HA1;rw [World.size_alloc,World.size_alloc] at HA2;clear hao hp hbl hA
   gi_region
   · gi_wp2
     gi_meet
     refine ⟨_,_,rfl,rfl,?_⟩;exact Lib.hid (And.intro HA0.out (And.intro HA1.out (And.intro HA2.out (And.intro (by omega) (And.intro (by omega) (And.intro (by omega) HK0.out))))))
   · gi_wp2
     gi_meet
     refine ⟨_,_,rfl,rfl,?_⟩;exact Lib.hid (And.intro HA0.out (And.intro HA2.out (And.intro HA1.out (And.intro (by omega) (And.intro (by omega) (And.intro (by omega) HK0.out))))))
 case rest =>
   obtain ⟨SB,HB,rfl,rfl,HX⟩:=hcut;obtain ⟨x0,x1,x2,x3,x4,x5,x6⟩:=HX.out;have cLB:wc.cell? ⟨w.heap.size,0,none⟩=some (.slice ao A.length cap):=cell_at x0 0
   gi_wp2_with (refine ⟨trivial,?_⟩;gi_at_call 205;refine (callsIn_wide.2 (HBk.out _ _ _ _)).mono ?_;rintro e w1 ⟨rfl,rfl⟩)
   have hL0:=alloc_at x0 (.cells #[.slice ao A.length cap] 154);have hL1:=alloc_at x1 (.cells #[.slice ao A.length cap] 154);have hL2:=alloc_at x2 (.cells #[.slice ao A.length cap] 154);have hL3:=alloc_new wc (.cells #[.slice ao A.length cap] 154);have hP4:Keep (fun _=>False) w (wc.alloc (.cells #[.slice ao A.length cap] 154)):=x6.alloc _;clear x0 HX cLB;generalize wc.alloc (.cells #[.slice ao A.length cap] 154)=w4 at *;have hbb:w.heap.size≤wc.heap.size:=x6.size;have hbS:SB < wc.heap.size:=lt_of_at x1;have hbH:HB < wc.heap.size:=lt_of_at x2;clear x1 x2 x6;generalize wc.heap.size=bb at *;generalize hq0:w.heap.size=LB at *
   have hpl:Pcl w4 b A A.length:=by
     rcases hp with h | ⟨cur,h1,h2⟩
     · exact Or.inl h
     · exact Or.inr ⟨cur,hP4.at h1 (fun h=>h),h2⟩
   have hI0:IL A b LB SB HB bb cap ao w [] w4:=⟨hL0,hL3,⟨A.length,rfl,hpl,by rw [nxt_end];exact hL1,by rw [nxt_end];exact hL2⟩,hP4.mono (fun _ _ h=>h.elim)⟩;have hw4:LB≤w4.heap.size:=by rw [← hq0];exact hP4.size
   refine for_goes (α:=Nat × Pc) (K:=kL) (gf:=219) (lb:=#[.pointer (some ⟨bb,0,none⟩)]) (n0:=LB) (n1:=0) rfl (enters_of Tryz.func219 (by kernel_rfl) rfl) hw4 (Nat.zero_le _)
     (back_goes A hA b bb cap LB 0 ao w4 hw4) (fun _=>rfl) (IL A b LB SB HB bb cap ao w) (fun pre W h=>⟨h.bb,hao,by obtain ⟨m,h1,h2,_⟩:=h.pc;exact ⟨m,h1,h2⟩⟩) (fun pre X Y h m=>h.mine (Nat.le_of_eq hq0) m) hI0
     (fun x a' _=>a'={ tmps:=#[.slice ao A.length cap,.pointer (some ⟨LB,0,none⟩),.pointer (some ⟨SB,0,none⟩),.pointer (some ⟨HB,0,none⟩),.int .i64 x.1,u5,u6,u7,u8,.slice ao A.length cap,.func (.func 219) #[] #[.pointer (some ⟨bb,0,none⟩)],.int .i64 x.1,.agg #[.int .i64 x.2.kind,.string (S x.2.s),.int .i64 0,.int .i64 0],u13,u14,u15,u16,u17,u18,u19,u20,u21,u22,u23,u24,u25,u26,u27,u28,u29,u30,u31,u32,u33],defers:=[] })
     (fun _ _ _ _ h _=>h) ?assign ?body ?done
   case assign =>
     clear hI0 hL0 hL1 hL2 hL3 hpl hP4;rintro l pre x W R hI hR;have HI:=Lib.hid hI;have HR:=Lib.hid hR;clear hI hR;simp only [encB]
     gi_wp2
     exact HR.out _ _ (bds_refl _) HI.out rfl
   case body =>
     clear hI0 hL0 hL1 hL2 hL3 hpl hP4;rintro l pre x a' W hI rfl hpre;obtain ⟨m,hm,hpc,hS,hH⟩:=hI.pc;obtain ⟨hm0,hx⟩:=bk_x hpre hm;obtain ⟨i,rfl⟩:∃ i,m=i+1:=⟨m - 1,by omega⟩;obtain ⟨x1,x2⟩:=x;obtain rfl:x1=i:=by simpa using hx
     have hi:x1 < A.length:=by omega
     have hne:A≠[]:=fun e=>by rw [e] at hi;exact absurd hi (Nat.not_lt_zero _)
     have hao':=hao.resolve_left hne;have HI:=Lib.hid hI;obtain ⟨cur,k1,k2⟩:=hpc.resolve_left hne;obtain ⟨p0,p1,p2,p3⟩:=k2 x1 hi;rw [if_pos (by omega)] at p2 p3;have cL:W.cell? ⟨LB,0,none⟩=some (.slice ao A.length cap):=cell_at hI.lb 0;have cS:W.cell? ⟨SB,0,none⟩=some (.int .i64 (nxt 2 A (x1+1):Nat)):=cell_at hS 0;have cH:W.cell? ⟨HB,0,none⟩=some (.int .i64 (nxt 4 A (x1+1):Nat)):=cell_at hH 0;have r0:W.cell? ⟨b,x1*4,none⟩=some (.int .i64 A[x1].kind):=(cell_at k1 _).trans p0;have r2:W.cell? ⟨b,x1*4+2,none⟩=some (.int .i64 0):=(cell_at k1 _).trans p2;have r3:W.cell? ⟨b,x1*4+3,none⟩=some (.int .i64 0):=(cell_at k1 _).trans p3;have fb:∀ j,W.frozen? ⟨b,j,none⟩=false:=fun j=>frozen_at k1 j
     have fS:W.frozen? ⟨SB,0,none⟩=false:=frozen_at hS 0;have fH:W.frozen? ⟨HB,0,none⟩=false:=frozen_at hH 0;have lS:=lt_of_at hS;have lH:=lt_of_at hH;have lb:=lt_of_at k1;have hge:(0:Int)≤(x1:Int):=by omega
     have hlt:(x1:Int) < (A.length:Int):=by omega
     have hblt:b < LB:=hbl.resolve_left hne;have n1:b≠SB:=by omega
     have n2:b≠HB:=by omega
     have n3:SB≠HB:=by omega
     have n4:b≠LB:=by omega
     have n5:b≠bb:=by omega
     have HKP:=Lib.hid (And.intro k1 p3);obtain ⟨kd,hkd⟩:∃ kd,A[x1].kind=kd:=⟨_,rfl⟩;rw [hkd] at r0;subst hao';clear hI hpc hS hH k1 k2 p0 p1 p2 p3 hx hpre
     gi_wp2
     gi_cut [] from 13 (fun wx=>wx=((W.setCell ⟨b,x1*4+2,none⟩ (.int .i64 (nxt 2 A (x1+1):Nat))).setCell ⟨b,x1*4+3,none⟩ (.int .i64 (nxt 4 A (x1+1):Nat))).drew)
     case first =>
       have hmx:Tryz.prog.follows .mixedOrders=true:=by kernel_rfl
       clear HI HBk hm hm0 hblt n3 hkd r0 lS lH fS fH hp;refine region_inv (Inv4 A LB SB HB bb b x1 cap x2 [u23,u24,u25,u26,u27,u28,u29,u30,u31,u32,u33] W u5 u6 u7 u8) hmx ?h0 ?hstep ?hdone (fun _ _ _ h=>h.size)
       case h0 =>
         exact ⟨rfl,⟨u13,u14,u15,u16,u17,u18,u19,u20,u21,u22,rfl,fun h=>(by simp at h),fun h=>(by simp at h),fun h=>(by simp at h),fun h=>(by simp at h),fun h=>(by simp at h),fun h=>(by simp at h),fun h=>(by simp at h),fun h=>(by simp at h),fun h=>(by simp at h),fun h=>(by simp at h)⟩,⟨fun _ _=>rfl,fun h=>(by simp at h),fun h=>(by simp at h)⟩,fun h=>(by simp at h)⟩
       case hdone =>
         rintro listed a w5 ⟨hsz,⟨t13,t14,t15,t16,t17,t18,t19,t20,t21,t22,rfl,_⟩,hw,hord⟩ hr
         have gt:∀ k,k < 12→listed.getD k true=true→listed.getD k false=true:=fun k hk h=>by
           have hk':k < listed.size:=by omega
           simpa [Array.getD,hk'] using h
         have l0:listed.getD 0 true=true:=ready_nil hr 0 (by decide) (fun k hk=>by
             exact absurd hk (Nat.not_lt_zero _)
             ) (fun o ho=>by cases ho;rfl)
         have l1:listed.getD 1 true=true:=ready_nil hr 1 (by decide) (fun k hk=>by
             rcases (show k=0 by omega) with rfl;all_goals first | exact gt 0 (by omega) l0
             ) (fun o ho=>by cases ho;rfl)
         have l2:listed.getD 2 true=true:=ready_nil hr 2 (by decide) (fun k hk=>by
             rcases (show k=0∨k=1 by omega) with rfl | rfl
             all_goals first | exact gt 0 (by omega) l0 | exact gt 1 (by omega) l1
             ) (fun o ho=>by cases ho;rfl)
         have l3:listed.getD 3 true=true:=ready_nil hr 3 (by decide) (fun k hk=>by
             rcases (show k=0∨k=1∨k=2 by omega) with rfl | rfl | rfl
             all_goals first | exact gt 0 (by omega) l0 | exact gt 1 (by omega) l1 | exact gt 2 (by omega) l2
             ) (fun o ho=>by cases ho;rfl)
         have l4:listed.getD 4 true=true:=ready_nil hr 4 (by decide) (fun k hk=>by
             rcases (show k=0∨k=1∨k=2∨k=3 by omega) with rfl | rfl | rfl | rfl
             all_goals first | exact gt 0 (by omega) l0 | exact gt 1 (by omega) l1 | exact gt 2 (by omega) l2 | exact gt 3 (by omega) l3
             ) (fun o ho=>by cases ho;rfl)
         have l5:listed.getD 5 true=true:=ready_nil hr 5 (by decide) (fun k hk=>by
             rcases (show k=0∨k=1∨k=2∨k=3∨k=4 by omega) with rfl | rfl | rfl | rfl | rfl
             all_goals first | exact gt 0 (by omega) l0 | exact gt 1 (by omega) l1 | exact gt 2 (by omega) l2 | exact gt 3 (by omega) l3 | exact gt 4 (by omega) l4
             ) (fun o ho=>by cases ho;rfl)
         have l6:listed.getD 6 true=true:=ready_nil hr 6 (by decide) (fun k hk=>by
             rcases (show k=0∨k=1∨k=2∨k=3∨k=4∨k=5 by omega) with rfl | rfl | rfl | rfl | rfl | rfl
             all_goals first | exact gt 0 (by omega) l0 | exact gt 1 (by omega) l1 | exact gt 2 (by omega) l2 | exact gt 3 (by omega) l3 | exact gt 4 (by omega) l4 | exact gt 5 (by omega) l5
             ) (fun o ho=>by cases ho;rfl)
         have l7:listed.getD 7 true=true:=ready_nil hr 7 (by decide) (fun k hk=>by
             rcases (show k=0∨k=1∨k=2∨k=3∨k=4∨k=5∨k=6 by omega) with rfl | rfl | rfl | rfl | rfl | rfl | rfl
             all_goals first | exact gt 0 (by omega) l0 | exact gt 1 (by omega) l1 | exact gt 2 (by omega) l2 | exact gt 3 (by omega) l3 | exact gt 4 (by omega) l4 | exact gt 5 (by omega) l5 | exact gt 6 (by omega) l6
             ) (fun o ho=>by cases ho;rfl)
         have l8:listed.getD 8 true=true:=ready_nil hr 8 (by decide) (fun k hk=>by
             rcases (show k=0∨k=1∨k=2∨k=3∨k=4∨k=5∨k=6∨k=7 by omega) with rfl | rfl | rfl | rfl | rfl | rfl | rfl | rfl
             all_goals first | exact gt 0 (by omega) l0 | exact gt 1 (by omega) l1 | exact gt 2 (by omega) l2 | exact gt 3 (by omega) l3 | exact gt 4 (by omega) l4 | exact gt 5 (by omega) l5 | exact gt 6 (by omega) l6 | exact gt 7 (by omega) l7
             ) (fun o ho=>by cases ho;rfl)
         have l9:listed.getD 9 true=true:=ready_nil hr 9 (by decide) (fun k hk=>by
             rcases (show k=0∨k=1∨k=2∨k=3∨k=4∨k=5∨k=6∨k=7∨k=8 by omega) with rfl | rfl | rfl | rfl | rfl | rfl | rfl | rfl | rfl
             all_goals first | exact gt 0 (by omega) l0 | exact gt 1 (by omega) l1 | exact gt 2 (by omega) l2 | exact gt 3 (by omega) l3 | exact gt 4 (by omega) l4 | exact gt 5 (by omega) l5 | exact gt 6 (by omega) l6 | exact gt 7 (by omega) l7 | exact gt 8 (by omega) l8
             ) (fun o ho=>by cases ho;rfl)
         have l10:listed.getD 10 true=true:=ready_nil hr 10 (by decide) (fun k hk=>by
             rcases (show k=0∨k=1∨k=2∨k=3∨k=4∨k=5∨k=6∨k=7∨k=8∨k=9 by omega) with rfl | rfl | rfl | rfl | rfl | rfl | rfl | rfl | rfl | rfl
             all_goals first | exact gt 0 (by omega) l0 | exact gt 1 (by omega) l1 | exact gt 2 (by omega) l2 | exact gt 3 (by omega) l3 | exact gt 4 (by omega) l4 | exact gt 5 (by omega) l5 | exact gt 6 (by omega) l6 | exact gt 7 (by omega) l7 | exact gt 8 (by omega) l8 | exact gt 9 (by omega) l9
             ) (fun o ho=>by cases ho;rfl)
         have l11:listed.getD 11 true=true:=ready_nil hr 11 (by decide) (fun k hk=>by
             rcases (show k=0∨k=1∨k=2∨k=3∨k=4∨k=5∨k=6∨k=7∨k=8∨k=9∨k=10 by omega) with rfl | rfl | rfl | rfl | rfl | rfl | rfl | rfl | rfl | rfl | rfl
             all_goals first | exact gt 0 (by omega) l0 | exact gt 1 (by omega) l1 | exact gt 2 (by omega) l2 | exact gt 3 (by omega) l3 | exact gt 4 (by omega) l4 | exact gt 5 (by omega) l5 | exact gt 6 (by omega) l6 | exact gt 7 (by omega) l7 | exact gt 8 (by omega) l8 | exact gt 9 (by omega) l9 | exact gt 10 (by omega) l10
             ) (fun o ho=>by cases ho;rfl)
         have hfin:=hw.2.2 l11;subst hfin
         gi_wp2
         gi_meet
         rfl
       case hstep =>
         have lLB:LB < W.heap.size:=block_lt_of_cell cL;have lSB:SB < W.heap.size:=block_lt_of_cell cS;have lHB:HB < W.heap.size:=block_lt_of_cell cH;rintro listed a w5 i ⟨hsz,⟨t13,t14,t15,t16,t17,t18,t19,t20,t21,t22,rfl,v0,v1,v2,v3,v4,v5,v6,v7,v9,v10⟩,hw,hord⟩ hr;obtain ⟨hun,o,ho,hdep⟩:=mem_ready.1 hr;have hi12:i < 12:=(Array.getElem?_eq_some_iff.1 ho).1
         have gd:∀ k,listed.getD k false=true→listed.getD k true=true:=fun k h=>by
           by_cases hk:k < listed.size
           · simpa [Array.getD,hk] using h
           · simp [Array.getD,hk] at h
         have gn:∀ j k,j≠k→(listed.setIfInBounds j true).getD k true=listed.getD k true:=fun j k h=>getD_set_ne true h
         have gs:∀ j,(listed.setIfInBounds j true).size=12:=fun j=>by simpa using hsz
         have gy:∀ j,(listed.setIfInBounds j true).getD j true=true:=fun j=>by
           by_cases hj:j < listed.size <;> simp [Array.getD,hj]
         have hkw:Keep (fun g=>g=b) W w5:=by
           cases h11:listed.getD 11 true with
           | true=>rw [hw.2.2 h11];exact (((Keep.refl (fun g=>g=b) W).setCell (p:=⟨b,x1*4+2,none⟩) (Or.inl rfl) _).setCell (p:=⟨b,x1*4+3,none⟩) (Or.inl rfl) _).drew
           | false =>
             cases h8:listed.getD 8 true with
             | true=>rw [hw.2.1 h8 h11];exact ((Keep.refl (fun g=>g=b) W).setCell (p:=⟨b,x1*4+2,none⟩) (Or.inl rfl) _).drew
             | false=>rw [hw.1 h8 h11];exact (Keep.refl (fun g=>g=b) W).drew
         have dL:w5.cell? ⟨LB,0,none⟩=some (.slice (some ⟨b,0,none⟩) A.length cap):=(hkw.cell (p:=⟨LB,0,none⟩) lLB (Ne.symm n4)).trans cL;have dS:w5.cell? ⟨SB,0,none⟩=some (.int .i64 (nxt 2 A (x1+1):Nat)):=(hkw.cell (p:=⟨SB,0,none⟩) lSB (Ne.symm n1)).trans cS;have dH:w5.cell? ⟨HB,0,none⟩=some (.int .i64 (nxt 4 A (x1+1):Nat)):=(hkw.cell (p:=⟨HB,0,none⟩) lHB (Ne.symm n2)).trans cH;have HU:=Lib.hid hun;have HDp:=Lib.hid hdep;have HW:=Lib.hid hw;have HO:=Lib.hid hord;have HV:=Lib.hid (And.intro v0 (And.intro v1 (And.intro v2 (And.intro v3 (And.intro v4 (And.intro v5 (And.intro v6 (And.intro v7 (And.intro v9 v10)))))))));have HN:=Lib.hid gn;have HGS:=Lib.hid gs;have HGY:=Lib.hid gy;have HGD:=Lib.hid gd;have HOo:=Lib.hid ho;clear hr hkw cL cS cH lLB lSB lHB hun hdep hw hord v0 v1 v2 v3 v4 v5 v6 v7 v9 v10 gn gs gy gd ho;rcases (show i=0∨i=1∨i=2∨i=3∨i=4∨i=5∨i=6∨i=7∨i=8∨i=9∨i=10∨i=11 by omega) with rfl | rfl | rfl | rfl | rfl | rfl | rfl | rfl | rfl | rfl | rfl | rfl
         · -- 0
           refine wpOpIn_step rfl (fun K' hK=>?_);go_simp;refine hK _ _ ?_;obtain ⟨v0,v1,v2,v3,v4,v5,v6,v7,v9,v10⟩:=HV.out;exact ⟨HGS.out 0,⟨_,t14,t15,t16,t17,t18,t19,t20,t21,t22,rfl,fun _=>rfl,fun h=>v1 ((HN.out 0 1 (by decide)).symm.trans h),fun h=>v2 ((HN.out 0 2 (by decide)).symm.trans h),fun h=>v3 ((HN.out 0 3 (by decide)).symm.trans h),fun h=>v4 ((HN.out 0 4 (by decide)).symm.trans h),fun h=>v5 ((HN.out 0 5 (by decide)).symm.trans h),fun h=>v6 ((HN.out 0 6 (by decide)).symm.trans h),fun h=>v7 ((HN.out 0 7 (by decide)).symm.trans h),fun h=>v9 ((HN.out 0 9 (by decide)).symm.trans h),fun h=>v10 ((HN.out 0 10 (by decide)).symm.trans h)⟩,⟨fun h h'=>HW.out.1 ((HN.out 0 8 (by decide)).symm.trans h) ((HN.out 0 11 (by decide)).symm.trans h'),fun h h'=>HW.out.2.1 ((HN.out 0 8 (by decide)).symm.trans h) ((HN.out 0 11 (by decide)).symm.trans h'),fun h=>HW.out.2.2 ((HN.out 0 11 (by decide)).symm.trans h)⟩,fun h=>(HN.out 0 8 (by decide)).trans (HO.out ((HN.out 0 11 (by decide)).symm.trans h))⟩
         · -- 1
           refine wpOpIn_step rfl (fun K' hK=>?_);go_simp;refine hK _ _ ?_;obtain ⟨v0,v1,v2,v3,v4,v5,v6,v7,v9,v10⟩:=HV.out;exact ⟨HGS.out 1,⟨t13,_,t15,t16,t17,t18,t19,t20,t21,t22,rfl,fun h=>v0 ((HN.out 1 0 (by decide)).symm.trans h),fun _=>rfl,fun h=>v2 ((HN.out 1 2 (by decide)).symm.trans h),fun h=>v3 ((HN.out 1 3 (by decide)).symm.trans h),fun h=>v4 ((HN.out 1 4 (by decide)).symm.trans h),fun h=>v5 ((HN.out 1 5 (by decide)).symm.trans h),fun h=>v6 ((HN.out 1 6 (by decide)).symm.trans h),fun h=>v7 ((HN.out 1 7 (by decide)).symm.trans h),fun h=>v9 ((HN.out 1 9 (by decide)).symm.trans h),fun h=>v10 ((HN.out 1 10 (by decide)).symm.trans h)⟩,⟨fun h h'=>HW.out.1 ((HN.out 1 8 (by decide)).symm.trans h) ((HN.out 1 11 (by decide)).symm.trans h'),fun h h'=>HW.out.2.1 ((HN.out 1 8 (by decide)).symm.trans h) ((HN.out 1 11 (by decide)).symm.trans h'),fun h=>HW.out.2.2 ((HN.out 1 11 (by decide)).symm.trans h)⟩,fun h=>(HN.out 1 8 (by decide)).trans (HO.out ((HN.out 1 11 (by decide)).symm.trans h))⟩
         · -- 2
           refine wpOpIn_step rfl (fun K' hK=>?_);go_simp;refine hK _ _ ?_;obtain ⟨v0,v1,v2,v3,v4,v5,v6,v7,v9,v10⟩:=HV.out;exact ⟨HGS.out 2,⟨t13,t14,_,t16,t17,t18,t19,t20,t21,t22,rfl,fun h=>v0 ((HN.out 2 0 (by decide)).symm.trans h),fun h=>v1 ((HN.out 2 1 (by decide)).symm.trans h),fun _=>rfl,fun h=>v3 ((HN.out 2 3 (by decide)).symm.trans h),fun h=>v4 ((HN.out 2 4 (by decide)).symm.trans h),fun h=>v5 ((HN.out 2 5 (by decide)).symm.trans h),fun h=>v6 ((HN.out 2 6 (by decide)).symm.trans h),fun h=>v7 ((HN.out 2 7 (by decide)).symm.trans h),fun h=>v9 ((HN.out 2 9 (by decide)).symm.trans h),fun h=>v10 ((HN.out 2 10 (by decide)).symm.trans h)⟩,⟨fun h h'=>HW.out.1 ((HN.out 2 8 (by decide)).symm.trans h) ((HN.out 2 11 (by decide)).symm.trans h'),fun h h'=>HW.out.2.1 ((HN.out 2 8 (by decide)).symm.trans h) ((HN.out 2 11 (by decide)).symm.trans h'),fun h=>HW.out.2.2 ((HN.out 2 11 (by decide)).symm.trans h)⟩,fun h=>(HN.out 2 8 (by decide)).trans (HO.out ((HN.out 2 11 (by decide)).symm.trans h))⟩
         · -- 3
           refine wpOpIn_step rfl (fun K' hK=>?_);go_simp;refine hK _ _ ?_;obtain ⟨v0,v1,v2,v3,v4,v5,v6,v7,v9,v10⟩:=HV.out;exact ⟨HGS.out 3,⟨t13,t14,t15,_,t17,t18,t19,t20,t21,t22,rfl,fun h=>v0 ((HN.out 3 0 (by decide)).symm.trans h),fun h=>v1 ((HN.out 3 1 (by decide)).symm.trans h),fun h=>v2 ((HN.out 3 2 (by decide)).symm.trans h),fun _=>rfl,fun h=>v4 ((HN.out 3 4 (by decide)).symm.trans h),fun h=>v5 ((HN.out 3 5 (by decide)).symm.trans h),fun h=>v6 ((HN.out 3 6 (by decide)).symm.trans h),fun h=>v7 ((HN.out 3 7 (by decide)).symm.trans h),fun h=>v9 ((HN.out 3 9 (by decide)).symm.trans h),fun h=>v10 ((HN.out 3 10 (by decide)).symm.trans h)⟩,⟨fun h h'=>HW.out.1 ((HN.out 3 8 (by decide)).symm.trans h) ((HN.out 3 11 (by decide)).symm.trans h'),fun h h'=>HW.out.2.1 ((HN.out 3 8 (by decide)).symm.trans h) ((HN.out 3 11 (by decide)).symm.trans h'),fun h=>HW.out.2.2 ((HN.out 3 11 (by decide)).symm.trans h)⟩,fun h=>(HN.out 3 8 (by decide)).trans (HO.out ((HN.out 3 11 (by decide)).symm.trans h))⟩
         · -- 4
           refine wpOpIn_step rfl (fun K' hK=>?_);go_simp;refine hK _ _ ?_;obtain ⟨v0,v1,v2,v3,v4,v5,v6,v7,v9,v10⟩:=HV.out;exact ⟨HGS.out 4,⟨t13,t14,t15,t16,_,t18,t19,t20,t21,t22,rfl,fun h=>v0 ((HN.out 4 0 (by decide)).symm.trans h),fun h=>v1 ((HN.out 4 1 (by decide)).symm.trans h),fun h=>v2 ((HN.out 4 2 (by decide)).symm.trans h),fun h=>v3 ((HN.out 4 3 (by decide)).symm.trans h),fun _=>rfl,fun h=>v5 ((HN.out 4 5 (by decide)).symm.trans h),fun h=>v6 ((HN.out 4 6 (by decide)).symm.trans h),fun h=>v7 ((HN.out 4 7 (by decide)).symm.trans h),fun h=>v9 ((HN.out 4 9 (by decide)).symm.trans h),fun h=>v10 ((HN.out 4 10 (by decide)).symm.trans h)⟩,⟨fun h h'=>HW.out.1 ((HN.out 4 8 (by decide)).symm.trans h) ((HN.out 4 11 (by decide)).symm.trans h'),fun h h'=>HW.out.2.1 ((HN.out 4 8 (by decide)).symm.trans h) ((HN.out 4 11 (by decide)).symm.trans h'),fun h=>HW.out.2.2 ((HN.out 4 11 (by decide)).symm.trans h)⟩,fun h=>(HN.out 4 8 (by decide)).trans (HO.out ((HN.out 4 11 (by decide)).symm.trans h))⟩
         · -- 5
           refine wpOpIn_step rfl (fun K' hK=>?_);go_simp;refine hK _ _ ?_;obtain ⟨v0,v1,v2,v3,v4,v5,v6,v7,v9,v10⟩:=HV.out;exact ⟨HGS.out 5,⟨t13,t14,t15,t16,t17,_,t19,t20,t21,t22,rfl,fun h=>v0 ((HN.out 5 0 (by decide)).symm.trans h),fun h=>v1 ((HN.out 5 1 (by decide)).symm.trans h),fun h=>v2 ((HN.out 5 2 (by decide)).symm.trans h),fun h=>v3 ((HN.out 5 3 (by decide)).symm.trans h),fun h=>v4 ((HN.out 5 4 (by decide)).symm.trans h),fun _=>rfl,fun h=>v6 ((HN.out 5 6 (by decide)).symm.trans h),fun h=>v7 ((HN.out 5 7 (by decide)).symm.trans h),fun h=>v9 ((HN.out 5 9 (by decide)).symm.trans h),fun h=>v10 ((HN.out 5 10 (by decide)).symm.trans h)⟩,⟨fun h h'=>HW.out.1 ((HN.out 5 8 (by decide)).symm.trans h) ((HN.out 5 11 (by decide)).symm.trans h'),fun h h'=>HW.out.2.1 ((HN.out 5 8 (by decide)).symm.trans h) ((HN.out 5 11 (by decide)).symm.trans h'),fun h=>HW.out.2.2 ((HN.out 5 11 (by decide)).symm.trans h)⟩,fun h=>(HN.out 5 8 (by decide)).trans (HO.out ((HN.out 5 11 (by decide)).symm.trans h))⟩
         · -- 6
           have hdep:=HDp.out;have ho:=HOo.out;cases ho;have d0:listed.getD 0 true=true:=HGD.out 0 (hdep ⟨0,.data⟩ (by simp) rfl);have d1:listed.getD 1 true=true:=HGD.out 1 (hdep ⟨1,.data⟩ (by simp) rfl);obtain ⟨v0,v1,v2,v3,v4,v5,v6,v7,v9,v10⟩:=HV.out;have hv0:=v0 d0;subst hv0;have hv1:=v1 d1;subst hv1;clear hdep v0 v1 v2 v3 v4 v5 v6 v7 v9 v10;refine wpOpIn_step rfl (fun K' hK=>?_);go_simp;refine hK _ _ ?_;obtain ⟨v0,v1,v2,v3,v4,v5,v6,v7,v9,v10⟩:=HV.out;exact ⟨HGS.out 6,⟨_,_,t15,t16,t17,t18,_,t20,t21,t22,rfl,fun _=>rfl,fun _=>rfl,fun h=>v2 ((HN.out 6 2 (by decide)).symm.trans h),fun h=>v3 ((HN.out 6 3 (by decide)).symm.trans h),fun h=>v4 ((HN.out 6 4 (by decide)).symm.trans h),fun h=>v5 ((HN.out 6 5 (by decide)).symm.trans h),fun _=>rfl,fun h=>v7 ((HN.out 6 7 (by decide)).symm.trans h),fun h=>v9 ((HN.out 6 9 (by decide)).symm.trans h),fun h=>v10 ((HN.out 6 10 (by decide)).symm.trans h)⟩,⟨fun h h'=>HW.out.1 ((HN.out 6 8 (by decide)).symm.trans h) ((HN.out 6 11 (by decide)).symm.trans h'),fun h h'=>HW.out.2.1 ((HN.out 6 8 (by decide)).symm.trans h) ((HN.out 6 11 (by decide)).symm.trans h'),fun h=>HW.out.2.2 ((HN.out 6 11 (by decide)).symm.trans h)⟩,fun h=>(HN.out 6 8 (by decide)).trans (HO.out ((HN.out 6 11 (by decide)).symm.trans h))⟩
         · -- 7
           have hdep:=HDp.out;have ho:=HOo.out;cases ho;have d6:listed.getD 6 true=true:=HGD.out 6 (hdep ⟨6,.data⟩ (by simp) rfl);obtain ⟨v0,v1,v2,v3,v4,v5,v6,v7,v9,v10⟩:=HV.out;have hv6:=v6 d6;subst hv6;clear hdep v0 v1 v2 v3 v4 v5 v6 v7 v9 v10;refine wpOpIn_step rfl (fun K' hK=>?_);go_simp;refine hK _ _ ?_;obtain ⟨v0,v1,v2,v3,v4,v5,v6,v7,v9,v10⟩:=HV.out;exact ⟨HGS.out 7,⟨t13,t14,t15,t16,t17,t18,_,_,t21,t22,rfl,fun h=>v0 ((HN.out 7 0 (by decide)).symm.trans h),fun h=>v1 ((HN.out 7 1 (by decide)).symm.trans h),fun h=>v2 ((HN.out 7 2 (by decide)).symm.trans h),fun h=>v3 ((HN.out 7 3 (by decide)).symm.trans h),fun h=>v4 ((HN.out 7 4 (by decide)).symm.trans h),fun h=>v5 ((HN.out 7 5 (by decide)).symm.trans h),fun _=>rfl,fun _=>rfl,fun h=>v9 ((HN.out 7 9 (by decide)).symm.trans h),fun h=>v10 ((HN.out 7 10 (by decide)).symm.trans h)⟩,⟨fun h h'=>HW.out.1 ((HN.out 7 8 (by decide)).symm.trans h) ((HN.out 7 11 (by decide)).symm.trans h'),fun h h'=>HW.out.2.1 ((HN.out 7 8 (by decide)).symm.trans h) ((HN.out 7 11 (by decide)).symm.trans h'),fun h=>HW.out.2.2 ((HN.out 7 11 (by decide)).symm.trans h)⟩,fun h=>(HN.out 7 8 (by decide)).trans (HO.out ((HN.out 7 11 (by decide)).symm.trans h))⟩
         · -- 8
           have hdep:=HDp.out;have ho:=HOo.out;cases ho;have d7:listed.getD 7 true=true:=HGD.out 7 (hdep ⟨7,.data⟩ (by simp) rfl);have d4:listed.getD 4 true=true:=HGD.out 4 (hdep ⟨4,.data⟩ (by simp) rfl);obtain ⟨v0,v1,v2,v3,v4,v5,v6,v7,v9,v10⟩:=HV.out;have hv7:=v7 d7;subst hv7;have hv4:=v4 d4;subst hv4;clear hdep v0 v1 v2 v3 v4 v5 v6 v7 v9 v10
           have h11:listed.getD 11 true=false:=by
             cases h:listed.getD 11 true with
             | false=>rfl
             | true=>have:=HO.out h;rw [HU.out] at this;cases this
           have hw5:=HW.out.1 HU.out h11;subst hw5;refine wpOpIn_step rfl (fun K' hK=>?_);go_simp;refine hK _ _ ?_;obtain ⟨v0,v1,v2,v3,v4,v5,v6,v7,v9,v10⟩:=HV.out;exact ⟨HGS.out 8,⟨t13,t14,t15,t16,_,t18,t19,_,t21,t22,rfl,fun h=>v0 ((HN.out 8 0 (by decide)).symm.trans h),fun h=>v1 ((HN.out 8 1 (by decide)).symm.trans h),fun h=>v2 ((HN.out 8 2 (by decide)).symm.trans h),fun h=>v3 ((HN.out 8 3 (by decide)).symm.trans h),fun _=>rfl,fun h=>v5 ((HN.out 8 5 (by decide)).symm.trans h),fun h=>v6 ((HN.out 8 6 (by decide)).symm.trans h),fun _=>rfl,fun h=>v9 ((HN.out 8 9 (by decide)).symm.trans h),fun h=>v10 ((HN.out 8 10 (by decide)).symm.trans h)⟩,⟨fun h=>(by rw [HGY.out 8] at h;cases h),fun _ _=>rfl,fun h=>(by rw [HN.out 8 11 (by decide),h11] at h;cases h)⟩,fun _=>HGY.out 8⟩
         · -- 9
           have hdep:=HDp.out;have ho:=HOo.out;cases ho;have d2:listed.getD 2 true=true:=HGD.out 2 (hdep ⟨2,.data⟩ (by simp) rfl);have d3:listed.getD 3 true=true:=HGD.out 3 (hdep ⟨3,.data⟩ (by simp) rfl);obtain ⟨v0,v1,v2,v3,v4,v5,v6,v7,v9,v10⟩:=HV.out;have hv2:=v2 d2;subst hv2;have hv3:=v3 d3;subst hv3;clear hdep v0 v1 v2 v3 v4 v5 v6 v7 v9 v10;refine wpOpIn_step rfl (fun K' hK=>?_);go_simp;refine hK _ _ ?_;obtain ⟨v0,v1,v2,v3,v4,v5,v6,v7,v9,v10⟩:=HV.out;exact ⟨HGS.out 9,⟨t13,t14,_,_,t17,t18,t19,t20,_,t22,rfl,fun h=>v0 ((HN.out 9 0 (by decide)).symm.trans h),fun h=>v1 ((HN.out 9 1 (by decide)).symm.trans h),fun _=>rfl,fun _=>rfl,fun h=>v4 ((HN.out 9 4 (by decide)).symm.trans h),fun h=>v5 ((HN.out 9 5 (by decide)).symm.trans h),fun h=>v6 ((HN.out 9 6 (by decide)).symm.trans h),fun h=>v7 ((HN.out 9 7 (by decide)).symm.trans h),fun _=>rfl,fun h=>v10 ((HN.out 9 10 (by decide)).symm.trans h)⟩,⟨fun h h'=>HW.out.1 ((HN.out 9 8 (by decide)).symm.trans h) ((HN.out 9 11 (by decide)).symm.trans h'),fun h h'=>HW.out.2.1 ((HN.out 9 8 (by decide)).symm.trans h) ((HN.out 9 11 (by decide)).symm.trans h'),fun h=>HW.out.2.2 ((HN.out 9 11 (by decide)).symm.trans h)⟩,fun h=>(HN.out 9 8 (by decide)).trans (HO.out ((HN.out 9 11 (by decide)).symm.trans h))⟩
         · -- 10
           have hdep:=HDp.out;have ho:=HOo.out;cases ho;have d9:listed.getD 9 true=true:=HGD.out 9 (hdep ⟨9,.data⟩ (by simp) rfl);obtain ⟨v0,v1,v2,v3,v4,v5,v6,v7,v9,v10⟩:=HV.out;have hv9:=v9 d9;subst hv9;clear hdep v0 v1 v2 v3 v4 v5 v6 v7 v9 v10;refine wpOpIn_step rfl (fun K' hK=>?_);go_simp;refine hK _ _ ?_;obtain ⟨v0,v1,v2,v3,v4,v5,v6,v7,v9,v10⟩:=HV.out;exact ⟨HGS.out 10,⟨t13,t14,t15,t16,t17,t18,t19,t20,_,_,rfl,fun h=>v0 ((HN.out 10 0 (by decide)).symm.trans h),fun h=>v1 ((HN.out 10 1 (by decide)).symm.trans h),fun h=>v2 ((HN.out 10 2 (by decide)).symm.trans h),fun h=>v3 ((HN.out 10 3 (by decide)).symm.trans h),fun h=>v4 ((HN.out 10 4 (by decide)).symm.trans h),fun h=>v5 ((HN.out 10 5 (by decide)).symm.trans h),fun h=>v6 ((HN.out 10 6 (by decide)).symm.trans h),fun h=>v7 ((HN.out 10 7 (by decide)).symm.trans h),fun _=>rfl,fun _=>rfl⟩,⟨fun h h'=>HW.out.1 ((HN.out 10 8 (by decide)).symm.trans h) ((HN.out 10 11 (by decide)).symm.trans h'),fun h h'=>HW.out.2.1 ((HN.out 10 8 (by decide)).symm.trans h) ((HN.out 10 11 (by decide)).symm.trans h'),fun h=>HW.out.2.2 ((HN.out 10 11 (by decide)).symm.trans h)⟩,fun h=>(HN.out 10 8 (by decide)).trans (HO.out ((HN.out 10 11 (by decide)).symm.trans h))⟩
         · -- 11
           have hdep:=HDp.out;have ho:=HOo.out;cases ho;have d10:listed.getD 10 true=true:=HGD.out 10 (hdep ⟨10,.data⟩ (by simp) rfl);have d5:listed.getD 5 true=true:=HGD.out 5 (hdep ⟨5,.data⟩ (by simp) rfl);have d8:listed.getD 8 true=true:=HGD.out 8 (hdep ⟨8,.chain⟩ (by simp) rfl);obtain ⟨v0,v1,v2,v3,v4,v5,v6,v7,v9,v10⟩:=HV.out;have hv10:=v10 d10;subst hv10;have hv5:=v5 d5;subst hv5;clear hdep v0 v1 v2 v3 v4 v5 v6 v7 v9 v10;have hw5:=HW.out.2.1 d8 HU.out;subst hw5
           have r3':(W.setCell ⟨b,x1*4+2,none⟩ (.int .i64 (nxt 2 A (x1+1):Nat))).cell? ⟨b,x1*4+3,none⟩=some (.int .i64 0):=by
             refine (cell_at (set_at HKP.out.1 _ _) _).trans ?_;rw [Array.getElem?_setIfInBounds,if_neg (by omega)];exact HKP.out.2
           have fb':∀ j,(W.setCell ⟨b,x1*4+2,none⟩ (.int .i64 (nxt 2 A (x1+1):Nat))).frozen? ⟨b,j,none⟩=false:=fun j=>by rw [World.frozen?_setCell];exact fb j
           refine wpOpIn_step rfl (fun K' hK=>?_);go_simp;refine hK _ _ ?_;obtain ⟨v0,v1,v2,v3,v4,v5,v6,v7,v9,v10⟩:=HV.out;exact ⟨HGS.out 11,⟨t13,t14,t15,t16,t17,_,t19,t20,t21,_,rfl,fun h=>v0 ((HN.out 11 0 (by decide)).symm.trans h),fun h=>v1 ((HN.out 11 1 (by decide)).symm.trans h),fun h=>v2 ((HN.out 11 2 (by decide)).symm.trans h),fun h=>v3 ((HN.out 11 3 (by decide)).symm.trans h),fun h=>v4 ((HN.out 11 4 (by decide)).symm.trans h),fun _=>rfl,fun h=>v6 ((HN.out 11 6 (by decide)).symm.trans h),fun h=>v7 ((HN.out 11 7 (by decide)).symm.trans h),fun h=>v9 ((HN.out 11 9 (by decide)).symm.trans h),fun _=>rfl⟩,⟨fun _ h=>(by rw [HGY.out 11] at h;cases h),fun _ h=>(by rw [HGY.out 11] at h;cases h),fun _=>rfl⟩,fun _=>(HN.out 11 8 (by decide)).trans d8⟩
     case rest =>
       subst hcut;have HST:=Lib.hid (HI.out.step hm hi hne n1 n2 n4 n5);generalize hW1:((W.setCell ⟨b,x1*4+2,none⟩ (.int .i64 (nxt 2 A (x1+1):Nat))).setCell ⟨b,x1*4+3,none⟩ (.int .i64 (nxt 4 A (x1+1):Nat))).drew=W1 at *;obtain ⟨y1,y2,y3,y4,y5,y6,y7⟩:=HST.out;have cL1:W1.cell? ⟨LB,0,none⟩=some (.slice (some ⟨b,0,none⟩) A.length cap):=cell_at y1 0;have r1:W1.cell? ⟨b,x1*4,none⟩=some (.int .i64 kd):=by rw [← hkd];exact y7 hi
       have fS1:W1.frozen? ⟨SB,0,none⟩=false:=frozen_at y3 0;have fH1:W1.frozen? ⟨HB,0,none⟩=false:=frozen_at y4 0;have cS1:W1.cell? ⟨SB,0,none⟩=some (.int .i64 (nxt 2 A (x1+1):Nat)):=cell_at y3 0;have cH1:W1.cell? ⟨HB,0,none⟩=some (.int .i64 (nxt 4 A (x1+1):Nat)):=cell_at y4 0;have HE:=Lib.hid (HST.out.fin (x:=(x1,x2)) hm hi n3 (by omega) (by omega) (by omega) (by omega) n1 n2 (by omega) (by omega));clear y1 y2 y3 y4 y5 y6 y7 HST HI cL cS cH r0 r2 r3 fb fS fH hW1;by_cases h2:kd=2
       · subst h2
         have e1:(((2:Nat):Int) == 2)=true:=rfl;have HR:=Lib.hid (HE.out.1 hkd);clear HE
         gi_wp2
         exact HR.out
       · have e1:((kd:Int) == 2)=false:=by rw [beq_eq_false_iff_ne];omega
         by_cases h4:kd=4
         · subst h4
           have HR:=Lib.hid (HE.out.2.1 hkd);clear HE e1
           gi_wp2
           exact HR.out
         · have e2:((kd:Int) == 4)=false:=by rw [beq_eq_false_iff_ne];omega
           have HR:=Lib.hid (HE.out.2.2 (by omega) (by omega));clear HE
           gi_wp2
           exact HR.out
   case done =>
     clear hI0 hL0 hL1 hL2 hL3 hpl hP4;rintro D W hD hI hK;have HI:=Lib.hid hI;clear hI
     gi_wp2
     refine ⟨by simp,.inl ⟨_,_,rfl,run_takeDeferred hK,?_⟩⟩;obtain ⟨m,h1,h2,_⟩:=HI.out.pc;rw [bkTo_len] at h1;obtain rfl:m=0:=by omega
     have tm:=turn_mine (K:=kL) (n0:=LB) (n1:=0) (o':=Obj.deferred none) hK rfl (by omega) (Nat.zero_le _);have hd:=HI.out.mine (Nat.le_of_eq hq0) tm.1;obtain ⟨m,h3,h4,_⟩:=hd.pc;rw [bkTo_len] at h3;obtain rfl:m=0:=by omega
     exact ⟨_,results_none rfl _ _ _,rfl,h4,hd.keep⟩
end Sp
namespace Sp
open Go.RowKit
end Sp
namespace Sp
open Go.RowKit
theorem readAll_any (r b cap:Nat) (ao:Option Addr) (A:List Pc) (hG:Good A) (hA:A.length≤300000) (hraw:(raws A).length≤300000):RdC r b cap ao A false false:=by
 have h11:RdC r b cap ao A true true:=readR_any r b cap ao A hG hA hraw true true (fun h=>by cases h) (fun h=>by cases h);have h10:RdC r b cap ao A true false:=readR_any r b cap ao A hG hA hraw true false (fun h=>by cases h) (fun _=>h11);have h01:RdC r b cap ao A false true:=readR_any r b cap ao A hG hA hraw false true (fun _=>h11) (fun h=>by cases h);exact readR_any r b cap ao A hG hA hraw false false (fun _=>h10) (fun _=>h01)
end Sp
end Go.Proofs.YtpakjdgddomdjabGreatDoor
