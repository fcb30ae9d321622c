import Derived.Test.YtpakjdgddomdjabGreatDoorPkE
import Derived.Test.YtpakjdgddomdjabGreatDoorPkB
import Derived.Deep.RegionLaw
import Derived.Maps.AppendAt
import Derived.Test.YtpakjdgddomdjabGreatDoorPkY
import Derived.Lib.Walk
import Derived.WalkSpells
import Derived.WalkLawsBesides
set_option linter.unusedVariables false
namespace Go.Proofs.YtpakjdgddomdjabGreatDoor
namespace Sp
open Go.RowKit
open Tk (S)
open Cm (Rk Rk.of_own)
theorem infoSp:(Tryz.prog.info? 71).map (fun i=>(i.zero,i.size,i.bytes))=some (some (.agg #[.int .i64 0,.string ⟨#[]⟩,.slice none 0 0]),3,48):=by kernel_rfl
def encT (p:Sp × Value):List Value:=[.int .i64 p.1.kind,.string (S p.1.s),p.2]
theorem encT_len (p:Sp × Value):(encT p).length=3:=rfl
theorem flat_len:∀ps:List (Sp × Value),(ps.flatMap encT).length=ps.length*3
 |[]=>rfl
 |p::r=>by rw[List.flatMap_cons,List.length_append,flat_len r,encT_len,List.length_cons];omega
theorem Tr.of_own {w:World} {B:Nat} {e:TypeId} {v:Value} {ps:List (Sp × Value)} (h:w.ownsRow B e 3 v ps.length (ps.flatMap encT)) (hk:∀p∈ps,Tr w p.2 p.1.kids):Tr w v (ps.map (·.1)):=by
 have hr:=Rk.of_own encT_len h;rcases h.2 with ⟨hv,hn⟩|⟨g,cap,cur,hv,hB,hg,hn,hm,hsz,ht⟩
 ·have:ps=[]:=List.eq_nil_of_length_eq_zero hn
  subst this;exact⟨none,0,hv,⟨Nat.le_refl _,by omega⟩,Or.inl rfl⟩
 ·obtain⟨ao,cap',hv',hc',hx⟩:=hr
  rw[hv]at hv';simp only[Value.slice.injEq]at hv';obtain⟨rfl,_,rfl⟩:=hv';refine⟨some ⟨g,0,none⟩,cap,by rw[hv,List.length_map],⟨by rw[List.length_map];exact hn,by unfold maxLen at hm;omega⟩,?_⟩;rcases hx with hx |⟨b,o,hbo,hlt,hcell⟩
  ·exact Or.inl (by rw[hx];rfl)
  ·simp only[Option.some.injEq,Addr.mk.injEq,and_true]at hbo
   obtain⟨rfl,rfl⟩:=hbo;refine Or.inr ⟨g,0,rfl,hlt,trAll_of _ _ (fun i hi=>?_)⟩;have hil:i<ps.length:=by simpa using hi
   have hc:=hcell i ps[i] (List.getElem?_eq_getElem hil);have htr:=hk ps[i] (List.getElem_mem hil);obtain⟨ak,ck,hkv⟩:=htr.len;rw[List.getElem_map];refine trOne_of (ao:=ak) (cap:=ck) ⟨hc 0 _ rfl,hc 1 _ rfl,?_,by rw[←hkv];exact htr⟩;rw[←hkv];exact hc 2 _ rfl
theorem encT_one {w:World} {ps:List (Sp × Value)} (hk:∀p∈ps,Tr w p.2 p.1.kids):∀u∈ps.flatMap encT,u.oneCell'=true:=by
 intro u hu;obtain⟨p,hp,hu⟩:=List.mem_flatMap.1 hu;obtain⟨ak,ck,hv⟩:=(hk p hp).len;simp[encT]at hu;rcases hu with rfl |rfl |rfl
 ·rfl
 ·rfl
 ·rw[hv];rfl
end Sp
namespace Cm
open Go.RowKit
theorem step_append_run {P:Program} {ops:Array Oper} {o:Oper} {a:Act} {w:World} {K:Act→World→Prop} {Q:Exit→Act→World→Prop} {E:Prop}
  (hg:o.guard=none) (s x:Operand) (t tn:TypeId) (hop:o.op=Op.call {callee:=Callee.builtin Builtin.append,args:=#[s,x],argTypes:=#[t,tn]})
  (vs vx:Value) (hs:a.eval s=vs) (hx:a.eval x=vx) (v':Value) (w':World) (hr:∀ty,(Builtin.append_ #[t,tn] ty #[vs,vx]).run P w=.ok v' w') (hK:K (a.put o.dst v') w'):
  if Region.wanted o (yielded ops a.tmps)=true then Oper.wp P o a w K Q else E:=by
 have hw:Region.wanted o (yielded ops a.tmps)=true:=by simp[Region.wanted,hg]
 rw[if_pos hw];have hrun:=hr o.type;unfold Oper.wp;simp[execOp,hop,resolve,invoke,builtin,hs,hx,hrun,Result.andThen];exact hK
end Cm
namespace Sp
open Go.RowKit
structure Acc (w0 w:World) (v:Value) (ps:List (Sp × Value)):Prop where
 bel:Below w0.heap.size w0 w
 own:w.ownsRow w0.heap.size 71 3 v ps.length (ps.flatMap encT)
theorem bel_a {w0 w:World} (h:Below w0.heap.size w0 w) (o:Obj):Below w0.heap.size w0 (w.alloc o):=h.alloc h.size o
theorem bel_d {w0 w:World} (h:Below w0.heap.size w0 w):Below w0.heap.size w0 w.drew:=h.drew
end Sp
namespace Sp
open Go.RowKit
open Cm (Keep)
def KidS (B:Nat) (g:Option Nat) (w:World) (p:Sp × Value):Prop:=∀w',Keep (fun k=>k<B∨some k=g) w w'→Tr w' p.2 p.1.kids
structure Out (w0 w:World) (v:Value) (L:List Sp):Prop where
 ex:∃ps:List (Sp × Value),ps.map (·.1)=L∧Acc w0 w v ps∧∀p∈ps,KidS w0.heap.size v.ownBlock w p
theorem add_zero (b j:Nat):(Addr.add ⟨b,0,none⟩ j)=⟨b,j,none⟩:=by
 by_cases h:j=0<;>simp[Addr.add,h]
theorem flat_one (p:Sp × Value):[p].flatMap encT=encT p:=by simp[List.flatMap_cons]
end Sp
namespace Sp
open Go.RowKit
open Cm (step_append_run)
theorem step_run_ex {P:Program} {ops:Array Oper} {o:Oper} {a:Act} {w:World} {K:Act→World→Prop} {Q:Exit→Act→World→Prop} {E:Prop} {R:Value→World→Prop}
  (hg:o.guard=none) (s x:Operand) (t tn:TypeId) (hop:o.op=Op.call {callee:=Callee.builtin Builtin.append,args:=#[s,x],argTypes:=#[t,tn]})
  (vs vx:Value) (hs:a.eval s=vs) (hx:a.eval x=vx) (hr:∃v' w',(∀ty,(Builtin.append_ #[t,tn] ty #[vs,vx]).run P w=.ok v' w')∧R v' w') (hK:∀v' w',R v' w'→K (a.put o.dst v') w'):
  if Region.wanted o (yielded ops a.tmps)=true then Oper.wp P o a w K Q else E:=by
 obtain⟨v',w',h1,h2⟩:=hr;exact step_append_run hg s x t tn hop vs vx hs hx v' w' h1 (hK v' w' h2)
end Sp
namespace Tk
open Go.RowKit
def clsI (c:Int):Int:=
 if c=10∨c=13 then 3 else if c=9∨c=32 then 2
 else if(33≤c∧c≤47)∨(58≤c∧c≤64)∨(91≤c∧c≤96)∨(123≤c∧c≤126)then 4 else 1
theorem clsI3 (c:Int) (h:c=10∨c=13):clsI c=3:=by unfold clsI;rw[if_pos h]
theorem clsI2 (c:Int) (h:c=9∨c=32):clsI c=2:=by unfold clsI;rw[if_neg (by omega),if_pos h]
theorem clsI4 (c:Int) (h:(33≤c∧c≤47)∨(58≤c∧c≤64)∨(91≤c∧c≤96)∨(123≤c∧c≤126)):clsI c=4:=by
 unfold clsI;rw[if_neg (by omega),if_neg (by omega),if_pos h]
theorem clsI1 (c:Int) (h1:¬(c=10∨c=13)) (h2:¬(c=9∨c=32)) (h:¬((33≤c∧c≤47)∨(58≤c∧c≤64)∨(91≤c∧c≤96)∨(123≤c∧c≤126))):clsI c=1:=by
 unfold clsI;rw[if_neg h1,if_neg h2,if_neg h]
theorem clsI_cases (c:Int):(c=10∨c=13)∨(c=9∨c=32)∨(33≤c∧c≤47)∨(58≤c∧c≤64)∨(91≤c∧c≤96)∨(123≤c∧c≤126)∨(c<9∨(11≤c∧c≤12)∨(14≤c∧c≤31)∨(48≤c∧c≤57)∨(65≤c∧c≤90)∨(97≤c∧c≤122)∨127≤c):=by omega
set_option maxHeartbeats 2000000 in
theorem class_any (c:Int) (w:World):
  Calls Tryz.prog 181 #[.int .i64 c] w fun e w'=>e=.returned (.int .i64 (clsI c))∧w=w':=by
 rcases clsI_cases c with (h |h)|(h |h)|h |h |h |h |(h |h |h |h |h |h |h)
 ·subst h;have H:=Lib.hid (clsI3 10 (Or.inl rfl))
  go_enter Tryz.func181,Tryz.ntmps181
  go_wp2
  all_goals go_ret
  all_goals exact⟨ret_int H.out.symm,rfl⟩
 ·subst h;have H:=Lib.hid (clsI3 13 (Or.inr rfl))
  go_enter Tryz.func181,Tryz.ntmps181
  go_wp2
  all_goals go_ret
  all_goals exact⟨ret_int H.out.symm,rfl⟩
 ·subst h;have H:=Lib.hid (clsI2 9 (Or.inl rfl))
  go_enter Tryz.func181,Tryz.ntmps181
  go_wp2
  all_goals go_ret
  all_goals exact⟨ret_int H.out.symm,rfl⟩
 ·subst h;have H:=Lib.hid (clsI2 32 (Or.inr rfl))
  go_enter Tryz.func181,Tryz.ntmps181
  go_wp2
  all_goals go_ret
  all_goals exact⟨ret_int H.out.symm,rfl⟩
 ·have H:=Lib.hid (clsI4 c (by omega))
  have e10:(c==10)=false:=beq_eq_false_iff_ne.2 (by omega)
  have e13:(c==13)=false:=beq_eq_false_iff_ne.2 (by omega)
  have e9:(c==9)=false:=beq_eq_false_iff_ne.2 (by omega)
  have e32:(c==32)=false:=beq_eq_false_iff_ne.2 (by omega)
  go_enter Tryz.func181,Tryz.ntmps181
  go_wp2
  all_goals go_ret
  all_goals exact⟨ret_int H.out.symm,rfl⟩
 ·have H:=Lib.hid (clsI4 c (by omega))
  have e10:(c==10)=false:=beq_eq_false_iff_ne.2 (by omega)
  have e13:(c==13)=false:=beq_eq_false_iff_ne.2 (by omega)
  have e9:(c==9)=false:=beq_eq_false_iff_ne.2 (by omega)
  have e32:(c==32)=false:=beq_eq_false_iff_ne.2 (by omega)
  go_enter Tryz.func181,Tryz.ntmps181
  go_wp2
  all_goals go_ret
  all_goals exact⟨ret_int H.out.symm,rfl⟩
 ·have H:=Lib.hid (clsI4 c (by omega))
  have e10:(c==10)=false:=beq_eq_false_iff_ne.2 (by omega)
  have e13:(c==13)=false:=beq_eq_false_iff_ne.2 (by omega)
  have e9:(c==9)=false:=beq_eq_false_iff_ne.2 (by omega)
  have e32:(c==32)=false:=beq_eq_false_iff_ne.2 (by omega)
  go_enter Tryz.func181,Tryz.ntmps181
  go_wp2
  all_goals go_ret
  all_goals exact⟨ret_int H.out.symm,rfl⟩
 ·have H:=Lib.hid (clsI4 c (by omega))
  have e10:(c==10)=false:=beq_eq_false_iff_ne.2 (by omega)
  have e13:(c==13)=false:=beq_eq_false_iff_ne.2 (by omega)
  have e9:(c==9)=false:=beq_eq_false_iff_ne.2 (by omega)
  have e32:(c==32)=false:=beq_eq_false_iff_ne.2 (by omega)
  go_enter Tryz.func181,Tryz.ntmps181
  go_wp2
  all_goals go_ret
  all_goals exact⟨ret_int H.out.symm,rfl⟩
 ·have H:=Lib.hid (clsI1 c (by omega) (by omega) (by omega))
  have e10:(c==10)=false:=beq_eq_false_iff_ne.2 (by omega)
  have e13:(c==13)=false:=beq_eq_false_iff_ne.2 (by omega)
  have e9:(c==9)=false:=beq_eq_false_iff_ne.2 (by omega)
  have e32:(c==32)=false:=beq_eq_false_iff_ne.2 (by omega)
  go_enter Tryz.func181,Tryz.ntmps181
  go_wp2
  all_goals go_ret
  all_goals exact⟨ret_int H.out.symm,rfl⟩
 ·have H:=Lib.hid (clsI1 c (by omega) (by omega) (by omega))
  have e10:(c==10)=false:=beq_eq_false_iff_ne.2 (by omega)
  have e13:(c==13)=false:=beq_eq_false_iff_ne.2 (by omega)
  have e9:(c==9)=false:=beq_eq_false_iff_ne.2 (by omega)
  have e32:(c==32)=false:=beq_eq_false_iff_ne.2 (by omega)
  go_enter Tryz.func181,Tryz.ntmps181
  go_wp2
  all_goals go_ret
  all_goals exact⟨ret_int H.out.symm,rfl⟩
 ·have H:=Lib.hid (clsI1 c (by omega) (by omega) (by omega))
  have e10:(c==10)=false:=beq_eq_false_iff_ne.2 (by omega)
  have e13:(c==13)=false:=beq_eq_false_iff_ne.2 (by omega)
  have e9:(c==9)=false:=beq_eq_false_iff_ne.2 (by omega)
  have e32:(c==32)=false:=beq_eq_false_iff_ne.2 (by omega)
  go_enter Tryz.func181,Tryz.ntmps181
  go_wp2
  all_goals go_ret
  all_goals exact⟨ret_int H.out.symm,rfl⟩
 ·have H:=Lib.hid (clsI1 c (by omega) (by omega) (by omega))
  have e10:(c==10)=false:=beq_eq_false_iff_ne.2 (by omega)
  have e13:(c==13)=false:=beq_eq_false_iff_ne.2 (by omega)
  have e9:(c==9)=false:=beq_eq_false_iff_ne.2 (by omega)
  have e32:(c==32)=false:=beq_eq_false_iff_ne.2 (by omega)
  go_enter Tryz.func181,Tryz.ntmps181
  go_wp2
  all_goals go_ret
  all_goals exact⟨ret_int H.out.symm,rfl⟩
 ·have H:=Lib.hid (clsI1 c (by omega) (by omega) (by omega))
  have e10:(c==10)=false:=beq_eq_false_iff_ne.2 (by omega)
  have e13:(c==13)=false:=beq_eq_false_iff_ne.2 (by omega)
  have e9:(c==9)=false:=beq_eq_false_iff_ne.2 (by omega)
  have e32:(c==32)=false:=beq_eq_false_iff_ne.2 (by omega)
  go_enter Tryz.func181,Tryz.ntmps181
  go_wp2
  all_goals go_ret
  all_goals exact⟨ret_int H.out.symm,rfl⟩
 ·have H:=Lib.hid (clsI1 c (by omega) (by omega) (by omega))
  have e10:(c==10)=false:=beq_eq_false_iff_ne.2 (by omega)
  have e13:(c==13)=false:=beq_eq_false_iff_ne.2 (by omega)
  have e9:(c==9)=false:=beq_eq_false_iff_ne.2 (by omega)
  have e32:(c==32)=false:=beq_eq_false_iff_ne.2 (by omega)
  go_enter Tryz.func181,Tryz.ntmps181
  go_wp2
  all_goals go_ret
  all_goals exact⟨ret_int H.out.symm,rfl⟩
 ·have H:=Lib.hid (clsI1 c (by omega) (by omega) (by omega))
  have e10:(c==10)=false:=beq_eq_false_iff_ne.2 (by omega)
  have e13:(c==13)=false:=beq_eq_false_iff_ne.2 (by omega)
  have e9:(c==9)=false:=beq_eq_false_iff_ne.2 (by omega)
  have e32:(c==32)=false:=beq_eq_false_iff_ne.2 (by omega)
  go_enter Tryz.func181,Tryz.ntmps181
  go_wp2
  all_goals go_ret
  all_goals exact⟨ret_int H.out.symm,rfl⟩
theorem cls_nat (b:UInt8):clsI b.toNat=(cls b:Int):=by
 have h:∀b:UInt8,clsI b.toNat=(cls b:Int):=by
  intro b;unfold clsI cls;have e:∀c:UInt8,(b=c↔(b.toNat:Int)=c.toNat):=fun c=>⟨fun h=>by rw[h],fun h=>UInt8.toNat_inj.1 (by omega)⟩
  have l:∀c:UInt8,(b≤c↔(b.toNat:Int)≤c.toNat):=fun c=>by rw[UInt8.le_iff_toNat_le];omega
  have g:∀c:UInt8,(c≤b↔(c.toNat:Int)≤b.toNat):=fun c=>by rw[UInt8.le_iff_toNat_le];omega
  simp only[e,l,g];generalize (b.toNat:Int)=x;show(if x=10∨x=13 then(3:Int)else if x=9∨x=32 then 2 else if(33≤x∧x≤47)∨(58≤x∧x≤64)∨(91≤x∧x≤96)∨(123≤x∧x≤126)then 4 else 1)=((if x=10∨x=13 then(3:Nat)else if x=9∨x=32 then 2 else if(33≤x∧x≤47)∨(58≤x∧x≤64)∨(91≤x∧x≤96)∨(123≤x∧x≤126)then 4 else 1:Nat):Int);split
  ·rfl
  ·split
   ·rfl
   ·split<;>rfl
 exact h b
theorem class8 (b:UInt8) (w:World):Calls Tryz.prog 181 #[.int .i64 b.toNat] w fun e w'=>e=.returned (.int .i64 (cls b))∧w=w':=by
 have:=class_any b.toNat w;rwa[cls_nat]at this
end Tk
end Go.Proofs.YtpakjdgddomdjabGreatDoor
