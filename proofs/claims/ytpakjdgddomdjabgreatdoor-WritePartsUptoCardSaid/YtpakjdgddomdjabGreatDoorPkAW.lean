import Derived.Test.YtpakjdgddomdjabGreatDoorPkAD
import Derived.Test.YtpakjdgddomdjabGreatDoorPkAC
import Derived.Test.YtpakjdgddomdjabGreatDoorPkAT
import Derived.Test.YtpakjdgddomdjabGreatDoorPkAB
set_option linter.unusedVariables false
namespace Go.Proofs.YtpakjdgddomdjabGreatDoor
namespace Bt
open Go.RowKit
open Bk (Bk)
theorem allB_mem {li:Bool}:∀{l:List Bk} {p:Int},allB li p l=true→∀x∈l,oneB li x=true
 |[],_,_,x,hx=>by cases hx
 |y::r,p,h,x,hx=>by
  rw[allB_cons,Bool.and_eq_true,Bool.and_eq_true]at h;rcases List.mem_cons.1 hx with rfl |hx
  ·exact h.1.1
  ·exact allB_mem h.2 x hx
theorem dp_mem {l:List Bk} {x:Bk} (h:x∈l):dp [x]≤dp l:=by
 obtain⟨s,t,rfl⟩:=List.append_of_mem h;rw[show s++x::t=s++([x]++t)by simp,dp_app,dp_app];omega
theorem one_rg {l:List Bk} {x:Bk} (h:rgB l=true) (hx:x∈l):rgB [x]=true:=by
 obtain⟨h1,h2⟩:=rg_parts h;have h3:=dp_mem hx;unfold rgB;rw[allB_cons,allB_mem h1 x hx,decide_eq_true (show dp [x]≤16 by omega)];simp[allB]
theorem sliceB {w:World} {b o n c:Nat} {l:List Bk} (h:TrB w (.slice (some ⟨b,o,none⟩) n c) l) (k:Nat) (hk:k<l.length):TrB w (.slice (some ⟨b,o+k*6,none⟩) 1 (c-k)) [l[k]]∧l.length≤c:=by
 obtain⟨ao,cap,hv,hc,hx⟩:=h;simp only[Value.slice.injEq]at hv;obtain⟨rfl,rfl,rfl⟩:=hv;rcases hx with hx |⟨b',o',hao,hb,hx⟩
 ·subst hx;exact absurd hk (Nat.not_lt_zero _)
 ·simp only[Option.some.injEq,Addr.mk.injEq,and_true]at hao
  obtain⟨rfl,rfl⟩:=hao;refine⟨⟨_,c-k,rfl,⟨by simp only[List.length_cons,List.length_nil];omega,by omega⟩,Or.inr ⟨b,o+k*6,rfl,hb,?_⟩⟩,hc.1⟩;unfold trAll;exact⟨trAll_at l o hx k hk,by unfold trAll;trivial⟩
end Bt
namespace Wr
open Bt (rgB ttAll)
open Bk (Tx Bk ok1 oks one wl ticksL tl wl_tl kindOf fenceL tl_tail behind_tl its_len spanK_all fenceL_ok listL_ok ticksL_ge kind_fence kind_quote)
open Kd (E0)
open Pa (restB plc spr sprB spr_blank spr_block)
theorem rest_back {prev:Bool} (b:Bk) {r:List Bk} (h:oks E0 false prev (b::r)):∃s q,wl (b::r)=s::q∧kindOf E0 s≠1∧0<(one b).length∧restB s q=tl r:=by
 obtain⟨k,lv,info,lines,spans,kids⟩:=b;rw[oks]at h;obtain⟨h1,_,hr⟩:=h;obtain⟨s,q',e,hkd,_⟩:=first_kind _ h1;rw[wl_tl,e];refine⟨s,q'++tl r,rfl,?_,by simp,?_⟩
 ·rw[hkd]
  unfold kdN
  repeat' split
  all_goals decide
 rw[ok1]at h1;rw[one]at e;have hq:s::(q'++tl r)=(s::q')++tl r:=rfl;unfold restB;rw[hkd,hq];rcases h1 with ⟨hf,_⟩|⟨_,h1⟩
 ·cases hf
 rcases h1 with ⟨rfl,rfl,rfl,rfl,rfl,hp⟩|⟨rfl,rfl,rfl,rfl,hl,hg⟩|⟨rfl,rfl,rfl,rfl,rfl,rfl⟩|⟨rfl,rfl,rfl,rfl,ht,h96⟩|⟨rfl,rfl,rfl,rfl,rfl,hk⟩|⟨rfl,rfl,rfl,rfl,rfl,hne,hk⟩|⟨rfl,rfl,rfl,rfl,hlab,d,rfl,hdd⟩
 ·rw[if_pos rfl]at e
  show(if(8:Nat)=4 then _ else if(8:Nat)=5 then _ else if(8:Nat)=6 then _ else if(8:Nat)=8 then _ else _)=_;rw[if_neg (by decide),if_neg (by decide),if_neg (by decide),if_pos rfl,←e,spanK_all E0 8 (by decide) _ (tl_tail r) _ hp.k8]
 ·rw[if_neg (by decide),if_pos rfl]at e
  simp only[List.cons.injEq]at e;rw[←e.2];rfl
 ·rw[if_neg (by decide),if_neg (by decide),if_pos rfl]at e
  simp only[List.cons.injEq]at e;rw[←e.2];rfl
 ·rw[if_neg (by decide),if_neg (by decide),if_neg (by decide),if_pos rfl]at e
  simp only[List.cons.injEq]at e;obtain⟨hs,hq2⟩:=e;obtain⟨g1,g2⟩:=ticksL_ge lines;have r4:=(kind_fence E0 (ticksL lines) g1 info h96).2;rw[hs]at r4;show(if(4:Nat)=4 then _ else _)=_;rw[if_pos rfl,r4,←hq2,List.append_assoc];show(fenceL (ticksL lines) (lines++(List.replicate (ticksL lines) 96::tl r))).2=tl r;rw[fenceL_ok (ticksL lines) (by omega) (tl r) lines g2]
 ·rw[if_neg (by decide),if_neg (by decide),if_neg (by decide),if_neg (by decide),if_pos rfl]at e
  show(if(5:Nat)=4 then _ else if(5:Nat)=5 then _ else _)=_;rw[if_neg (by decide),if_pos rfl]
  have h5:∀x∈s::q',kindOf E0 x=5:=by
   rw[←e];split
   ·intro x hx;rw[List.mem_singleton]at hx;rw[hx];exact kind_quote E0 []
   ·intro x hx;obtain⟨y,_,rfl⟩:=List.mem_map.1 hx;exact kind_quote E0 y
  rw[spanK_all E0 5 (by decide) _ (tl_tail r) _ h5]
 ·rw[if_neg (by decide),if_neg (by decide),if_neg (by decide),if_neg (by decide),if_neg (by decide),if_pos rfl]at e
  show(if(6:Nat)=4 then _ else if(6:Nat)=5 then _ else if(6:Nat)=6 then _ else _)=_;rw[if_neg (by decide),if_neg (by decide),if_pos rfl];have hil:=its_len E0 kids false hk;have hb:=behind_tl E0 (r:=r) (by simpa using hr);have hl:=congrArg List.length e;simp only[List.length_cons]at hl;rw[←e,listL_ok E0 (tl r) hb kids false _ hne hk (by rw[List.length_append];omega)]
 ·simp only[show ¬((8:Int)=1)by decide,show ¬((8:Int)=2)by decide,show ¬((8:Int)=3)by decide,show ¬((8:Int)=4)by decide,show ¬((8:Int)=5)by decide,show ¬((8:Int)=6)by decide,show ¬((8:Int)=7)by decide,if_false,List.cons.injEq]at e
  rw[←e.2];rfl
def pl (j:Nat):List Bk→List (Nat × Nat)
 |[]=>[]
 |b::r=>(j,j+(one b).length)::pl (j+(one b).length+1) r
theorem pl_len:∀(l:List Bk) (j:Nat),(pl j l).length=l.length
 |[],_=>rfl
 |b::r,j=>by rw[pl,List.length_cons,List.length_cons,pl_len r]
theorem spr_pl (xs:List Tx):∀(l:List Bk) (prev:Bool) (j f:Nat),oks E0 false prev l→j≤xs.length→xs.drop j=wl l→xs.length+1≤f+j→spr xs f j=pl j l
 |[],prev,j,f,_,hj,hd,hf=>by
  rw[wl]at hd;cases f with
  |zero=>rfl
  |succ f=>rw[spr,hd];rfl
 |b::r,prev,j,f,h,hj,hd,hf=>by
  obtain⟨s,q,e,hk,h0,hr⟩:=rest_back b h;rw[e]at hd;have hlen:=congrArg List.length hd;rw[List.length_drop,List.length_cons]at hlen;obtain⟨f,rfl⟩:∃f',f=f'+1:=⟨f-1,by omega⟩;have hw:=congrArg List.length (wl_tl b r);rw[e,List.length_cons,List.length_append]at hw
  have hpl:plc xs (restB s q)=j+(one b).length:=by
   unfold plc;rw[hr];omega
  rw[spr_block hd hk,hpl,pl];congr 1
  have hd2:xs.drop (j+(one b).length)=tl r:=by
   rw[←List.drop_drop,hd,←e,wl_tl,List.drop_left]
  obtain⟨k,lv,info,lines,spans,kids⟩:=b;rw[oks]at h;cases r with
  |nil=>
   have h2:xs.drop (j+(one (Bk.mk k lv info lines spans kids)).length)=[]:=hd2;cases f with
   |zero=>rfl
   |succ f=>rw[spr,h2];rfl
  |cons c r=>
   have h2:xs.drop (j+(one (Bk.mk k lv info lines spans kids)).length)=[]::wl (c::r):=hd2;have hl2:=congrArg List.length h2;rw[List.length_drop,List.length_cons]at hl2;obtain⟨t,u,e2,_,_,_⟩:=rest_back c h.2.2;have hl3:=congrArg List.length e2;rw[List.length_cons]at hl3;obtain⟨f,rfl⟩:∃f',f=f'+1:=⟨f-1,by omega⟩;rw[spr_blank h2 (Bk.kind_blank E0)];refine spr_pl xs (c::r) _ _ f h.2.2 (by omega) ?_ (by omega);rw[←List.drop_drop,h2];rfl
theorem sprB_pl {l:List Bk} (h:rgB l=true) (ht:ttAll l≤9000000):sprB (wl l)=pl 0 l:=
 spr_pl (wl l) l false 0 _ (rg_oks h ht).1 (Nat.zero_le _) (List.drop_zero) (by omega)
end Wr
end Go.Proofs.YtpakjdgddomdjabGreatDoor
