import Derived.Test.YtpakjdgddomdjabGreatDoorPkE
import Derived.Test.YtpakjdgddomdjabGreatDoorPkG
import Derived.Test.YtpakjdgddomdjabGreatDoorPkA
import Derived.Test.YtpakjdgddomdjabGreatDoorPkQ
import Derived.Test.YtpakjdgddomdjabGreatDoorPkD
set_option linter.unusedVariables false
namespace Go.Proofs.YtpakjdgddomdjabGreatDoor
namespace Sp
theorem hs_not {c:UInt8} {s:List UInt8} (h:hsB c s=false):c∉s:=by
 intro hm;have:hsB c s=true:=List.any_eq_true.2 ⟨c,hm,by simp⟩;rw[h]at this;cases this
mutual
theorem fit1_ok (e k:Bool):∀x:Sp,okOne e k x=true→fit1 e k x
 |.mk q s l,h=>by
  have ih:=fun e k p h=>fits_ok e k p l h
  rw[okOne,Bool.and_eq_true]at h;have h2:=h.2;rw[fit1];split at h2
  ·rename_i h1
   rw[Bool.and_eq_true]at h2;refine Or.inl ⟨h1,List.isEmpty_iff.1 h2.1,?_⟩;rintro rfl;exact absurd h2.2 (by decide)
  ·split at h2
   ·rename_i h1
    simp only[Bool.and_eq_true,Bool.not_eq_true']at h2;refine Or.inr (Or.inl ⟨h1,List.isEmpty_iff.1 h2.1,?_,hs_not h2.2.2.1⟩);rintro rfl;exact absurd h2.2.1 (by decide)
   ·split at h2
    ·rename_i h1
     simp only[Bool.and_eq_true,Bool.not_eq_true']at h2;refine Or.inr (Or.inr (Or.inl ⟨h1,List.isEmpty_iff.1 h2.1,?_,h2.2.2.1,ih _ _ _ h2.2.2.2⟩));rintro rfl;exact absurd h2.2.1 (by decide)
    ·split at h2
     ·rename_i h1
      simp only[Bool.and_eq_true,Bool.not_eq_true']at h2;have hd:=h2.1;unfold dsB at hd;rw[Bool.and_eq_true]at hd;refine Or.inr (Or.inr (Or.inr ⟨h1,?_,fun c hc=>?_,?_,h2.2.2.1,ih _ _ _ h2.2.2.2⟩))
      ·rintro rfl
       exact absurd hd.2 (by decide)
      ·rw[dcB_eq];exact List.all_eq_true.1 hd.1 c hc
      ·rintro rfl
       exact absurd h2.2.1 (by decide)
     ·cases h2
theorem fits_ok (e k:Bool) (p:Int):∀L:List Sp,okAll e k p L=true→fits e k p L
 |[],_=>by rw[fits];trivial
 |.mk q s l::r,h=>by
  rw[okAll_cons,Bool.and_eq_true,Bool.and_eq_true]at h;rw[fits];refine⟨fit1_ok e k (.mk q s l) h.1.1,?_,fits_ok e k q r h.2⟩;rintro⟨h1,h2⟩;have h3:=h.1.2;rw[show(Sp.mk q s l).kind=q from rfl,decide_eq_true h1,decide_eq_true h2]at h3;cases h3
end
theorem fits_rt {l:List Sp} (h:rtB l=true):fits false false 0 l:=by
 unfold rtB at h;rw[Bool.and_eq_true]at h;exact fits_ok _ _ _ l h.1
theorem esc_one (c:UInt8) (r:List UInt8):esc (c::r)=(if marked c=true then [92,c]else [c])++esc r:=by
 rw[esc];split<;>rfl
theorem esc_both:∀a b:List UInt8,esc (a++b)=esc a++esc b
 |[],b=>by simp[esc]
 |c::a,b=>by
  rw[List.cons_append,esc_one,esc_one,esc_both a b,List.append_assoc]
end Sp
namespace Sp
open Tk (S S_list)
open Utf (chk_zero_iff zeroB)
theorem Wt_of_ck {s:List UInt8} (h:ckB s=true) (h13:(13:UInt8)∉s):Wt s:=by
 unfold ckB at h;obtain⟨_,h2,h3⟩:=(chk_zero_iff (S s)).1 (of_decide_eq_true h);unfold zeroB at h2;rw[S_list]at h2;exact⟨h3,of_decide_eq_false h2,h13⟩
def Gd (l:List UInt8):Prop:=Wt l∧txB l=true
theorem Gd_app {a b:List UInt8} (ha:Gd a) (hb:Gd b) (hj:∀x y,a.getLast? = some x→b.head? = some y→prB x y=false):Gd (a++b):=
 ⟨Wt_app ha.1 hb.1,txB_app a b ha.2 hb.2 hj⟩
theorem Wt_c {c:UInt8} (h:c.toNat≤127) (h0:c≠0) (h13:c≠13):Wt [c]:=
 ⟨V_one h,fun hm=>h0 (List.mem_singleton.1 hm).symm,fun hm=>h13 (List.mem_singleton.1 hm).symm⟩
theorem Gd_c {c:UInt8} (h:c.toNat≤127) (h0:c≠0) (h13:c≠13):Gd [c]:=⟨Wt_c h h0 h13,rfl⟩
theorem big_not {x:UInt8} (h:128≤x.toNat):marked x=false:=by
 cases hm:marked x with
 |false=>rfl
 |true=>
  have:=(hard_cls (marked_cls x hm)).2;omega
theorem esc_big:∀u:List UInt8,(∀x∈u,128≤x.toNat)→esc u=u
 |[],_=>rfl
 |c::r,h=>by
  rw[esc_one,big_not (h c (List.mem_cons_self ..)),esc_big r (fun x hx=>h x (List.mem_cons_of_mem _ hx))];rfl
theorem Wt_esc:∀(n:Nat) (l:List UInt8),l.length≤n→Wt l→Wt (esc l)
 |_,[],_,h=>h
 |0,c::r,hn,_=>by simp at hn
 |n+1,c::r,hn,h=>by
  obtain⟨u,r0,he,hu,hr0,hcase⟩:=V_first h.1;rcases hcase with ⟨h1,hc⟩|⟨hne,hbig⟩
  ·have ih:=Wt_esc n r (by simp at hn;omega) (Wt_tail hc h)
   rw[esc_one];cases hm:marked c with
   |true=>rw[if_pos rfl];exact Wt_app (a:=[92,c]) (Wt_app (a:=[92]) (Wt_c (by decide) (by decide) (by decide)) (Wt_one hc h)) ih
   |false=>rw[if_neg (by simp)];exact Wt_app (Wt_one hc h) ih
  ·have h0:=h.2.1
   have h13:=h.2.2;have hl:=congrArg List.length he;rw[List.length_append]at hl;rw[he]at h0 h13;have hul:0<u.length:=List.length_pos_iff.2 hne;have ih:=Wt_esc n r0 (by omega) ⟨hr0,fun hm=>h0 (List.mem_append_right _ hm),fun hm=>h13 (List.mem_append_right _ hm)⟩;rw[he,esc_both,esc_big u hbig];exact Wt_app ⟨hu,fun hm=>h0 (List.mem_append_left _ hm),fun hm=>h13 (List.mem_append_left _ hm)⟩ ih
theorem ed92:edB 92=false:=by decide
theorem head_esc (d:UInt8) (r:List UInt8):(esc (d::r)).head? = some (if marked d=true then 92 else d):=by
 rw[esc_one];split<;>rfl
theorem tx_esc:∀l:List UInt8,txB l=true→txB (esc l)=true
 |[],_=>rfl
 |c::r,h=>by
  have ih:=tx_esc r (txB_tail h);rw[esc_one];refine txB_app _ _ ?_ ih ?_
  ·split
   ·rw[txB_pr,pr_left ed92];rfl
   ·rfl
  ·intro x y hx hy
   have hxc:x=c:=by
    split at hx<;>simpa using hx.symm
   subst hxc;cases r with
   |nil=>cases hy
   |cons d r=>
    rw[head_esc]at hy;rw[txB_pr,Bool.and_eq_true]at h;split at hy
    ·rw[←Option.some.inj hy];exact pr_right ed92
    ·rw[←Option.some.inj hy];simpa using h.1
theorem tx_no10:∀l:List UInt8,(10:UInt8)∉l→txB l=true
 |[],_=>rfl
 |[_],_=>rfl
 |a::b::r,h=>by
  have ha:a≠10:=fun e=>h (by rw[e];exact List.mem_cons_self ..)
  have hb:b≠10:=fun e=>h (by rw[e];exact List.mem_cons_of_mem _ (List.mem_cons_self ..))
  rw[txB_pr,tx_no10 (b::r) (fun hm=>h (List.mem_cons_of_mem _ hm))];unfold prB;rw[decide_eq_false ha,decide_eq_false hb];rfl
def Hard (l:List UInt8):Prop:=∃a z,l.head? = some a∧l.getLast? = some z∧edB a=false∧edB z=false
theorem dc_good {c:UInt8} (h:dcB c=true):edB c=false∧c.toNat≤127∧c≠0∧c≠13:=by
 have hall:∀c:UInt8,dcB c=true→edB c=false∧c.toNat≤127∧c≠0∧c≠13:=by
  intro c;have:∀n:Fin 256,dcB (UInt8.ofFin n)=true→edB (UInt8.ofFin n)=false∧(UInt8.ofFin n).toNat≤127∧UInt8.ofFin n≠0∧UInt8.ofFin n≠13:=by decide +kernel
  exact this c.toFin
 exact hall c h
theorem Gd_dest:∀s:List UInt8,(∀c∈s,dcB c=true)→Gd s
 |[],_=>⟨Wt_nil,rfl⟩
 |c::s,h=>by
  obtain⟨h1,h2,h3,h4⟩:=dc_good (h c (List.mem_cons_self ..));refine Gd_app (a:=[c]) (Gd_c h2 h3 h4) (Gd_dest s (fun x hx=>h x (List.mem_cons_of_mem _ hx))) ?_;intro x y hx _;rw[←Option.some.inj hx];exact pr_left h1
theorem Gd_wrap {a z:List UInt8} {m:List UInt8} (ha:Gd a) (hz:Gd z) (hm:Gd m) (hax:∀x,a.getLast? = some x→edB x=false) (hzx:∀x,z.head? = some x→edB x=false):Gd (a++(m++z)):=by
 refine Gd_app ha (Gd_app hm hz (fun x y _ hy=>pr_right (hzx y hy))) (fun x y hx _=>pr_left (hax x hx))
theorem ticksOf_pos (s:List UInt8):0<ticksOf s:=(ticksOf_ok s).2
theorem rep_ends (n:Nat) (hn:0<n):(∀x,(List.replicate n (96:UInt8)).getLast? = some x→edB x=false)∧(∀x,(List.replicate n (96:UInt8)).head? = some x→edB x=false):=by
 constructor
 ·intro x hx
  rw[(List.mem_replicate.1 (List.mem_of_getLast? hx)).2];exact hard96
 ·intro x hx
  rw[(List.mem_replicate.1 (List.mem_of_mem_head? hx)).2];exact hard96
theorem Gd_code {s:List UInt8} (hW:Wt s) (h10:(10:UInt8)∉s):Gd (List.replicate (ticksOf s) 96++(padded s++List.replicate (ticksOf s) 96)):=by
 have hr:Gd (List.replicate (ticksOf s) 96):=⟨Wt_96 _,tx_no10 _ (fun h=>absurd (List.mem_replicate.1 h).2 (by decide))⟩
 have hp:Gd (padded s):=by
  refine⟨?_,tx_no10 _ (padded_lf s h10)⟩;unfold padded;split
  ·exact Wt_app (a:=[32]) (Wt_c (by decide) (by decide) (by decide)) (Wt_app hW (Wt_c (by decide) (by decide) (by decide)))
  ·exact hW
 exact Gd_wrap hr hr hp (rep_ends _ (ticksOf_pos s)).1 (rep_ends _ (ticksOf_pos s)).2
theorem hard_code (n:Nat) (hn:0<n) (m:List UInt8):Hard (List.replicate n 96++(m++List.replicate n 96)):=by
 obtain⟨k,rfl⟩:∃k,n=k+1:=⟨n-1,by omega⟩;refine⟨96,96,rfl,?_,hard96,hard96⟩;rw[←List.append_assoc,List.replicate_succ',←List.append_assoc,List.getLast?_append];rfl
theorem wr1_at (x:Sp):wr1 x=if x.kind=1 then esc x.s else if x.kind=2 then List.replicate (ticksOf x.s) 96++(padded x.s++List.replicate (ticksOf x.s) 96)
  else if x.kind=3 then 42::(wrs x.kids++[42])else if x.kind=4 then 91::(wrs x.kids++(93::40::(x.s++[41])))else []:=by
 obtain⟨k,s,kids⟩:=x;rw[wr1];rfl
theorem wrs_at (x:Sp) (r:List Sp):wrs (x::r)=wr1 x++wrs r:=by rw[wrs]
theorem ed_42:edB 42=false:=by decide
theorem ed_91:edB 91=false:=by decide
theorem ed_41:edB 41=false:=by decide
theorem ed_93:edB 93=false:=by decide
theorem one_last {c x:UInt8} (h:[c].getLast? = some x):x=c:=(Option.some.inj h).symm
mutual
theorem wr1_gd (e k:Bool):∀x:Sp,okOne e k x=true→Gd (wr1 x)∧(x.kind≠1→Hard (wr1 x))
 |.mk q s l,h=>by
  have ih:=fun e k p h=>(wrs_gd e k p l h).1
  rw[okOne,Bool.and_eq_true]at h;obtain⟨hck,h2⟩:=h;rw[wr1_at]
  show Gd (if q=1 then esc s else if q=2 then List.replicate (ticksOf s) 96++(padded s++List.replicate (ticksOf s) 96)
   else if q=3 then 42::(wrs l++[42])else if q=4 then 91::(wrs l++(93::40::(s++[41])))else [])∧(q≠1→Hard (if q=1 then esc s else if q=2 then List.replicate (ticksOf s) 96++(padded s++List.replicate (ticksOf s) 96)
   else if q=3 then 42::(wrs l++[42])else if q=4 then 91::(wrs l++(93::40::(s++[41])))else []))
  by_cases q1:q=1
  ·rw[if_pos q1,Bool.and_eq_true]at h2
   unfold ttB at h2;rw[Bool.and_eq_true,Bool.and_eq_true,Bool.not_eq_true',Bool.not_eq_true']at h2;have hW:=Wt_of_ck hck (hs_not h2.2.2.2);rw[if_pos q1];exact⟨⟨Wt_esc _ s (Nat.le_refl _) hW,tx_esc s h2.2.1⟩,fun hn=>absurd q1 hn⟩
  ·rw[if_neg q1]at h2 ⊢
   by_cases q2:q=2
   ·rw[if_pos q2]at h2 ⊢
    simp only[Bool.and_eq_true,Bool.not_eq_true']at h2;have hW:=Wt_of_ck hck (hs_not h2.2.2.2);exact⟨Gd_code hW (hs_not h2.2.2.1),fun _=>hard_code _ (ticksOf_pos s) _⟩
   ·rw[if_neg q2]at h2 ⊢
    by_cases q3:q=3
    ·rw[if_pos q3]at h2 ⊢
     simp only[Bool.and_eq_true,Bool.not_eq_true']at h2;have hk:=ih _ _ _ h2.2.2.2;have g42:Gd [42]:=Gd_c (by decide) (by decide) (by decide);refine⟨Gd_wrap (a:=[42]) g42 g42 hk (fun x hx=>by rw[one_last hx];exact ed_42) (fun x hx=>by rw[←Option.some.inj hx];exact ed_42),fun _=>⟨42,42,rfl,?_,ed_42,ed_42⟩⟩;rw[←List.cons_append,List.getLast?_append];rfl
    ·rw[if_neg q3]at h2 ⊢
     by_cases q4:q=4
     ·rw[if_pos q4]at h2 ⊢
      simp only[Bool.and_eq_true,Bool.not_eq_true']at h2;have hk:=ih _ _ _ h2.2.2.2;have hd:=h2.1;unfold dsB at hd;rw[Bool.and_eq_true]at hd;have hs:=Gd_dest s (fun c hc=>List.all_eq_true.1 hd.1 c hc);have g91:Gd [91]:=Gd_c (by decide) (by decide) (by decide);have g93:Gd [93,40]:=Gd_app (a:=[93]) (b:=[40]) (Gd_c (by decide) (by decide) (by decide)) (Gd_c (by decide) (by decide) (by decide)) (fun x y hx _=>by rw[one_last hx];exact pr_left ed_93);have g41:Gd [41]:=Gd_c (by decide) (by decide) (by decide);have hz:Gd (93::40::(s++[41])):=Gd_wrap (a:=[93,40]) g93 g41 hs (fun x hx=>by rw[←Option.some.inj hx];decide) (fun x hx=>by rw[←Option.some.inj hx];exact ed_41);refine⟨Gd_wrap (a:=[91]) g91 hz hk (fun x hx=>by rw[one_last hx];exact ed_91) (fun x hx=>by rw[←Option.some.inj hx];exact ed_93),fun _=>⟨91,41,rfl,?_,ed_91,ed_41⟩⟩;rw[show 91::(wrs l++(93::40::(s++[41])))=(91::(wrs l++(93::40::s)))++[41]by simp,List.getLast?_append];rfl
     ·rw[if_neg q4]at h2
      cases h2
theorem wrs_gd (e k:Bool) (p:Int):∀L:List Sp,okAll e k p L=true→Gd (wrs L)∧(p=1→∀y,(wrs L).head? = some y→edB y=false)
 |[],_=>⟨by rw[wrs];exact⟨Wt_nil,rfl⟩,fun _ y hy=>by rw[wrs]at hy;cases hy⟩
 |x::r,h=>by
  rw[okAll_cons,Bool.and_eq_true,Bool.and_eq_true]at h;obtain⟨⟨ho,hp⟩,hr⟩:=h;obtain⟨h1,h2⟩:=wr1_gd e k x ho;obtain⟨h3,h4⟩:=wrs_gd e k x.kind r hr;rw[wrs_at];refine⟨Gd_app h1 h3 ?_,?_⟩
  ·intro a b ha hb
   by_cases hx:x.kind=1
   ·exact pr_right (h4 hx b hb)
   ·obtain⟨_,z,_,hz,_,hez⟩:=h2 hx
    rw[hz]at ha;rw[←Option.some.inj ha];exact pr_left hez
  ·intro hp1 y hy
   have hx:x.kind≠1:=by
    intro hx;rw[hp1,hx]at hp;cases hp
   obtain⟨a,_,ha,_,hea,_⟩:=h2 hx;rw[List.head?_append,ha]at hy;rw[←Option.some.inj hy];exact hea
end
end Sp
namespace Sp
end Sp
end Go.Proofs.YtpakjdgddomdjabGreatDoor
