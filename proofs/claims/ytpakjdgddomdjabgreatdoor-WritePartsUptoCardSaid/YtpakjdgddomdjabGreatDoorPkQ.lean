import Derived.Test.YtpakjdgddomdjabGreatDoorPkC
import Derived.Test.YtpakjdgddomdjabGreatDoorPkD
import Derived.Test.YtpakjdgddomdjabGreatDoorPkG
import Derived.Test.YtpakjdgddomdjabGreatDoorPkE
set_option linter.unusedVariables false
namespace Go.Proofs.YtpakjdgddomdjabGreatDoor
namespace Utf
open Go.RowKit
theorem nx_parts (f:Nat→Nat) (m:Nat) (h:(nx f m).2≠0):
  nx f m=(acc f (ln (f 0)-1),ln (f 0))∧0<ln (f 0)∧ln (f 0)≤m∧conts f (ln (f 0)-1)=true∧fitsB (acc f (ln (f 0)-1)) (ln (f 0))=true:=by
 unfold nx at h ⊢;split at h
 ·exact absurd rfl h
 ·rename_i h0
  split at h
  ·rename_i h1
   rw[if_neg h0,if_pos h1];exact⟨rfl,by omega,by omega,h1.1,h1.2⟩
  ·exact absurd rfl h
end Utf
namespace Utf
open Go.RowKit
theorem conts_congr (f g:Nat→Nat) (j:Nat) (h:∀i,i≤j→g i=f i):conts g j=conts f j∧acc g j=acc f j:=by
 induction j with
 |zero=>exact⟨rfl,by rw[acc_zero,acc_zero,h 0 (Nat.le_refl _)]⟩
 |succ j ih=>
  obtain⟨h1,h2⟩:=ih (fun i hi=>h i (by omega));exact⟨by rw[conts_succ,conts_succ,h1,h (j+1) (Nat.le_refl _)],by rw[acc_succ,acc_succ,h2,h (j+1) (Nat.le_refl _)]⟩
theorem nx_congr (f g:Nat→Nat) (m m':Nat) (h:(nx f m).2≠0) (hg:∀i,i<(nx f m).2→g i=f i) (hm:(nx f m).2≤m'):nx g m'=nx f m:=by
 obtain⟨e,h0,h1,h2,h3⟩:=nx_parts f m h;rw[e]at hg hm ⊢;have hg':∀i,i<ln (f 0)→g i=f i:=hg;have hm':ln (f 0)≤m':=hm;have e0:g 0=f 0:=hg' 0 h0;obtain⟨c1,c2⟩:=conts_congr f g (ln (f 0)-1) (fun i hi=>hg' i (by omega));rw[←e0]at h0 hm' h2 h3 c1 c2 ⊢;rw[nx_yes g m' h0 hm' (by rw[c1];exact h2) (by rw[c2];exact h3),c2]
theorem conts_at (f:Nat→Nat) (i j:Nat) (h:conts f j=true) (h1:1≤i) (h2:i≤j):128≤f i∧f i≤191:=by
 obtain⟨i',rfl⟩:∃i',i=i'+1:=⟨i-1,by omega⟩;exact(conts_more f i' (conts_le f (i'+1) j h h2)).2
theorem bt_out (t:ByteArray) (k:Nat) (h:t.size≤k):bt t k=0:=by
 unfold bt;rw[List.getD_eq_getElem?_getD,List.getElem?_eq_none (by simpa using h)];rfl
theorem bt_append_right (a b:ByteArray) (k:Nat):bt (a++b) (a.size+k)=bt b k:=by
 unfold bt;rw[List.getD_eq_getElem?_getD,List.getD_eq_getElem?_getD,ByteArray.data_append,Array.toList_append,List.getElem?_append_right (by simp)];congr 3;simp
theorem bt_append_left (a b:ByteArray) (k:Nat) (h:k<a.size):bt (a++b) k=bt a k:=by
 unfold bt;rw[List.getD_eq_getElem?_getD,List.getD_eq_getElem?_getD,ByteArray.data_append,Array.toList_append,List.getElem?_append_left (by simpa using h)]
theorem bt_extract (t:ByteArray) (i m k:Nat) (hm:m≤t.size) (h:i+k<m):bt (t.extract i m) k=bt t (i+k):=by
 unfold bt;rw[List.getD_eq_getElem?_getD,List.getD_eq_getElem?_getD,ByteArray.data_extract,Array.toList_extract,List.extract_eq_take_drop,List.getElem?_take_of_lt (by omega),List.getElem?_drop]
theorem bt_suffix (t:ByteArray) (i k:Nat):bt (t.extract i t.size) k=bt t (i+k):=by
 by_cases h:i+k<t.size
 ·exact bt_extract t i t.size k (Nat.le_refl _) h
 ·rw[bt_out t (i+k) (by omega),bt_out _ _ (by rw[ByteArray.size_extract];omega)]
theorem nxt_suffix (t:ByteArray) (i k:Nat):nxt (t.extract i t.size) k=nxt t (i+k):=by
 unfold nxt;rw[ByteArray.size_extract]
 have e1:(fun j=>bt (t.extract i t.size) (k+j))=fun j=>bt t (i+k+j):=by
  funext j;rw[bt_suffix,Nat.add_assoc]
 rw[e1,show min t.size t.size-i-k=t.size-(i+k)by omega]
theorem nxt_append_right (a b:ByteArray) (k:Nat):nxt (a++b) (a.size+k)=nxt b k:=by
 unfold nxt
 have e1:(fun j=>bt (a++b) (a.size+k+j))=fun j=>bt b (k+j):=by
  funext j;rw[Nat.add_assoc,bt_append_right]
 rw[e1,ByteArray.size_append,show a.size+b.size-(a.size+k)=b.size-k by omega]
theorem nxt_append_left (a b:ByteArray) (k:Nat) (h:(nxt a k).2≠0):nxt (a++b) k=nxt a k:=by
 have hle:=nxt_le a k;refine nx_congr (fun i=>bt a (k+i)) _ (a.size-k) _ h (fun i hi=>?_) ?_
 ·have hi':i<(nxt a k).2:=hi
  exact bt_append_left a b (k+i) (by omega)
 ·show(nxt a k).2≤_
  rw[ByteArray.size_append];omega
theorem nxt_front (t:ByteArray) (m k:Nat) (hm:m≤t.size) (h:(nxt t k).2≠0) (hk:k+(nxt t k).2≤m):nxt (t.extract 0 m) k=nxt t k:=by
 refine nx_congr (fun i=>bt t (k+i)) _ (t.size-k) _ h (fun i hi=>?_) ?_
 ·have hi':i<(nxt t k).2:=hi
  show bt (t.extract 0 m) (k+i)=bt t (k+i);rw[bt_extract t 0 m (k+i) hm (by omega),Nat.zero_add]
 ·show(nxt t k).2≤_
  rw[ByteArray.size_extract];omega
theorem nxt_parts (t:ByteArray) (k:Nat) (h:(nxt t k).2≠0):(nxt t k).2=ln (bt t k)∧conts (fun i=>bt t (k+i)) (ln (bt t k)-1)=true:=by
 obtain⟨e,h0,h1,h2,h3⟩:=nx_parts (fun i=>bt t (k+i)) (t.size-k) h;exact⟨congrArg Prod.snd e,h2⟩
theorem goesAt_suffix (t:ByteArray) (i k:Nat):goesAt (t.extract i t.size) k=goesAt t (i+k):=by
 have hsz:(t.extract i t.size).size=t.size-i:=by rw[ByteArray.size_extract];omega
 obtain⟨m,hm⟩:∃m,t.size-(i+k)=m:=⟨_,rfl⟩;induction m using Nat.strongRecOn generalizing k with
 |ind m ih=>
  by_cases h:t.size≤i+k
  ·rw[goesAt_end _ _ h,goesAt_end _ _ (by omega)]
  ·have e:=nxt_suffix t i k
   by_cases h0:(nxt t (i+k)).2=0
   ·rw[goesAt_bad t _ (by omega) h0,goesAt_bad _ k (by omega) (by rw[e];exact h0)]
   ·rw[←goesAt_step t _ (by omega) h0,←goesAt_step _ k (by omega) (by rw[e];exact h0),e,Nat.add_assoc]
    exact ih _ (by omega) _ rfl
theorem goesAt_append_right (a b:ByteArray) (k:Nat):goesAt (a++b) (a.size+k)=goesAt b k:=by
 have hsz:=ByteArray.size_append (a:=a) (b:=b);obtain⟨m,hm⟩:∃m,b.size-k=m:=⟨_,rfl⟩;induction m using Nat.strongRecOn generalizing k with
 |ind m ih=>
  by_cases h:b.size≤k
  ·rw[goesAt_end _ _ h,goesAt_end _ _ (by omega)]
  ·have e:=nxt_append_right a b k
   by_cases h0:(nxt b k).2=0
   ·rw[goesAt_bad b _ (by omega) h0,goesAt_bad _ _ (by omega) (by rw[e];exact h0)]
   ·rw[←goesAt_step b _ (by omega) h0,←goesAt_step _ _ (by omega) (by rw[e];exact h0),e,Nat.add_assoc]
    exact ih _ (by omega) _ rfl
theorem goesAt_append_left (a b:ByteArray) (k:Nat) (hk:k≤a.size) (h:goesAt a k=true):goesAt (a++b) k=goesAt (a++b) a.size:=by
 have hsz:=ByteArray.size_append (a:=a) (b:=b);obtain⟨m,hm⟩:∃m,a.size-k=m:=⟨_,rfl⟩;induction m using Nat.strongRecOn generalizing k with
 |ind m ih=>
  by_cases h1:k=a.size
  ·rw[h1]
  ·have h0:(nxt a k).2≠0:=fun h0=>by rw[goesAt_bad a k (by omega) h0]at h;cases h
   have e:=nxt_append_left a b k h0;have hle:=nxt_le a k;rw[←goesAt_step _ k (by omega) (by rw[e];exact h0),e];exact ih _ (by omega) _ (by omega) (by rw[goesAt_step a k (by omega) h0];exact h) rfl
theorem goes_join (a b:ByteArray) (ha:goesAt a 0=true) (hb:goesAt b 0=true):goesAt (a++b) 0=true:=by
 rw[goesAt_append_left a b 0 (Nat.zero_le _) ha,←hb];exact goesAt_append_right a b 0
def Bnd (t:ByteArray) (p:Nat):Prop:=goesAt t p=true∧p≤t.size∧∀m,p≤m→m≤t.size→goesAt (t.extract 0 m) 0=goesAt (t.extract 0 m) p
theorem Bnd.start (t:ByteArray) (h:goesAt t 0=true):Bnd t 0:=⟨h,Nat.zero_le _,fun _ _ _=>rfl⟩
theorem Bnd.nonzero {t:ByteArray} {p:Nat} (h:Bnd t p) (hp:p<t.size):(nxt t p).2≠0:=fun h0=>by
 have h1:=h.1;rw[goesAt_bad t p hp h0]at h1;cases h1
theorem Bnd.step {t:ByteArray} {p:Nat} (h:Bnd t p) (hp:p<t.size):Bnd t (p+(nxt t p).2):=by
 have h0:=h.nonzero hp;have hle:=nxt_le t p;refine⟨by rw[goesAt_step t p hp h0];exact h.1,by omega,fun m h1 h2=>?_⟩;have e:=nxt_front t m p h2 h0 h1;have hs:(t.extract 0 m).size=m:=by rw[ByteArray.size_extract];omega
 rw[h.2.2 m (by omega) h2,←goesAt_step (t.extract 0 m) p (by omega) (by rw[e];exact h0),e]
theorem Bnd.parts {t:ByteArray} {k:Nat} (h:Bnd t k):goesAt (t.extract 0 k) 0=true∧goesAt (t.extract k t.size) 0=true:=by
 have hs:(t.extract 0 k).size=k:=by rw[ByteArray.size_extract];have:=h.2.1;omega
 exact⟨by rw[h.2.2 k (Nat.le_refl _) h.2.1];exact goesAt_end _ _ (by omega),by rw[goesAt_suffix,Nat.add_zero];exact h.1⟩
theorem chk_zero_iff (t:ByteArray):chk t=0↔¬1048576<(t.size:Int)∧zeroB t=false∧goesAt t 0=true:=by
 unfold chk;split
 ·rename_i h;exact⟨fun h1=>by omega,fun h1=>absurd h h1.1⟩
 ·rename_i h
  split
  ·rename_i h2;exact⟨fun h1=>by omega,fun h1=>by rw[h2]at h1;cases h1.2.1⟩
  ·rename_i h2
   split
   ·rename_i h3;exact⟨fun _=>⟨h,by simpa using h2,h3⟩,fun _=>rfl⟩
   ·rename_i h3;exact⟨fun h1=>by omega,fun h1=>absurd h1.2.2 h3⟩
end Utf
namespace Sp
open Tk (S S_of S_list S_size S_app at_data)
open Utf (goesAt goesAt_end nxt nxt_parts nxt_le bt bt_eq ln conts_at Bnd goes_join)
theorem nxt_one (t:ByteArray) (k:Nat) (h:k<t.size) (hb:t[k].toNat≤127):(nxt t k).2=1:=by
 have h0:bt t (k+0)≤127:=by rw[Nat.add_zero,bt_eq t k h];exact hb
 have hl:ln (bt t (k+0))=1:=by unfold ln;rw[if_pos h0]
 unfold nxt Go.Proofs.YtpakjdgddomdjabGreatDoor.Utf.nx;simp only[];rw[hl];rw[if_neg (by omega),if_pos ⟨rfl,rfl⟩]
theorem goes_one_ascii (t:ByteArray) (h:∀k (hk:k<t.size),t[k].toNat≤127):∀n k,t.size-k≤n→goesAt t k=true
 |0,k,hn=>goesAt_end t k (by omega)
 |n+1,k,hn=>by
  by_cases hk:k<t.size
  ·have h1:=nxt_one t k hk (h k hk)
   have h2:=Go.Proofs.YtpakjdgddomdjabGreatDoor.Utf.goesAt_step t k hk (by omega);rw[h1]at h2;rw[←h2];exact goes_one_ascii t h n (k+1) (by omega)
  ·exact goesAt_end t k (by omega)
def V (l:List UInt8):Prop:=goesAt (S l) 0=true
theorem V_nil:V []:=goesAt_end _ _ (by rw[S_size];exact Nat.le_refl _)
theorem V_app {a b:List UInt8} (ha:V a) (hb:V b):V (a++b):=by
 unfold V at *;rw[←S_app];exact goes_join _ _ ha hb
theorem S_extractV (l:List UInt8) (a b:Nat):(S l).extract a b=S ((l.drop a).take (b-a)):=by
 rw[←S_of ((S l).extract a b),ext_list,S_list]
theorem V_first {c:UInt8} {r:List UInt8} (h:V (c::r)):∃u r0,c::r=u++r0∧V u∧V r0∧((u=[c]∧c.toNat≤127)∨(u≠[]∧∀x∈u,128≤x.toNat)):=by
 have hsz:(S (c::r)).size=r.length+1:=by rw[S_size];rfl
 have hB:=Bnd.start (S (c::r)) h;have h0:=hB.nonzero (by omega);have hst:=hB.step (by omega);rw[Nat.zero_add]at hst;have hpt:=hst.parts;have hp:=nxt_parts (S (c::r)) 0 h0;have hle:=nxt_le (S (c::r)) 0;generalize (nxt (S (c::r)) 0).2=n at *
 have hb0:bt (S (c::r)) 0=c.toNat:=by
  rw[bt_eq _ 0 (by omega)];have:=at_data (S (c::r)) 0 (by omega);rw[S_list,List.drop_zero]at this;exact(congrArg UInt8.toNat (List.cons.inj this).1).symm
 rw[hb0]at hp;rw[S_extractV,S_extractV,hsz,Nat.sub_zero,List.drop_zero]at hpt;have hr0:((c::r).drop n).take (r.length+1-n)=(c::r).drop n:=List.take_of_length_le (by rw[List.length_drop,List.length_cons];omega);rw[hr0]at hpt;refine⟨(c::r).take n,(c::r).drop n,(List.take_append_drop _ _).symm,hpt.1,hpt.2,?_⟩;by_cases hc:c.toNat≤127
 ·have hl:ln c.toNat=1:=by unfold ln;rw[if_pos hc]
  rw[hl]at hp;rw[hp.1];exact Or.inl ⟨rfl,hc⟩
 ·refine Or.inr ⟨?_,fun x hx=>?_⟩
  ·intro e
   have:=congrArg List.length e;rw[List.length_take,List.length_cons,List.length_nil]at this;omega
  ·obtain⟨i,hi,hxi⟩:=List.getElem_of_mem hx
   rw[List.length_take,List.length_cons]at hi
   have hbi:bt (S (c::r)) i=x.toNat:=by
    rw[bt_eq _ i (by omega),←hxi];rw[List.getElem_take];have h1:=at_data (S (c::r)) i (by omega);rw[S_list]at h1;have h2:=List.drop_eq_getElem_cons (l:=c::r) (i:=i) (by rw[List.length_cons];omega);rw[h2]at h1;rw[(List.cons.inj h1).1]
   rcases Nat.eq_zero_or_pos i with rfl |hi0
   ·rw[←hbi,hb0];omega
   ·have:=conts_at _ i _ hp.2 hi0 (by omega)
    rw[Nat.zero_add,hbi]at this;exact this.1
theorem V_one {c:UInt8} (hc:c.toNat≤127):V [c]:=by
 unfold V;refine goes_one_ascii (S [c]) (fun k hk=>?_) 1 0 (by rw[S_size];exact Nat.le_refl _);have hk0:k=0:=by rw[S_size]at hk;simp at hk;exact hk
 subst hk0;exact hc
theorem V_tail {c:UInt8} {r:List UInt8} (hc:c.toNat≤127) (h:V (c::r)):V r:=by
 obtain⟨u,r0,he,hu,hr,h1 |h1⟩:=V_first h
 ·rw[h1.1]at he
  have:=(List.cons.inj he).2;rw[this];exact hr
 ·exfalso
  cases u with
  |nil=>exact h1.1 rfl
  |cons x u=>
   have hx:=(List.cons.inj he).1;have:=h1.2 x (List.mem_cons_self ..);rw[←hx]at this;omega
theorem V_cut {c:UInt8} (hc:c.toNat≤127):∀(n:Nat) (a b:List UInt8),a.length≤n→V (a++c::b)→V a∧V b
 |n,[],b,_,h=>⟨V_nil,V_tail hc h⟩
 |0,x::a,b,hn,_=>by simp at hn
 |n+1,x::a,b,hn,h=>by
  rw[List.length_cons]at hn;obtain⟨u,r0,he,hu,hr,h1 |h1⟩:=V_first (c:=x) (r:=a++c::b) h
  ·rw[h1.1]at he
   have he2:a++c::b=r0:=(List.cons.inj he).2;rw[←he2]at hr;obtain⟨ha,hb⟩:=V_cut hc n a b (by omega) hr;exact⟨V_app (V_one h1.2) ha,hb⟩
  ·have he':(x::a)++c::b=u++r0:=he
   rcases List.append_eq_append_iff.1 he' with ⟨p,h2,h3⟩|⟨p,h2,h3⟩
   ·cases p with
    |nil=>
     rw[List.append_nil]at h2;rw[List.nil_append]at h3;rw[←h2]at *;rw[←h3]at hr;exact⟨hu,V_tail hc hr⟩
    |cons y p=>
     exfalso;have hy:=(List.cons.inj h3).1;have:=h1.2 y (by rw[h2];simp);rw[←hy]at this;omega
   ·rw[h3]at hr
    have hul:0<u.length:=List.length_pos_iff.2 h1.1;have hpl:=congrArg List.length h2;rw[List.length_append,List.length_cons]at hpl;obtain⟨ha,hb⟩:=V_cut hc n p b (by omega) hr;rw[h2];exact⟨V_app hu ha,hb⟩
end Sp
namespace Sp
open Tk (cls)
def Wt (l:List UInt8):Prop:=V l∧(0:UInt8)∉l∧(13:UInt8)∉l
theorem Wt_nil:Wt []:=⟨V_nil,by simp,by simp⟩
theorem Wt_app {a b:List UInt8} (ha:Wt a) (hb:Wt b):Wt (a++b):=
 ⟨V_app ha.1 hb.1,fun h=>(List.mem_append.1 h).elim ha.2.1 hb.2.1,fun h=>(List.mem_append.1 h).elim ha.2.2 hb.2.2⟩
theorem Wt_tail {c:UInt8} {r:List UInt8} (hc:c.toNat≤127) (h:Wt (c::r)):Wt r:=
 ⟨V_tail hc h.1,fun hm=>h.2.1 (List.mem_cons_of_mem _ hm),fun hm=>h.2.2 (List.mem_cons_of_mem _ hm)⟩
theorem Wt_one {c:UInt8} {r:List UInt8} (hc:c.toNat≤127) (h:Wt (c::r)):Wt [c]:=
 ⟨V_one hc,fun hm=>h.2.1 (by rw[List.mem_singleton]at hm;rw[hm];exact List.mem_cons_self ..),fun hm=>h.2.2 (by rw[List.mem_singleton]at hm;rw[hm];exact List.mem_cons_self ..)⟩
theorem Wt_96:∀n:Nat,Wt (List.replicate n 96)
 |0=>Wt_nil
 |n+1=>by
  rw[List.replicate_succ];exact Wt_app (a:=[96]) ⟨V_one (by decide),by decide,by decide⟩ (Wt_96 n)
def prB (a b:UInt8):Bool:=(decide (a=10)&&(spB b||decide (b=10)))||(decide (b=10)&&spB a)
theorem txB_pr (a b:UInt8) (r:List UInt8):txB (a::b::r)=(!prB a b&&txB (b::r)):=txB_two a b r
theorem pr_left {a b:UInt8} (h:edB a=false):prB a b=false:=by
 unfold edB at h;rw[Bool.or_eq_false_iff]at h;unfold prB;rw[h.1,h.2];simp
theorem pr_right {a b:UInt8} (h:edB b=false):prB a b=false:=by
 unfold edB at h;rw[Bool.or_eq_false_iff]at h;unfold prB;rw[h.1,h.2];simp
theorem txB_tail {c:UInt8} {r:List UInt8} (h:txB (c::r)=true):txB r=true:=by
 cases r with
 |nil=>rfl
 |cons d r=>rw[txB_pr,Bool.and_eq_true]at h;exact h.2
theorem txB_app:∀(a b:List UInt8),txB a=true→txB b=true→(∀x y,a.getLast? = some x→b.head? = some y→prB x y=false)→txB (a++b)=true
 |[],b,_,hb,_=>hb
 |[x],[],_,_,_=>rfl
 |[x],y::b,_,hb,h=>by
  rw[show [x]++y::b=x::y::b from rfl,txB_pr,h x y rfl rfl,hb];rfl
 |x::z::a,b,ha,hb,h=>by
  rw[txB_pr,Bool.and_eq_true]at ha;have ih:=txB_app (z::a) b ha.2 hb (fun x y h1 h2=>h x y (by rw[List.getLast?_cons_cons];exact h1) h2);rw[List.cons_append]at ih;rw[List.cons_append,List.cons_append,txB_pr,ih,Bool.and_true];exact ha.1
theorem hard96:edB 96=false:=by decide
theorem hard_cls {d:UInt8} (h:cls d=4):edB d=false∧d.toNat≤127:=by
 unfold cls at h;split at h
 ·cases h
 ·split at h
  ·cases h
  ·split at h
   ·rename_i h10 h9 hr
    refine⟨?_,?_⟩
    ·unfold edB spB
     rw[decide_eq_false (fun e=>h9 (Or.inr e)),decide_eq_false (fun e=>h9 (Or.inl e)),decide_eq_false (fun e=>h10 (Or.inl e))];rfl
    ·simp only[UInt8.le_iff_toNat_le]at hr
     have k47:(47:UInt8).toNat=47:=rfl;have k64:(64:UInt8).toNat=64:=rfl;have k96:(96:UInt8).toNat=96:=rfl;have k126:(126:UInt8).toNat=126:=rfl;omega
   ·cases h
end Sp
namespace Sp
open Go.RowKit
end Sp
end Go.Proofs.YtpakjdgddomdjabGreatDoor
