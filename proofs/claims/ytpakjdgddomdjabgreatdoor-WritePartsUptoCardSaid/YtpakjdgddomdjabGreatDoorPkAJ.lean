import Derived.Test.YtpakjdgddomdjabGreatDoorPkAD
import Derived.Test.YtpakjdgddomdjabGreatDoorPkAB
set_option linter.unusedVariables false
namespace Go.Proofs.YtpakjdgddomdjabGreatDoor
namespace Pa
open Bk (Tx itemL dropBlank kindOf)
open Kd (E0)
structure Tl (T:List Tx):Prop where
 hd:T=[]∨∃t r,T=t::r∧kindOf E0 t=1
 it:itemL E0 T=([],T)
 nx:dropBlank E0 T=[]∨∃t r,dropBlank E0 T=t::r∧kindOf E0 t≠6
variable {T:List Tx}
end Pa
end Go.Proofs.YtpakjdgddomdjabGreatDoor
namespace Go.Proofs.YtpakjdgddomdjabGreatDoor
namespace Pa
open Bk (Tx Bk fenceL spanK itemL dropBlank kindOf closes inner)
open Ln (run)
open Kd (E0)
theorem item_on {T:List Tx} (h:itemL E0 T=([],T)):∀l:List Tx,itemL E0 (l++T)=((itemL E0 l).1,(itemL E0 l).2++T)
 |[]=>by rw[List.nil_append,h];rfl
 |s::l=>by
  have ih:=item_on h l;rw[List.cons_append,itemL,itemL];split
  ·rfl
  ·rw[ih]
   split
   ·rfl
   ·rfl
theorem item_pre:∀l:List Tx,∃u,l=u++(itemL E0 l).2∧itemL E0 u=((itemL E0 l).1,[])
 |[]=>⟨[],rfl,rfl⟩
 |s::l=>by
  obtain⟨u,h1,h2⟩:=item_pre l;cases hi:inner s with
  |none=>
   have:itemL E0 (s::l)=([],s::l):=by rw[itemL,hi]
   exact⟨[],by rw[this];rfl,by rw[this];rfl⟩
  |some x=>
   by_cases hc:(itemL E0 l).1=[]∧kindOf E0 s=1
   ·have:itemL E0 (s::l)=([],s::l):=by rw[itemL,hi];exact if_pos hc
    exact⟨[],by rw[this];rfl,by rw[this];rfl⟩
   ·have h3:itemL E0 (s::l)=(x::(itemL E0 l).1,(itemL E0 l).2):=by rw[itemL,hi];exact if_neg hc
    refine⟨s::u,by rw[h3,List.cons_append,←h1],?_⟩;rw[h3,itemL,hi];simp only;rw[h2,if_neg hc]
theorem span_pre (k:Nat):∀l:List Tx,l=(spanK E0 k l).1++(spanK E0 k l).2∧spanK E0 k (spanK E0 k l).1=((spanK E0 k l).1,[])
 |[]=>⟨rfl,rfl⟩
 |s::l=>by
  obtain⟨h1,h2⟩:=span_pre k l;by_cases hk:kindOf E0 s=k
  ·have:spanK E0 k (s::l)=(s::(spanK E0 k l).1,(spanK E0 k l).2):=by rw[spanK,if_pos hk]
   rw[this];refine⟨by rw[List.cons_append,←h1],?_⟩;rw[spanK,if_pos hk,h2]
  ·have:spanK E0 k (s::l)=([],s::l):=by rw[spanK,if_neg hk]
   rw[this];exact⟨rfl,rfl⟩
theorem fence_pre (n:Nat):∀l:List Tx,∃u,l=u++(fenceL n l).2∧fenceL n u=((fenceL n l).1,[])
 |[]=>⟨[],rfl,rfl⟩
 |s::l=>by
  obtain⟨u,h1,h2⟩:=fence_pre n l;by_cases hc:closes s n=true
  ·have:fenceL n (s::l)=([],l):=by rw[fenceL,if_pos hc]
   exact⟨[s],by rw[this];rfl,by rw[this,fenceL,if_pos hc]⟩
  ·have:fenceL n (s::l)=(s::(fenceL n l).1,(fenceL n l).2):=by rw[fenceL,if_neg hc]
   exact⟨s::u,by rw[this,List.cons_append,←h1],by rw[this,fenceL,if_neg hc,h2]⟩
theorem blanks_of:∀r:List Tx,∃T,r=T++dropBlank E0 r∧∀t∈T,kindOf E0 t=1
 |[]=>⟨[],rfl,fun t h=>by cases h⟩
 |s::r=>by
  obtain⟨T,h1,h2⟩:=blanks_of r;by_cases hk:kindOf E0 s=1
  ·refine⟨s::T,by rw[dropBlank,if_pos hk,List.cons_append,←h1],fun t ht=>?_⟩
   rcases List.mem_cons.1 ht with rfl |ht
   ·exact hk
   ·exact h2 t ht
  ·exact⟨[],by rw[dropBlank,if_neg hk];rfl,fun t h=>by cases h⟩
theorem blank_on:∀(T L:List Tx),(∀t∈T,kindOf E0 t=1)→dropBlank E0 (T++L)=dropBlank E0 L
 |[],_,_=>rfl
 |s::T,L,h=>by
  rw[List.cons_append,dropBlank,if_pos (h s (List.mem_cons_self ..))];exact blank_on T L (fun t ht=>h t (List.mem_cons_of_mem _ ht))
theorem item_stop6 {t:Tx} (h:kindOf E0 t=6) (r:List Tx):itemL E0 (t::r)=([],t::r):=by
 have hi:inner t=none:=by
  rcases kd6 h with rfl |⟨q,rfl⟩
  ·decide
  ·exact Bk.inner_none (c:=45) (by decide) _
 rw[itemL,hi]
theorem item_blanks:∀(T:List Tx) (X:List Tx),(∀t∈T,kindOf E0 t=1)→itemL E0 X=([],X)→itemL E0 (T++X)=([],T++X)
 |[],_,_,h=>h
 |s::T,X,hT,h=>by
  have ih:=item_blanks T X (fun t ht=>hT t (List.mem_cons_of_mem _ ht)) h;rw[List.cons_append,itemL];split
  ·rfl
  ·rw[ih,if_pos ⟨rfl,hT s (List.mem_cons_self ..)⟩]
theorem lst_pre:∀(n:Nat) (s:Tx) (l:List Tx),l.length≤n→∃u,l=u++(lst (s::l)).2∧lst (s::u)=((lst (s::l)).1,[])
 |n,s,l,hn=>by
  obtain⟨u1,h1,h2⟩:=item_pre l;rcases lst_cases s l with ⟨hl,_⟩|⟨t,r,hd,hk,hl⟩
  ·rw[hl]
   refine⟨u1,h1,?_⟩;rw[lst_one (Or.inl (by rw[h2];rfl)),h2]
  ·obtain⟨T,hT1,hT2⟩:=blanks_of (itemL E0 l).2
   rw[hd]at hT1;have h4:=((blank_suf E0 (itemL E0 l).2).trans (item_suf E0 l)).length_le;rw[hd]at h4;simp only[List.length_cons]at h4;cases n with
   |zero=>exact absurd h4 (by omega)
   |succ n=>
    obtain⟨u2,h5,h6⟩:=lst_pre n t r (by omega);rw[hl];refine⟨u1++(T++t::u2),?_,?_⟩
    ·rw[List.append_assoc,List.append_assoc,List.cons_append,←h5,←hT1,←h1]
    ·have hst:=item_blanks T (t::u2) hT2 (item_stop6 hk u2)
     have hi:itemL E0 (u1++(T++t::u2))=((itemL E0 l).1,T++t::u2):=by
      rw[item_on hst,h2];rfl
     have hdb:dropBlank E0 (itemL E0 (u1++(T++t::u2))).2=t::u2:=by
      rw[hi,blank_on T _ hT2,dropBlank,if_neg (by rw[hk];decide)]
     rw[lst_more hdb hk,hi,h6]
theorem val_pre (rec:Nat→List Tx→Option (List Bk)) (d:Nat) (s:Tx) (l:List Tx) (hk:kindOf E0 s≠1):∃u,l=u++restB s l∧valB rec d s u=valB rec d s l∧restB s u=[]:=by
 rcases kind_cases s hk with k |k |k |k |k |k |k
 ·exact⟨[],by rw[rest1 (Or.inl k)];rfl,by rw[val2 k,val2 k],by rw[rest1 (Or.inl k)]⟩
 ·exact⟨[],by rw[rest1 (Or.inr (Or.inl k))];rfl,by rw[val3 k,val3 k],by rw[rest1 (Or.inr (Or.inl k))]⟩
 ·obtain⟨u,h1,h2⟩:=fence_pre (run 96 s) l
  exact⟨u,by rw[rest4 k];exact h1,by rw[val4 k,val4 k,h2],by rw[rest4 k,h2]⟩
 ·obtain⟨h1,h2⟩:=span_pre 5 (s::l)
  have hs:spanK E0 5 (s::l)=(s::(spanK E0 5 l).1,(spanK E0 5 l).2):=by rw[spanK,if_pos k]
  rw[hs]at h1 h2;rw[List.cons_append]at h1;injection h1 with _ h1;exact⟨(spanK E0 5 l).1,by rw[rest5 k,hs];exact h1,by rw[val5 k,val5 k,quoted,quoted,h2,hs],by rw[rest5 k,h2]⟩
 ·obtain⟨u,h1,h2⟩:=lst_pre l.length s l (Nat.le_refl _)
  exact⟨u,by rw[rest6 k];exact h1,by rw[val6 k,val6 k,h2],by rw[rest6 k,h2]⟩
 ·exact⟨[],by rw[rest1 (Or.inr (Or.inr k))];rfl,by rw[val7 k,val7 k],by rw[rest1 (Or.inr (Or.inr k))]⟩
 ·obtain⟨h1,h2⟩:=span_pre 8 (s::l)
  have hs:spanK E0 8 (s::l)=(s::(spanK E0 8 l).1,(spanK E0 8 l).2):=by rw[spanK,if_pos k]
  rw[hs]at h1 h2;rw[List.cons_append]at h1;injection h1 with _ h1;exact⟨(spanK E0 8 l).1,by rw[rest8 k,hs];exact h1,by rw[val8 k,val8 k,paraL,paraL,h2,hs],by rw[rest8 k,h2]⟩
end Pa
namespace Pa
open Bk (Tx Bk kindOf)
open Kd (E0)
def Rise (n:Nat):Nat→List (Nat × Nat)→Prop
 |_,[]=>True
 |j,p::r=>j≤p.1∧p.1<p.2∧p.2≤n∧Rise n p.2 r
theorem rise_mono {n i j:Nat} {ps:List (Nat × Nat)} (h:Rise n j ps) (hi:i≤j):Rise n i ps:=by
 cases ps with
 |nil=>trivial
 |cons p r=>exact⟨Nat.le_trans hi h.1,h.2⟩
theorem drop_parts {xs:List Tx} {j:Nat} {s:Tx} {l:List Tx} (h:xs.drop j=s::l):j<xs.length∧l=xs.drop (j+1)∧∀(hj:j<xs.length),xs[j]=s:=by
 have hlt:j<xs.length:=by
  have:=congrArg List.length h;rw[List.length_drop]at this;simp at this;omega
 have:=List.drop_eq_getElem_cons hlt;rw[h]at this;injection this with h1 h2;exact⟨hlt,h2,fun _=>h1.symm⟩
theorem spr_rise (xs:List Tx):∀f j,j≤xs.length→Rise xs.length j (spr xs f j)
 |0,j,h=>trivial
 |f+1,j,h=>by
  cases hd:xs.drop j with
  |nil=>rw[spr,hd];trivial
  |cons s l=>
   obtain⟨hlt,hl,_⟩:=drop_parts hd;by_cases hk:kindOf E0 s=1
   ·rw[spr_blank hd hk]
    exact rise_mono (spr_rise xs f (j+1) hlt) (by omega)
   ·rw[spr_block hd hk]
    have hsuf:restB s l <:+ xs.drop (j+1):=hl▸rest_suf s l;have hg:=plc_ge hsuf (by omega);exact⟨Nat.le_refl _,by show j<plc xs (restB s l);omega,plc_le _ _,spr_rise xs f _ (plc_le _ _)⟩
theorem sprB_rise (xs:List Tx):Rise xs.length 0 (sprB xs):=spr_rise xs _ 0 (by omega)
def cut (xs:List Tx) (p q:Nat):List Tx:=(xs.drop p).take (q-p)
theorem cut_cons {xs:List Tx} {p q:Nat} (h:p<q) (hp:p<xs.length):cut xs p q=xs[p]::(xs.drop (p+1)).take (q-(p+1)):=by
 unfold cut;rw[List.drop_eq_getElem_cons hp,show q-p=(q-(p+1))+1 by omega,List.take_succ_cons]
theorem cut_block {xs:List Tx} {j:Nat} {s:Tx} {l:List Tx} (hd:xs.drop j=s::l):cut xs j (plc xs (restB s l))=s::l.take (l.length-(restB s l).length):=by
 obtain⟨hlt,hl,_⟩:=drop_parts hd;have hlen:=congrArg List.length hd;rw[List.length_drop]at hlen;simp only[List.length_cons]at hlen;have hr:=(rest_suf s l).length_le;unfold cut plc;rw[hd,show xs.length-(restB s l).length-j=(l.length-(restB s l).length)+1 by omega,List.take_succ_cons]
def gat (d:Nat) (xs:List Tx):List (Nat × Nat)→Option (List Bk)
 |[]=>some []
 |p::r=>after (match cut xs p.1 p.2 with |[]=>none |s::u=>valB allE d s u) (gat d xs r)
theorem gat_cons {d:Nat} {xs:List Tx} {p:Nat × Nat} {r:List (Nat × Nat)} {s:Tx} {u:List Tx} (h:cut xs p.1 p.2=s::u):gat d xs (p::r)=after (valB allE d s u) (gat d xs r):=by
 rw[gat,h]
def Good (xs:List Tx) (p:Nat × Nat):Prop:=p.1<p.2∧p.2≤xs.length∧∃s u,cut xs p.1 p.2=s::u∧kindOf E0 s≠1∧restB s u=[]
theorem val_take {rec:Nat→List Tx→Option (List Bk)} {d:Nat} {s:Tx} {l:List Tx} (hk:kindOf E0 s≠1):valB rec d s (l.take (l.length-(restB s l).length))=valB rec d s l∧restB s (l.take (l.length-(restB s l).length))=[]:=by
 obtain⟨u,h1,h2,h3⟩:=val_pre rec d s l hk
 have hu:l.take (l.length-(restB s l).length)=u:=by
  have hlen:l.length-(restB s l).length=u.length:=by
   have:=congrArg List.length h1;rw[List.length_append]at this;omega
  rw[hlen];have ht:(u++restB s l).take u.length=u:=List.take_left;rw[←h1]at ht;exact ht
 rw[hu];exact⟨h2,h3⟩
theorem spr_good (xs:List Tx):∀f j,j≤xs.length→∀p∈spr xs f j,Good xs p
 |0,j,h,p,hp=>by rw[spr]at hp;cases hp
 |f+1,j,h,p,hp=>by
  cases hd:xs.drop j with
  |nil=>rw[spr,hd]at hp;cases hp
  |cons s l=>
   obtain⟨hlt,hl,_⟩:=drop_parts hd;by_cases hk:kindOf E0 s=1
   ·rw[spr_blank hd hk]at hp
    exact spr_good xs f (j+1) hlt p hp
   ·rw[spr_block hd hk]at hp
    have hsuf:restB s l <:+ xs.drop (j+1):=hl▸rest_suf s l;have hg:=plc_ge hsuf (by omega);rcases List.mem_cons.1 hp with rfl |hp
    ·exact⟨by show j<plc xs (restB s l);omega,plc_le _ _,s,_,cut_block hd,hk,(val_take (rec:=allE) (d:=0) hk).2⟩
    ·exact spr_good xs f _ (plc_le _ _) p hp
theorem spr_gat (d:Nat) (hd16:d≤16) (xs:List Tx):∀f j,j≤xs.length→xs.length+1≤f+j→allE d (xs.drop j)=gat d xs (spr xs f j)
 |0,j,h,hf=>absurd hf (by omega)
 |f+1,j,h,hf=>by
  cases hd:xs.drop j with
  |nil=>
   rw[allE_nil hd16,spr,hd];rfl
  |cons s l=>
   obtain⟨hlt,hl,_⟩:=drop_parts hd;by_cases hk:kindOf E0 s=1
   ·rw[spr_blank hd hk,allE_blank hk,hl]
    exact spr_gat d hd16 xs f (j+1) hlt (by omega)
   ·rw[spr_block hd hk,allE_after hd16 hk]
    have hsuf:restB s l <:+ xs.drop (j+1):=hl▸rest_suf s l;have hg:=plc_ge hsuf (by omega);rw[gat_cons (p:=(j,plc xs (restB s l))) (cut_block hd),(val_take (rec:=allE) (d:=d) hk).1,←spr_gat d hd16 xs f _ (plc_le _ _) (by omega),plc_drop (suf_of_drop hsuf)]
theorem all_gat (d:Nat) (hd:d≤16) (xs:List Tx):allE d xs=gat d xs (sprB xs):=by
 have h:=spr_gat d hd xs (xs.length+1) 0 (by omega) (by omega);rwa[List.drop_zero]at h
theorem tot_cut (xs:List Tx) (p q:Nat):tot (cut xs p q)≤tot xs:=by
 unfold cut;have h1:=tot_take (xs.drop p) (q-p);have h2:=tot_drop xs p;omega
end Pa
namespace Pa
open Bk (Tx kindOf itemL dropBlank unitem inner)
open Kd (E0)
def itp (xs:List Tx):Nat→Nat→List (Nat × Nat)
 |0,_=>[]
 |f+1,j=>match xs.drop j with
  |[]=>[]
  |s::l=>if kindOf E0 s=1 then itp xs f (j+1)else if kindOf E0 s=6 then(j,plc xs (itemL E0 l).2)::itp xs f (plc xs (itemL E0 l).2)else []
theorem itp_end {xs:List Tx} (f:Nat):itp xs f xs.length=[]:=by
 cases f with
 |zero=>rfl
 |succ f=>rw[itp,List.drop_length]
theorem itp_blank {xs:List Tx} {f j:Nat} {s:Tx} {l:List Tx} (h:xs.drop j=s::l) (hk:kindOf E0 s=1):itp xs (f+1) j=itp xs f (j+1):=by
 rw[itp,h];exact if_pos hk
theorem itp_item {xs:List Tx} {f j:Nat} {s:Tx} {l:List Tx} (h:xs.drop j=s::l) (hk:kindOf E0 s=6):itp xs (f+1) j=(j,plc xs (itemL E0 l).2)::itp xs f (plc xs (itemL E0 l).2):=by
 rw[itp,h];simp only;rw[if_neg (by omega),if_pos hk]
theorem itp_stop {xs:List Tx} {f j:Nat} {s:Tx} {l:List Tx} (h:xs.drop j=s::l) (h1:kindOf E0 s≠1) (h6:kindOf E0 s≠6):itp xs (f+1) j=[]:=by
 rw[itp,h];simp only;rw[if_neg h1,if_neg h6]
def izd:List Tx→List Tx
 |[]=>[]
 |s::u=>unitem s::u.map (fun x=>(inner x).getD [])
def itm (xs:List Tx) (p:Nat × Nat):List Tx:=izd (cut xs p.1 p.2)
theorem item_take:∀l:List Tx,(itemL E0 l).1=(l.take (l.length-(itemL E0 l).2.length)).map (fun x=>(inner x).getD [])
 |[]=>rfl
 |s::l=>by
  have ih:=item_take l;have hle:=(item_suf E0 l).length_le;unfold itemL;cases hi:inner s with
  |none=>simp
  |some x=>
   simp only;split
   ·simp
   ·simp only[List.length_cons]
    rw[show l.length+1-(itemL E0 l).2.length=(l.length-(itemL E0 l).2.length)+1 by omega,List.take_succ_cons,List.map_cons,hi,←ih];rfl
theorem cut_item {xs:List Tx} {j:Nat} {s:Tx} {l:List Tx} (hd:xs.drop j=s::l):itm xs (j,plc xs (itemL E0 l).2)=unitem s::(itemL E0 l).1:=by
 obtain⟨hlt,hl,_⟩:=drop_parts hd;have hlen:=congrArg List.length hd;rw[List.length_drop]at hlen;simp only[List.length_cons]at hlen;have hr:=(item_suf E0 l).length_le
 have:cut xs j (plc xs (itemL E0 l).2)=s::l.take (l.length-(itemL E0 l).2.length):=by
  unfold cut plc;rw[hd,show xs.length-(itemL E0 l).2.length-j=(l.length-(itemL E0 l).2.length)+1 by omega,List.take_succ_cons]
 unfold itm;simp only;rw[this,izd,←item_take]
def ItOk (xs:List Tx) (ps:List (Nat × Nat)) (L:List Tx):Prop:=
 (ps=[]∧(L=[]∨∃t r,L=t::r∧kindOf E0 t≠6))∨(∃t r,L=t::r∧kindOf E0 t=6∧ps.map (itm xs)=(lst (t::r)).1∧∃p,ps.getLast? = some p∧p.2=plc xs (lst (t::r)).2)
theorem itp_ok (xs:List Tx):∀f j,j≤xs.length→xs.length+1≤f+j→ItOk xs (itp xs f j) (dropBlank E0 (xs.drop j))
 |0,j,h,hf=>absurd hf (by omega)
 |f+1,j,h,hf=>by
  cases hd:xs.drop j with
  |nil=>exact Or.inl ⟨by rw[itp,hd],Or.inl rfl⟩
  |cons s l=>
   obtain⟨hlt,hl,_⟩:=drop_parts hd;by_cases h1:kindOf E0 s=1
   ·rw[itp_blank hd h1,dropBlank,if_pos h1,hl]
    exact itp_ok xs f (j+1) hlt (by omega)
   ·rw[dropBlank,if_neg h1]
    by_cases h6:kindOf E0 s=6
    ·rw[itp_item hd h6]
     have hsuf:(itemL E0 l).2 <:+ xs.drop (j+1):=hl▸item_suf E0 l;have hg:=plc_ge hsuf (by omega);have ih:=itp_ok xs f (plc xs (itemL E0 l).2) (plc_le _ _) (by omega);rw[plc_drop (suf_of_drop hsuf)]at ih;refine Or.inr ⟨s,l,rfl,h6,?_⟩;rcases ih with ⟨e,hn⟩|⟨t,r,e,h6',hm,p,hp,hp2⟩
     ·rw[e,List.map_cons,List.map_nil,cut_item hd]
      have hone:=lst_one (s:=s) hn;rw[hone];exact⟨rfl,_,rfl,rfl⟩
     ·rw[lst_more e h6',List.map_cons,cut_item hd,hm]
      refine⟨rfl,p,?_,hp2⟩;rw[List.getLast?_cons,hp];rfl
    ·rw[itp_stop hd h1 h6]
     exact Or.inl ⟨rfl,Or.inr ⟨s,l,rfl,h6⟩⟩
theorem itp_rise (xs:List Tx):∀f j,j≤xs.length→Rise xs.length j (itp xs f j)
 |0,j,h=>trivial
 |f+1,j,h=>by
  cases hd:xs.drop j with
  |nil=>rw[itp,hd];trivial
  |cons s l=>
   obtain⟨hlt,hl,_⟩:=drop_parts hd;by_cases h1:kindOf E0 s=1
   ·rw[itp_blank hd h1]
    exact rise_mono (itp_rise xs f (j+1) hlt) (by omega)
   ·by_cases h6:kindOf E0 s=6
    ·rw[itp_item hd h6]
     have hsuf:(itemL E0 l).2 <:+ xs.drop (j+1):=hl▸item_suf E0 l;have hg:=plc_ge hsuf (by omega);exact⟨Nat.le_refl _,by show j<plc xs (itemL E0 l).2;omega,plc_le _ _,itp_rise xs f _ (plc_le _ _)⟩
    ·rw[itp_stop hd h1 h6]
     trivial
def itB (xs:List Tx) (i:Nat):List (Nat × Nat):=itp xs (xs.length+1) i
theorem itB_list {xs:List Tx} {i:Nat} (hi:i<xs.length) (hk:kindOf E0 xs[i]=6):(itB xs i).map (itm xs)=(lst (xs.drop i)).1∧∃p,(itB xs i).getLast? = some p∧p.2=plc xs (lst (xs.drop i)).2:=by
 have h:=itp_ok xs (xs.length+1) i (by omega) (by omega);have hd:xs.drop i=xs[i]::xs.drop (i+1):=List.drop_eq_getElem_cons hi;rw[hd,dropBlank,if_neg (by omega)]at h;rcases h with ⟨_,h |⟨t,r,h,h6⟩⟩|⟨t,r,h,h6,h1,h2⟩
 ·cases h
 ·injection h with h
  rw[←h]at h6;exact absurd hk h6
 ·rw[hd,h]
  exact⟨h1,h2⟩
theorem itp_six (xs:List Tx):∀f j,j≤xs.length→∀p∈itp xs f j,p.1<p.2∧p.2≤xs.length∧∃s u,cut xs p.1 p.2=s::u∧kindOf E0 s=6
 |0,j,h,p,hp=>by rw[itp]at hp;cases hp
 |f+1,j,h,p,hp=>by
  cases hd:xs.drop j with
  |nil=>rw[itp,hd]at hp;cases hp
  |cons s l=>
   obtain⟨hlt,hl,hx⟩:=drop_parts hd;by_cases h1:kindOf E0 s=1
   ·rw[itp_blank hd h1]at hp
    exact itp_six xs f (j+1) hlt p hp
   ·by_cases h6:kindOf E0 s=6
    ·rw[itp_item hd h6]at hp
     have hsuf:(itemL E0 l).2 <:+ xs.drop (j+1):=hl▸item_suf E0 l;have hg:=plc_ge hsuf (by omega);rcases List.mem_cons.1 hp with rfl |hp
     ·refine⟨by show j<plc xs (itemL E0 l).2;omega,plc_le _ _,s,(xs.drop (j+1)).take (plc xs (itemL E0 l).2-(j+1)),?_,h6⟩
      show cut xs j (plc xs (itemL E0 l).2)=_;rw[cut_cons (by omega) hlt,hx hlt]
     ·exact itp_six xs f _ (plc_le _ _) p hp
    ·rw[itp_stop hd h1 h6]at hp
     cases hp
theorem rise_len {n:Nat}:∀{ps:List (Nat × Nat)} {j:Nat},j≤n→Rise n j ps→ps.length+j≤n
 |[],j,hj,_=>by simpa using hj
 |p::r,j,hj,h=>by
  have ih:=rise_len h.2.2.1 h.2.2.2;have:=h.1;have:=h.2.1;rw[List.length_cons];omega
end Pa
end Go.Proofs.YtpakjdgddomdjabGreatDoor
