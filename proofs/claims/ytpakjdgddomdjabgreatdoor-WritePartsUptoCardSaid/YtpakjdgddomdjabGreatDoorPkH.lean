import Derived.Test.YtpakjdgddomdjabGreatDoorPkG
import Derived.Test.YtpakjdgddomdjabGreatDoorPkY
import Derived.Test.YtpakjdgddomdjabGreatDoorPkB
import Derived.Shelf.SlSortCmp.WholeK
import Derived.Deep.RegionLaw
import Derived.Test.YtpakjdgddomdjabGreatDoorSortRun
import Derived.Test.YtpakjdgddomdjabGreatDoorShelfB
set_option linter.unusedVariables false
namespace Go.Proofs.YtpakjdgddomdjabGreatDoor
namespace Sp
structure Pc where
 kind:Nat
 s:List UInt8
 raw:List UInt8
def raws:List Pc→List UInt8
 |[]=>[]
 |p::P=>p.raw++raws P
def tailOf:List Pc→Option (List UInt8 × List UInt8)
 |[]=>none
 |p::P=>if p.kind=5 then some (p.s.tail.dropLast,raws P)else none
def AsText (p:Pc) (P:List Pc):Prop:=p.s≠[]∧∀e l L,gl e l L (p.raw++raws P)=gl e l (snocT L p.s) (raws P)
def AsCode (p:Pc) (P:List Pc):Prop:=∀e l L,gl e l L (p.raw++raws P)=gl e l (L++[.mk 2 p.s []]) (raws P)
def Good:List Pc→Prop
 |[]=>True
 |p::P=>Good P∧((p.kind=0∧AsText p P)∨(p.kind=1∧AsCode p P)∨(p.kind=2∧p.s=[42]∧p.raw=[42])∨(p.kind=3∧p.s=[91]∧p.raw=[91])∨(p.kind=4∧p.s=[93]∧p.raw=[93]∧dest (raws P)=tailOf P)∨(p.kind=5∧AsText p P∧2≤p.s.length))
theorem Good.drop {A:List Pc} (h:Good A):∀i,Good (A.drop i):=by
 intro i;induction i generalizing A with
 |zero=>exact h
 |succ i ih=>
  cases A with
  |nil=>exact h
  |cons p P=>exact ih h.1
def isEnd (e l:Bool) (p:Pc):Bool:=(e&&decide (p.kind=2))||(l&&decide (p.kind=4))
def dw (e l:Bool) (P:List Pc):List Pc:=P.dropWhile (fun p=>!isEnd e l p)
theorem dw_cons (e l:Bool) (p:Pc) (P:List Pc):dw e l (p::P)=if isEnd e l p=true then p::P else dw e l P:=by
 unfold dw;rw[List.dropWhile_cons];cases isEnd e l p<;>rfl
theorem dw_len (e l:Bool):∀P:List Pc,(dw e l P).length≤P.length
 |[]=>Nat.le_refl _
 |p::P=>by
  have:=dw_len e l P;rw[dw_cons];split
  ·exact Nat.le_refl _
  ·rw[List.length_cons];omega
theorem dw_head (e l:Bool):∀(P:List Pc) (q:Pc) (Q:List Pc),dw e l P=q::Q→isEnd e l q=true
 |[],q,Q,h=>by cases h
 |p::P,q,Q,h=>by
  rw[dw_cons]at h;split at h
  ·rename_i he
   cases h;exact he
  ·exact dw_head e l P q Q h
theorem dw_mono {e l e' l':Bool} (hm:∀p,isEnd e l p=true→isEnd e' l' p=true):∀P:List Pc,dw e l (dw e' l' P)=dw e l P
 |[]=>rfl
 |p::P=>by
  rw[dw_cons e' l',dw_cons e l];by_cases h:isEnd e l p=true
  ·rw[if_pos (hm p h),if_pos h,dw_cons,if_pos h]
  ·rw[if_neg h]
   by_cases h':isEnd e' l' p=true
   ·rw[if_pos h',dw_cons,if_neg h]
   ·rw[if_neg h',dw_mono hm P]
theorem dw_good {e l:Bool}:∀{P:List Pc},Good P→Good (dw e l P)
 |[],h=>h
 |p::P,h=>by
  rw[dw_cons];split
  ·exact h
  ·exact dw_good h.1
theorem snocT_ne (L:List Sp) (s:List UInt8):snocT L s≠[]:=by
 rcases List.eq_nil_or_concat L with rfl |⟨M,x,rfl⟩
 ·simp[snocT]
 ·rw[List.concat_eq_append,snocT_app]
  split<;>simp
theorem glue_ne {L:List Sp} (h:L≠[]):∀R:List Sp,glue L R≠[]
 |[]=>h
 |x::r=>by
  rw[glue];split
  ·intro e
   exact snocT_ne L x.s (List.append_eq_nil_iff.1 e).1
  ·simp
theorem gl_ne {e l:Bool} {L:List Sp} (h:L≠[]) (t:List UInt8):(gl e l L t).1≠[]:=glue_ne h _
def Ends (e l:Bool) (P:List Pc):Prop:=∀L,(gl e l L (raws P)).2=raws (dw e l P)∧((gl e l L (raws P)).1=[]→L=[]∧dw e l P=P)
theorem raws_star {p:Pc} {P:List Pc} (h:Good (p::P)) (hk:p.kind=2):p.s=[42]∧raws (p::P)=42::raws P:=by
 obtain⟨_,h |h |h |h |h |h⟩:=h
 ·omega
 ·omega
 ·rw[raws,h.2.2];exact⟨h.2.1,rfl⟩
 ·omega
 ·omega
 ·omega
theorem raws_open {p:Pc} {P:List Pc} (h:Good (p::P)) (hk:p.kind=3):p.s=[91]∧raws (p::P)=91::raws P:=by
 obtain⟨_,h |h |h |h |h |h⟩:=h
 ·omega
 ·omega
 ·omega
 ·rw[raws,h.2.2];exact⟨h.2.1,rfl⟩
 ·omega
 ·omega
theorem raws_shut {p:Pc} {P:List Pc} (h:Good (p::P)) (hk:p.kind=4):p.s=[93]∧raws (p::P)=93::raws P∧dest (raws P)=tailOf P:=by
 obtain⟨_,h |h |h |h |h |h⟩:=h
 ·omega
 ·omega
 ·omega
 ·omega
 ·rw[raws,h.2.2.1];exact⟨h.2.1,rfl,h.2.2.2⟩
 ·omega
theorem good_text {p:Pc} {P:List Pc} (h:Good (p::P)) (hk:p.kind=0∨p.kind=5):AsText p P:=by
 obtain⟨_,h |h |h |h |h |h⟩:=h
 ·exact h.2
 ·omega
 ·omega
 ·omega
 ·omega
 ·exact h.2.1
theorem good_long {p:Pc} {P:List Pc} (h:Good (p::P)) (hk:p.kind=5):2≤p.s.length:=by
 obtain⟨_,h |h |h |h |h |h⟩:=h
 ·omega
 ·omega
 ·omega
 ·omega
 ·omega
 ·exact h.2.2
theorem good_code {p:Pc} {P:List Pc} (h:Good (p::P)) (hk:p.kind=1):AsCode p P:=by
 obtain⟨_,h |h |h |h |h |h⟩:=h
 ·omega
 ·exact h.2
 ·omega
 ·omega
 ·omega
 ·omega
theorem good_kind {p:Pc} {P:List Pc} (h:Good (p::P)):p.kind≤5:=by
 obtain⟨_,h |h |h |h |h |h⟩:=h<;>omega
theorem step_end {e l:Bool} {p:Pc} {P:List Pc} (h:Good (p::P)) (hp:isEnd e l p=true) (L:List Sp):gl e l L (raws (p::P))=(L,raws (p::P)):=by
 unfold isEnd at hp;simp only[Bool.or_eq_true,Bool.and_eq_true,decide_eq_true_eq]at hp;rcases hp with ⟨rfl,hk⟩|⟨rfl,hk⟩
 ·rw[(raws_star h hk).2]
  exact gl_stop (by unfold stp stepOf;rw[if_pos (Or.inl ⟨rfl,rfl⟩)])
 ·rw[(raws_shut h hk).2.1]
  exact gl_stop (by unfold stp stepOf;rw[if_pos (Or.inr ⟨rfl,rfl⟩)])
theorem step_star {l:Bool} {p:Pc} {P:List Pc} (h:Good (p::P)) (hk:p.kind=2) (hE:Ends true l P) (L:List Sp):
  (∀q Q,dw true l P=q::Q→q.kind=2→dw true l P≠P→gl false l L (raws (p::P))=gl false l (L++[.mk 3 [] (Rdr true l (raws P)).1]) (raws Q))∧
  ((∀q Q,dw true l P=q::Q→q.kind=2→dw true l P=P)→gl false l L (raws (p::P))=gl false l (snocT L [42]) (raws P)):=by
 rw[(raws_star h hk).2];obtain⟨h1,h2⟩:=hE [];rw[gl_begin]at h1 h2;have hG:=dw_good (e:=true) (l:=l) h.1
 have hst:stp false l 42 (raws P)=match Rdr true l (raws P)with
  |(k::kids,42::t')=>.span (.mk 3 [] (k::kids)) t'
  |_=>.text [42] (raws P):=by
  unfold stp stepOf;rw[if_neg (by simp),if_neg (by simp),if_neg (by decide),if_pos rfl];rfl
 refine⟨fun q Q hq hq2 hne=>?_,fun hno=>?_⟩
 ·rw[hq]at h1 hG
  rw[(raws_star hG hq2).2]at h1;refine gl_span (x:=.mk 3 [] (Rdr true l (raws P)).1) ?_;rw[hst];generalize Rdr true l (raws P)=R at *;obtain⟨A,B⟩:=R;simp only at h1 h2;subst h1;cases A with
  |nil=>exact absurd (h2 rfl).2 hne
  |cons k kids=>rfl
 ·refine gl_text ?_
  rw[hst];split
  ·rename_i k kids t' hr
   rw[hr]at h1 h2;simp only at h1;cases hd:dw true l P with
   |nil=>rw[hd]at h1;cases h1
   |cons q Q=>
    have hq:=dw_head true l P q Q hd;rw[hd]at h1 hG;by_cases hq2:q.kind=2
    ·have:=hno q Q hd hq2
     rw[hd]at this;rw[←this]at hr;have hse:=step_end (e:=true) (l:=l) hG hq [];rw[gl_begin]at hse;rw[hse]at hr;cases hr
    ·unfold isEnd at hq
     simp only[Bool.or_eq_true,Bool.and_eq_true,decide_eq_true_eq]at hq;rcases hq with hq |hq
     ·exact absurd hq.2 hq2
     ·rw[(raws_shut hG hq.2).2.1]at h1
      cases h1
  ·rfl
theorem step_open {e:Bool} {p:Pc} {P:List Pc} (h:Good (p::P)) (hk:p.kind=3) (hE:Ends e true P) (L:List Sp):
  (∀q t Q,dw e true P=q::t::Q→q.kind=4→t.kind=5→dw e true P≠P→gl e false L (raws (p::P))=gl e false (L++[.mk 4 t.s.tail.dropLast (Rdr e true (raws P)).1]) (raws Q))∧
  ((∀q t Q,dw e true P=q::t::Q→q.kind=4→t.kind=5→dw e true P=P)→gl e false L (raws (p::P))=gl e false (snocT L [91]) (raws P)):=by
 rw[(raws_open h hk).2];obtain⟨h1,h2⟩:=hE [];rw[gl_begin]at h1 h2;have hG:=dw_good (e:=e) (l:=true) h.1
 have hst:stp e false 91 (raws P)=match Rdr e true (raws P)with
  |(k::kids,93::t')=>match dest t' with
   |some (s,t'')=>.span (.mk 4 s (k::kids)) t''
   |none=>.text [91] (raws P)
  |_=>.text [91] (raws P):=by
  unfold stp stepOf;rw[if_neg (by simp),if_neg (by simp),if_neg (by decide),if_neg (by decide),if_pos ⟨rfl,rfl⟩];rfl
 refine⟨fun q t Q hq hq2 ht hne=>?_,fun hno=>?_⟩
 ·rw[hq]at h1 hG
  obtain⟨_,hs2,hs3⟩:=raws_shut hG hq2;rw[hs2]at h1;rw[tailOf,if_pos ht]at hs3;refine gl_span (x:=.mk 4 t.s.tail.dropLast (Rdr e true (raws P)).1) ?_;rw[hst];generalize Rdr e true (raws P)=R at *;obtain⟨A,B⟩:=R;simp only at h1 h2;subst h1;cases A with
  |nil=>exact absurd (h2 rfl).2 hne
  |cons k kids=>simp only[hs3]
 ·refine gl_text ?_
  rw[hst];split
  ·rename_i k kids t' hr
   rw[hr]at h1 h2;simp only at h1;cases hd:dw e true P with
   |nil=>rw[hd]at h1;cases h1
   |cons q Q=>
    have hq:=dw_head e true P q Q hd;rw[hd]at h1 hG;by_cases hq2:q.kind=4
    ·obtain⟨_,hs2,hs3⟩:=raws_shut hG hq2
     rw[hs2]at h1;cases h1;rw[hs3];cases Q with
     |nil=>rfl
     |cons t Q=>
      rw[tailOf];by_cases ht:t.kind=5
      ·have:=hno q t Q hd hq2 ht
       rw[hd]at this;rw[←this]at hr;have hse:=step_end (e:=e) (l:=true) hG hq [];rw[gl_begin]at hse;rw[hse]at hr;cases hr
      ·rw[if_neg ht]
    ·unfold isEnd at hq
     simp only[Bool.or_eq_true,Bool.and_eq_true,decide_eq_true_eq]at hq;rcases hq with hq |hq
     ·rw[(raws_star hG hq.2).2]at h1
      cases h1
     ·exact absurd hq.2 hq2
  ·rfl
theorem step_shut {e:Bool} {p:Pc} {P:List Pc} (h:Good (p::P)) (hk:p.kind=4) (L:List Sp):gl e false L (raws (p::P))=gl e false (snocT L [93]) (raws P):=by
 rw[(raws_shut h hk).2.1];refine gl_text ?_;unfold stp stepOf;rw[if_neg (by simp),if_neg (by simp),if_neg (by decide),if_neg (by decide),if_neg (by simp)]
theorem step_open_in {e:Bool} {p:Pc} {P:List Pc} (h:Good (p::P)) (hk:p.kind=3) (L:List Sp):gl e true L (raws (p::P))=gl e true (snocT L [91]) (raws P):=by
 rw[(raws_open h hk).2];refine gl_text ?_;unfold stp stepOf;rw[if_neg (by simp),if_neg (by simp),if_neg (by decide),if_neg (by decide),if_neg (by simp)]
theorem step_text {e l:Bool} {p:Pc} {P:List Pc} (h:Good (p::P)) (hk:p.kind=0∨p.kind=5) (L:List Sp):gl e l L (raws (p::P))=gl e l (snocT L p.s) (raws P):=by
 rw[raws];exact(good_text h hk).2 e l L
theorem step_code {e l:Bool} {p:Pc} {P:List Pc} (h:Good (p::P)) (hk:p.kind=1) (L:List Sp):gl e l L (raws (p::P))=gl e l (L++[.mk 2 p.s []]) (raws P):=by
 rw[raws];exact good_code h hk e l L
theorem isEnd_ne {e l : Bool} {p : Pc} (h : isEnd e l p = false):¬ (e=true∧p.kind=2)∧¬ (l=true∧p.kind=4):=by
 unfold isEnd at h;simp only [Bool.or_eq_false_iff,Bool.and_eq_false_iff,decide_eq_false_iff_not] at h
 exact ⟨fun ⟨a, b⟩ => by rcases h.1 with h | h;· rw [a] at h;cases h
                         · exact h b, fun ⟨a, b⟩ => by rcases h.2 with h | h;· rw [a] at h;cases h
                                                       · exact h b⟩
theorem Ends_next {e l:Bool} {p:Pc} {P Q:List Pc} (hp:isEnd e l p=false) (hQ:Ends e l Q) (hd:dw e l Q=dw e l P) {L L':List Sp} (hne:L'≠[])
  (h:gl e l L (raws (p::P))=gl e l L' (raws Q)):(gl e l L (raws (p::P))).2=raws (dw e l (p::P))∧((gl e l L (raws (p::P))).1=[]→L=[]∧dw e l (p::P)=p::P):=by
 rw[h,dw_cons,hp,if_neg (by simp)];exact⟨by rw[(hQ L').1,hd],fun h0=>absurd h0 (gl_ne hne _)⟩
theorem ends_all:∀(n:Nat) (e l:Bool) (P:List Pc),P.length≤n→Good P→(e=true∨l=true)→Ends e l P
 |n,e,l,[],_,_,_=>fun L=>⟨rfl,fun h=>⟨h,rfl⟩⟩
 |0,e,l,p::P,h,_,_=>by simp at h
 |n+1,e,l,p::P,hn,hG,hel=>by
  rw[List.length_cons]at hn;have ih:=fun e l (Q:List Pc) (hq:Q.length≤P.length) (hg:Good Q) (he:e=true∨l=true)=>ends_all n e l Q (by omega) hg he
  intro L;cases hp:isEnd e l p with
  |true=>
   rw[step_end hG hp,dw_cons,if_pos hp];exact⟨rfl,fun h=>⟨h,rfl⟩⟩
  |false=>
   obtain⟨n1,n2⟩:=isEnd_ne hp;have hP:=ih e l P (Nat.le_refl _) hG.1 hel;have hk:=good_kind hG;have hcs:p.kind=0∨p.kind=1∨p.kind=2∨p.kind=3∨p.kind=4∨p.kind=5:=by omega
   rcases hcs with hk |hk |hk |hk |hk |hk
   ·exact Ends_next hp hP rfl (snocT_ne _ _) (step_text hG (Or.inl hk) L)
   ·exact Ends_next hp hP rfl (by simp) (step_code hG hk L)
   ·have he:e=false:=by cases e<;>simp_all
    subst he;have hl:l=true:=by simpa using hel
    subst hl;have hE:=ih true true P (Nat.le_refl _) hG.1 (Or.inl rfl);obtain⟨s1,s2⟩:=step_star hG hk hE L;by_cases hx:∃q Q,dw true true P=q::Q∧q.kind=2∧dw true true P≠P
    ·obtain⟨q,Q,hq,hq2,hne⟩:=hx
     have hGd:=dw_good (e:=true) (l:=true) hG.1;have hlen:=dw_len true true P;rw[hq]at hGd hlen
     have hd2:dw false true Q=dw false true P:=by
      have:=dw_mono (e:=false) (l:=true) (e':=true) (l':=true) (fun p h=>by unfold isEnd at h ⊢;simp at h ⊢;exact Or.inr h) P;rw[hq,dw_cons,if_neg (by unfold isEnd;simp;omega)]at this;exact this
     exact Ends_next hp (ih false true Q (by simp at hlen;omega) hGd.1 (Or.inr rfl)) hd2 (by simp) (s1 q Q hq hq2 hne)
    ·refine Ends_next hp hP rfl (snocT_ne _ _) (s2 (fun q Q h1 h2=>Classical.byContradiction fun h3=>hx ⟨q,Q,h1,h2,h3⟩))
   ·cases l with
    |true=>exact Ends_next hp hP rfl (snocT_ne _ _) (step_open_in hG hk L)
    |false=>
     have he:e=true:=by simpa using hel
     subst he;have hE:=ih true true P (Nat.le_refl _) hG.1 (Or.inl rfl);obtain⟨s1,s2⟩:=step_open hG hk hE L;by_cases hx:∃q t Q,dw true true P=q::t::Q∧q.kind=4∧t.kind=5∧dw true true P≠P
     ·obtain⟨q,t,Q,hq,hq2,ht,hne⟩:=hx
      have hGd:=dw_good (e:=true) (l:=true) hG.1;have hlen:=dw_len true true P;rw[hq]at hGd hlen
      have hd2:dw true false Q=dw true false P:=by
       have:=dw_mono (e:=true) (l:=false) (e':=true) (l':=true) (fun p h=>by unfold isEnd at h ⊢;simp at h ⊢;exact Or.inl h) P;rw[hq,dw_cons,if_neg (by unfold isEnd;simp;omega),dw_cons,if_neg (by unfold isEnd;simp;omega)]at this;exact this
      exact Ends_next hp (ih true false Q (by simp at hlen;omega) hGd.1.1 (Or.inl rfl)) hd2 (by simp) (s1 q t Q hq hq2 ht hne)
     ·refine Ends_next hp hP rfl (snocT_ne _ _) (s2 (fun q t Q h1 h2 h3=>Classical.byContradiction fun h4=>hx ⟨q,t,Q,h1,h2,h3,h4⟩))
   ·have hl:l=false:=by cases l<;>simp_all
    subst hl;exact Ends_next hp hP rfl (snocT_ne _ _) (step_shut hG hk L)
   ·exact Ends_next hp hP rfl (snocT_ne _ _) (step_text hG (Or.inr hk) L)
def nxt (k:Nat) (A:List Pc) (i:Nat):Nat:=i+((A.drop i).takeWhile (fun p=>!decide (p.kind=k))).length
theorem drop_tw {α:Type} (f:α→Bool):∀l:List α,l.drop (l.takeWhile f).length=l.dropWhile f
 |[]=>rfl
 |x::r=>by
  rw[List.takeWhile_cons,List.dropWhile_cons];split
  ·rw[List.length_cons,List.drop_succ_cons,drop_tw f r]
  ·rfl
theorem nxt_le (k:Nat) (A:List Pc) (i:Nat) (h:i≤A.length):i≤nxt k A i∧nxt k A i≤A.length:=by
 unfold nxt;have:=(List.takeWhile_prefix (fun p:Pc=>!decide (p.kind=k)) (l:=A.drop i)).length_le;rw[List.length_drop]at this;omega
theorem nxt_at {k:Nat} {A:List Pc} {i:Nat} {p:Pc} (h:A[i]? = some p):nxt k A i=if p.kind=k then i else nxt k A (i+1):=by
 have hi:i<A.length:=(List.getElem?_eq_some_iff.1 h).1
 have he:A.drop i=p::A.drop (i+1):=by
  rw[List.drop_eq_getElem_cons hi,(List.getElem?_eq_some_iff.1 h).2]
 unfold nxt;rw[he,List.takeWhile_cons];by_cases hk:p.kind=k
 ·simp[hk]
 ·simp[hk];omega
theorem nxt_end (k:Nat) (A:List Pc):nxt k A A.length=A.length:=by
 unfold nxt;simp
theorem dw_star (A:List Pc) (i:Nat):dw true false (A.drop i)=A.drop (nxt 2 A i):=by
 unfold dw nxt;rw[←List.drop_drop,←drop_tw];congr 2;all_goals (unfold isEnd;simp)
theorem dw_shut (A:List Pc) (i:Nat):dw false true (A.drop i)=A.drop (nxt 4 A i):=by
 unfold dw nxt;rw[←List.drop_drop,←drop_tw];congr 2;all_goals (unfold isEnd;simp)
theorem tw_min {α:Type} (f g:α→Bool):∀l:List α,(l.takeWhile (fun x=>f x&&g x)).length=min (l.takeWhile f).length (l.takeWhile g).length
 |[]=>rfl
 |x::r=>by
  have:=tw_min f g r;rw[List.takeWhile_cons,List.takeWhile_cons,List.takeWhile_cons];cases f x<;>cases g x<;>simp[this]
theorem dw_both (A:List Pc) (i:Nat):dw true true (A.drop i)=A.drop (min (nxt 2 A i) (nxt 4 A i)):=by
 have h:=tw_min (fun p:Pc=>!decide (p.kind=2)) (fun p=>!decide (p.kind=4)) (A.drop i)
 have e:min (nxt 2 A i) (nxt 4 A i)=i+((A.drop i).takeWhile (fun p:Pc=>!decide (p.kind=2)&&!decide (p.kind=4))).length:=by
  unfold nxt;rw[h];omega
 rw[e,←List.drop_drop,drop_tw];unfold dw isEnd;congr 1;funext p;simp
def fin (e l:Bool) (A:List Pc) (i:Nat):Nat:=if e=true then(if l=true then min (nxt 2 A i) (nxt 4 A i)else nxt 2 A i)else(if l=true then nxt 4 A i else A.length)
theorem dw_fin (e l:Bool) (A:List Pc) (i:Nat) (h:e=true∨l=true):dw e l (A.drop i)=A.drop (fin e l A i):=by
 unfold fin;cases e<;>cases l
 ·simp at h
 ·simpa using dw_shut A i
 ·simpa using dw_star A i
 ·simpa using dw_both A i
end Sp
namespace Sp
theorem nxt_mid {q:Nat} {A:List Pc} {k:Nat} (hk:k≤A.length):∀(n:Nat),k+n≤nxt q A k→nxt q A (k+n)=nxt q A k
 |0,_=>rfl
 |n+1,h=>by
  have ih:=nxt_mid (q:=q) hk n (by omega);have hle:=(nxt_le q A k hk).2;have hlt:k+n<A.length:=by omega
  have:=nxt_at (k:=q) (List.getElem?_eq_getElem hlt);rw[ih]at this;split at this
  ·omega
  ·rw[this];rfl
theorem nxt_mid' {q:Nat} {A:List Pc} {k j:Nat} (hk:k≤A.length) (hj:k≤j) (h:j≤nxt q A k):nxt q A j=nxt q A k:=by
 have:=nxt_mid (q:=q) hk (j-k) (by omega);rwa[show k+(j-k)=j by omega]at this
theorem nxt_kind {q:Nat} {A:List Pc} {k m:Nat} (hk:k≤A.length) (hm:m=nxt q A k) (h:m<A.length):A[m].kind=q:=by
 have h1:=nxt_mid' (q:=q) hk (nxt_le q A k hk).1 (Nat.le_refl _);rw[←hm]at h1;have h2:=nxt_at (k:=q) (List.getElem?_eq_getElem h);split at h2
 ·assumption
 ·have:=(nxt_le q A (m+1) (by omega)).1
  omega
theorem fin_le (e l:Bool) (A:List Pc) (i:Nat) (h:i≤A.length):i≤fin e l A i∧fin e l A i≤A.length:=by
 have h2:=nxt_le 2 A i h;have h4:=nxt_le 4 A i h;unfold fin;cases e<;>cases l<;>simp<;>omega
theorem fin_mid {e l:Bool} {A:List Pc} {k j:Nat} (hk:k≤A.length) (hj:k≤j) (h:j≤fin e l A k):fin e l A j=fin e l A k:=by
 unfold fin at *;cases e<;>cases l
 ·rfl
 ·simp only[Bool.false_eq_true,if_false,if_true]at *;exact nxt_mid' hk hj h
 ·simp only[Bool.false_eq_true,if_false,if_true]at *;exact nxt_mid' hk hj h
 ·simp only[if_true]at *
  rw[nxt_mid' hk hj (by omega),nxt_mid' hk hj (by omega)]
theorem fin_at {e l:Bool} {A:List Pc} {i:Nat} (hi:i<A.length):fin e l A i=if isEnd e l A[i]=true then i else fin e l A (i+1):=by
 have h2:=nxt_at (k:=2) (List.getElem?_eq_getElem hi);have h4:=nxt_at (k:=4) (List.getElem?_eq_getElem hi);have l2:=nxt_le 2 A i (by omega);have l4:=nxt_le 4 A i (by omega);unfold fin isEnd;cases e<;>cases l<;>simp only[Bool.false_eq_true,if_false,if_true,Bool.false_and,Bool.true_and,Bool.or_false,Bool.false_or,Bool.or_eq_true,decide_eq_true_eq]
 ·exact h4
 ·exact h2
 ·by_cases k2:A[i].kind=2
  ·rw[if_pos k2]at h2
   rw[if_pos (Or.inl k2)];omega
  ·by_cases k4:A[i].kind=4
   ·rw[if_pos k4]at h4
    rw[if_pos (Or.inr k4)];omega
   ·rw[if_neg k2]at h2
    rw[if_neg k4]at h4;rw[if_neg (by omega),h2,h4]
def flu (L:List Sp) (t:List UInt8):List Sp:=if t=[]then L else L++[.mk 1 t []]
def NL (L:List Sp):Prop:=∀x,L.getLast? = some x→x.kind≠1
theorem flu_nil (L:List Sp):flu L []=L:=if_pos rfl
theorem snoc_flu {L:List Sp} {t s:List UInt8} (hN:NL L) (hs:s≠[]):snocT (flu L t) s=flu L (t++s):=by
 unfold flu;rw[if_neg (show ¬t++s=[]from fun e=>hs (List.append_eq_nil_iff.1 e).2)];by_cases ht:t=[]
 ·subst ht
  rw[if_pos rfl,snocT_other s hN];rfl
 ·rw[if_neg ht,snocT_app,if_pos (kd1 _ _)]
  rfl
theorem tot_app':∀A B:List Sp,totAll (A++B)=totAll A+totAll B
 |[],B=>by simp[totAll]
 |x::A,B=>by rw[List.cons_append,totAll,totAll,tot_app' A B];omega
theorem len_tot:∀L:List Sp,L.length≤totAll L
 |[]=>Nat.zero_le _
 |.mk q s l::L=>by
  have:=len_tot L;rw[totAll,totOne_mk,List.length_cons];omega
theorem snoc_tot (L:List Sp) (s:List UInt8):totAll L≤totAll (snocT L s):=by
 rcases List.eq_nil_or_concat L with rfl |⟨M,x,rfl⟩
 ·simp[totAll]
 ·rw[List.concat_eq_append,snocT_app,tot_app',tot_app']
  obtain⟨q,a,l⟩:=x;split
  ·simp only[Sp.kind,Sp.s,Sp.kids,totAll,totOne_mk,List.length_append];omega
  ·simp only[totAll,totOne_mk];omega
theorem glue_tot (L:List Sp):∀R:List Sp,totAll L≤totAll (glue L R)
 |[]=>Nat.le_refl _
 |x::r=>by
  rw[glue,tot_app'];split
  ·have:=snoc_tot L x.s;omega
  ·rw[tot_app'];omega
theorem flu_tot (L:List Sp) (t:List UInt8):t.length≤totAll (flu L t)∧L.length≤totAll (flu L t):=by
 have:=len_tot L;unfold flu;split
 ·rename_i h;subst h;exact⟨Nat.zero_le _,this⟩
 ·rw[tot_app']
  simp only[totAll,totOne_mk];omega
theorem raws_drop_len:∀(A:List Pc) (i:Nat),(raws (A.drop i)).length≤(raws A).length
 |A,0=>Nat.le_refl _
 |[],i+1=>Nat.le_refl _
 |p::A,i+1=>by
  have:=raws_drop_len A i;rw[List.drop_succ_cons,raws,List.length_append];omega
structure At (e l:Bool) (A:List Pc) (i k:Nat) (L:List Sp) (t:List UInt8):Prop where
 nl:NL L
 rd:gl e l (flu L t) (raws (A.drop k))=Rdr e l (raws (A.drop i))
 le:k≤fin e l A i
 fin:fin e l A k=fin e l A i
theorem At.begin (e l:Bool) (A:List Pc) (i:Nat) (h:i≤A.length):At e l A i i [] []:=
 ⟨(fun x h0=>by cases h0),gl_begin e l _,(fin_le e l A i h).1,rfl⟩
theorem At.bnd {e l:Bool} {A:List Pc} {i k:Nat} {L:List Sp} {t:List UInt8} (h:At e l A i k L t):t.length≤2*(raws A).length∧L.length≤2*(raws A).length∧(flu L t).length≤2*(raws A).length:=by
 have h1:=glue_tot (flu L t) (Rdr e l (raws (A.drop k))).1;have h2:=congrArg (fun x=>totAll x.1) h.rd;have h3:=Rdr_tot e l (raws (A.drop i));have h4:=raws_drop_len A i;have h5:=flu_tot L t;have h6:=len_tot (flu L t);unfold gl at h2;simp only at h2;omega
theorem At.ended {e l:Bool} {A:List Pc} {i k:Nat} {L:List Sp} {t:List UInt8} (hG:Good A) (hi:i≤A.length) (h:At e l A i k L t) (hk:k=A.length∨∃hk:k<A.length,isEnd e l A[k]=true):
  k=Sp.fin e l A i∧flu L t=(Rdr e l (raws (A.drop i))).1:=by
 have hr:=h.rd;have hf:=h.fin;have hle:=(fin_le e l A i hi).2;rcases hk with rfl |⟨hk,he⟩
 ·rw[List.drop_length,raws,gl_nil]at hr
  exact⟨by have:=h.le;omega,by rw[←hr]⟩
 ·rw[fin_at hk,if_pos he]at hf
  have hGk:=hG.drop k;rw[List.drop_eq_getElem_cons hk]at hr hGk;rw[step_end hGk he]at hr;exact⟨hf,by rw[←hr]⟩
theorem At.more {e l:Bool} {A:List Pc} {i k:Nat} {L:List Sp} {t:List UInt8} (h:At e l A i k L t) (hk:k<A.length) (hne:isEnd e l A[k]=false):Sp.fin e l A (k+1)=Sp.fin e l A i∧k+1≤Sp.fin e l A i:=by
 have hf:=h.fin;rw[fin_at hk,if_neg (by rw[hne];simp)]at hf;exact⟨hf,by have:=(fin_le e l A (k+1) (by omega)).1;omega⟩
theorem At.text {e l:Bool} {A:List Pc} {i k:Nat} {L:List Sp} {t s:List UInt8} (h:At e l A i k L t) (hk:k<A.length) (hne:isEnd e l A[k]=false) (hs:s≠[])
  (hg:∀M,gl e l M (raws (A.drop k))=gl e l (snocT M s) (raws (A.drop (k+1)))):At e l A i (k+1) L (t++s):=by
 obtain⟨m1,m2⟩:=h.more hk hne;refine⟨h.nl,?_,m2,m1⟩;rw[←snoc_flu h.nl hs,←hg,h.rd]
theorem At.span {e l:Bool} {A:List Pc} {i k m:Nat} {L:List Sp} {t:List UInt8} {x:Sp} (h:At e l A i k L t) (hx:x.kind≠1) (hi:i≤A.length) (hm:k≤m) (hm2:m≤Sp.fin e l A i)
  (hg:gl e l (flu L t) (raws (A.drop k))=gl e l (flu L t++[x]) (raws (A.drop m))):At e l A i m (flu L t++[x]) []:=by
 have hf:=h.fin;have hl:=(fin_le e l A i hi).2;refine⟨fun y hy=>?_,by rw[flu_nil,←hg,h.rd],hm2,?_⟩
 ·rw[List.getLast?_concat]at hy
  cases hy;exact hx
 ·rw[←hf]
  exact fin_mid (by have:=h.le;omega) hm (by rw[hf];exact hm2)
theorem At.code {e l:Bool} {A:List Pc} {i k:Nat} {L:List Sp} {t:List UInt8} (hG:Good A) (hi:i≤A.length) (h:At e l A i k L t) (hk:k<A.length) (h1:A[k].kind=1):At e l A i (k+1) (flu L t++[.mk 2 A[k].s []]) []:=by
 have hGk:=hG.drop k;rw[List.drop_eq_getElem_cons hk]at hGk;refine h.span (x:=.mk 2 A[k].s []) (show(2:Int)≠1 by decide) hi (by omega) (h.more hk ?_).2 ?_
 ·unfold isEnd;simp[h1]
 ·rw[List.drop_eq_getElem_cons hk]
  exact step_code hGk h1 _
theorem At.other {e l:Bool} {A:List Pc} {i k:Nat} {L:List Sp} {t:List UInt8} (hG:Good A) (h:At e l A i k L t) (hk:k<A.length) (hne:isEnd e l A[k]=false) (h1:A[k].kind≠1∧A[k].kind≠2∧A[k].kind≠3):At e l A i (k+1) L (t++A[k].s):=by
 have hGk:=hG.drop k;rw[List.drop_eq_getElem_cons hk]at hGk;have hkd:=good_kind hGk;by_cases h4:A[k].kind=4
 ·have hl:l=false:=by
   cases l
   ·rfl
   ·exact absurd ⟨rfl,h4⟩ (isEnd_ne hne).2
  subst hl;obtain⟨hs,_⟩:=raws_shut hGk h4;refine h.text hk hne (by rw[hs];simp) (fun M=>?_);rw[List.drop_eq_getElem_cons hk,step_shut hGk h4,hs]
 ·have h05:A[k].kind=0∨A[k].kind=5:=by omega
  refine h.text hk hne (good_text hGk h05).1 (fun M=>?_);rw[List.drop_eq_getElem_cons hk,step_text hGk h05]
theorem drop_ne {A:List Pc} {m:Nat} {q:Pc} {Q:List Pc} (h:A.drop m=q::Q):∃hm:m<A.length,A[m]=q∧A.drop (m+1)=Q:=by
 have hm:m<A.length:=by
  rcases Nat.lt_or_ge m A.length with hm |hm
  ·exact hm
  ·rw[List.drop_eq_nil_of_le hm]at h;cases h
 rw[List.drop_eq_getElem_cons hm]at h;cases h;exact⟨hm,rfl,rfl⟩
theorem At.star_yes {e l:Bool} {A:List Pc} {i k st sh:Nat} {L:List Sp} {t:List UInt8} (hG:Good A) (hi:i≤A.length) (h:At e l A i k L t) (hk:k<A.length) (hne:isEnd e l A[k]=false) (h2:A[k].kind=2)
  (hst:st=nxt 2 A (k+1)) (hsh:sh=nxt 4 A (k+1)) (hb:¬(l=true∧sh<st)∧st<A.length∧k+1<st):
  Sp.fin true l A (k+1)=st∧At e l A i (st+1) (flu L t++[.mk 3 [] (Rdr true l (raws (A.drop (k+1)))).1]) []:=by
 obtain⟨b1,b2,b3⟩:=hb
 have he:e=false:=by
  cases e
  ·rfl
  ·exact absurd ⟨rfl,h2⟩ (isEnd_ne hne).1
 subst he
 have hf:Sp.fin true l A (k+1)=st:=by
  unfold Sp.fin;cases l
  ·simp[hst]
  ·simp only[if_true]
   rw[←hst,←hsh];simp at b1;omega
 have hGk:=hG.drop k;rw[List.drop_eq_getElem_cons hk]at hGk;obtain⟨s1,_⟩:=step_star (l:=l) hGk h2 (ends_all _ true l _ (Nat.le_refl _) hGk.1 (Or.inl rfl)) (flu L t);have hkst:=nxt_kind (q:=2) (by omega) hst b2;have hdw:=dw_fin true l A (k+1) (Or.inl rfl);rw[hf]at hdw;obtain⟨m1,m2⟩:=h.more hk hne;refine⟨hf,h.span (x:=.mk 3 [] (Rdr true l (raws (A.drop (k+1)))).1) (show(3:Int)≠1 by decide) hi (by omega) ?_ ?_⟩
 ·rw[←m1]
  unfold Sp.fin;cases l
  ·simp;omega
  ·simp only[Bool.false_eq_true,if_false,if_true]
   rw[←hsh];simp at b1;rcases Nat.lt_or_ge st sh with h |h
   ·omega
   ·have he:sh=st:=by omega
    have h4:=nxt_kind (q:=4) (by omega) hsh (by omega);simp only[he]at h4;omega
 ·rw[List.drop_eq_getElem_cons hk]
  refine s1 A[st] (A.drop (st+1)) (by rw[hdw,List.drop_eq_getElem_cons b2]) hkst (fun e=>?_);have:=congrArg List.length (hdw.symm.trans e);simp only[List.length_drop]at this;omega
theorem At.star_no {e l:Bool} {A:List Pc} {i k st sh:Nat} {L:List Sp} {t:List UInt8} (hG:Good A) (h:At e l A i k L t) (hk:k<A.length) (hne:isEnd e l A[k]=false) (h2:A[k].kind=2)
  (hst:st=nxt 2 A (k+1)) (hsh:sh=nxt 4 A (k+1)) (hb:¬(¬(l=true∧sh<st)∧st<A.length∧k+1<st)):At e l A i (k+1) L (t++A[k].s):=by
 have he:e=false:=by
  cases e
  ·rfl
  ·exact absurd ⟨rfl,h2⟩ (isEnd_ne hne).1
 subst he;have hGk:=hG.drop k;rw[List.drop_eq_getElem_cons hk]at hGk;have hs:=(raws_star hGk h2).1;refine h.text hk hne (by rw[hs];simp) (fun M=>?_);rw[List.drop_eq_getElem_cons hk,hs];refine(step_star (l:=l) hGk h2 (ends_all _ true l _ (Nat.le_refl _) hGk.1 (Or.inl rfl)) M).2 (fun q Q hq hq2=>?_);have l2:=nxt_le 2 A (k+1) (by omega);have hdw:=dw_fin true l A (k+1) (Or.inl rfl);rw[hdw]at hq ⊢;obtain⟨hm,e1,_⟩:=drop_ne hq;by_cases hl:l=true∧sh<st
 ·exfalso
  obtain⟨rfl,hlt⟩:=hl;have hf:Sp.fin true true A (k+1)=sh:=by unfold Sp.fin;simp only[if_true];rw[←hst,←hsh];omega
  have:=nxt_kind (q:=4) (by omega) (hf.trans hsh) hm;rw[e1]at this;omega
 ·have hf:Sp.fin true l A (k+1)=st:=by
   unfold Sp.fin;cases l
   ·simp[hst]
   ·simp only[if_true]
    rw[←hst,←hsh];simp at hl;omega
  rw[hf]at hm ⊢
  have:st=k+1:=by
   rw[←hst]at l2;rcases Nat.lt_or_ge (k+1) st with h |h
   ·exact absurd ⟨hl,hm,h⟩ hb
   ·omega
  rw[this]
theorem At.open_yes {e l:Bool} {A:List Pc} {i k st sh:Nat} {L:List Sp} {t:List UInt8} (hG:Good A) (hi:i≤A.length) (h:At e l A i k L t) (hk:k<A.length) (hne:isEnd e l A[k]=false) (h3:A[k].kind=3)
  (hst:st=nxt 2 A (k+1)) (hsh:sh=nxt 4 A (k+1)) (hb:l=false∧¬(e=true∧st<sh)∧k+1<sh∧sh+1<A.length∧(A.getD (sh+1) ⟨0,[],[]⟩).kind=5):
  Sp.fin e true A (k+1)=sh∧∃hs:sh+1<A.length,2≤A[sh+1].s.length∧At e l A i (sh+2) (flu L t++[.mk 4 A[sh+1].s.tail.dropLast (Rdr e true (raws (A.drop (k+1)))).1]) []:=by
 obtain⟨rfl,b1,b2,b3,b4⟩:=hb;rw[List.getD_eq_getElem?_getD,List.getElem?_eq_getElem b3]at b4;have b4':A[sh+1].kind=5:=b4
 have hf:Sp.fin e true A (k+1)=sh:=by
  unfold Sp.fin;cases e
  ·simp[hsh]
  ·simp only[if_true]
   rw[←hst,←hsh];simp at b1;omega
 have hGk:=hG.drop k;rw[List.drop_eq_getElem_cons hk]at hGk;obtain⟨s1,_⟩:=step_open (e:=e) hGk h3 (ends_all _ e true _ (Nat.le_refl _) hGk.1 (Or.inr rfl)) (flu L t);have hksh:=nxt_kind (q:=4) (by omega) hsh (by omega);have hdw:=dw_fin e true A (k+1) (Or.inr rfl);rw[hf]at hdw;obtain⟨m1,m2⟩:=h.more hk hne;have hGt:=hG.drop (sh+1);rw[List.drop_eq_getElem_cons b3]at hGt;refine⟨hf,b3,good_long hGt b4',h.span (x:=.mk 4 A[sh+1].s.tail.dropLast (Rdr e true (raws (A.drop (k+1)))).1) (show(4:Int)≠1 by decide) hi (by omega) ?_ ?_⟩
 ·rw[←m1]
  unfold Sp.fin;cases e
  ·simp;omega
  ·simp only[Bool.false_eq_true,if_false,if_true]
   rw[←hst];simp at b1;have l2:=nxt_le 2 A (k+1) (by omega);rw[←hst]at l2;rcases Nat.lt_or_ge (sh+1) st with h |h
   ·omega
   ·have h2:=nxt_kind (q:=2) (by omega) hst (by omega)
    have he:st=sh∨st=sh+1:=by omega
    rcases he with he |he
    ·simp only[he]at h2;omega
    ·simp only[he]at h2;omega
 ·rw[List.drop_eq_getElem_cons hk]
  refine s1 A[sh] A[sh+1] (A.drop (sh+2)) (by rw[hdw,List.drop_eq_getElem_cons (show sh<A.length by omega),List.drop_eq_getElem_cons b3]) hksh b4' (fun e=>?_);have:=congrArg List.length (hdw.symm.trans e);simp only[List.length_drop]at this;omega
theorem At.open_no {e l:Bool} {A:List Pc} {i k st sh:Nat} {L:List Sp} {t:List UInt8} (hG:Good A) (h:At e l A i k L t) (hk:k<A.length) (hne:isEnd e l A[k]=false) (h3:A[k].kind=3)
  (hst:st=nxt 2 A (k+1)) (hsh:sh=nxt 4 A (k+1)) (hb:¬(l=false∧¬(e=true∧st<sh)∧k+1<sh∧sh+1<A.length∧(A.getD (sh+1) ⟨0,[],[]⟩).kind=5)):At e l A i (k+1) L (t++A[k].s):=by
 have hGk:=hG.drop k;rw[List.drop_eq_getElem_cons hk]at hGk;have hs:=(raws_open hGk h3).1;refine h.text hk hne (by rw[hs];simp) (fun M=>?_);rw[List.drop_eq_getElem_cons hk,hs];cases l
 ·refine(step_open (e:=e) hGk h3 (ends_all _ e true _ (Nat.le_refl _) hGk.1 (Or.inr rfl)) M).2 (fun q x Q hq hq4 hx=>?_)
  have l4:=nxt_le 4 A (k+1) (by omega);have hdw:=dw_fin e true A (k+1) (Or.inr rfl);rw[hdw]at hq ⊢;obtain⟨hm,e1,hq'⟩:=drop_ne hq;obtain⟨hm',e2,_⟩:=drop_ne hq';by_cases hl:e=true∧st<sh
  ·exfalso
   obtain⟨rfl,hlt⟩:=hl;have hf:Sp.fin true true A (k+1)=st:=by unfold Sp.fin;simp only[if_true];rw[←hst,←hsh];omega
   have:=nxt_kind (q:=2) (by omega) (hf.trans hst) hm;rw[e1]at this;omega
  ·have hf:Sp.fin e true A (k+1)=sh:=by
    unfold Sp.fin;cases e
    ·simp[hsh]
    ·simp only[if_true]
     rw[←hst,←hsh];simp at hl;omega
   simp only[hf]at hm' e2 ⊢
   have:sh=k+1:=by
    rw[←hsh]at l4;rcases Nat.lt_or_ge (k+1) sh with h |h
    ·refine absurd ⟨rfl,hl,h,hm',?_⟩ hb
     rw[List.getD_eq_getElem?_getD,List.getElem?_eq_getElem hm',Option.getD_some,e2];exact hx
    ·omega
   rw[this]
 ·exact step_open_in hGk h3 M
end Sp
namespace Sp
theorem ticks_behind {t:List UInt8} (h:t.head?≠some 96):∀p:List UInt8,ticks (p++t)=ticks p
 |[]=>by
  cases t with
  |nil=>rfl
  |cons b r=>exact if_neg (fun e=>h (by rw[e];rfl))
 |b::p=>by
  show(if b=96 then ticks (p++t)+1 else 0)=(if b=96 then ticks p+1 else 0);rw[ticks_behind h p]
def rns:Nat→Nat→List UInt8→List (Nat × Nat)
 |0,_,_=>[]
 |f+1,q,t=>match t with
  |[]=>[]
  |b::r=>(if ticks (b::r)=0 then []else [(ticks (b::r),q)])++rns f (q+max (ticks (b::r)) 1) ((b::r).drop (max (ticks (b::r)) 1))
theorem rns_fuel:∀(m f f' q:Nat) (t:List UInt8),t.length≤m→t.length≤f→t.length≤f'→rns f q t=rns f' q t
 |m,0,0,q,t,_,_,_=>rfl
 |m,0,f'+1,q,[],_,_,_=>rfl
 |m,f+1,0,q,[],_,_,_=>rfl
 |m,0,f'+1,q,b::r,_,h,_=>by simp at h
 |m,f+1,0,q,b::r,_,_,h=>by simp at h
 |m,f+1,f'+1,q,[],_,_,_=>rfl
 |0,f+1,f'+1,q,b::r,h,_,_=>by simp at h
 |m+1,f+1,f'+1,q,b::r,h,h1,h2=>by
  have hd:=drop_lt (b:=b) (r:=r);rw[List.length_cons]at h h1 h2 hd;rw[rns,rns,rns_fuel m f f' _ _ (by omega) (by omega) (by omega)]
def Rns (q:Nat) (t:List UInt8):List (Nat × Nat):=rns t.length q t
theorem Rns_nil (q:Nat):Rns q []=[]:=rfl
theorem Rns_cons (q:Nat) (b:UInt8) (r:List UInt8):Rns q (b::r)=(if ticks (b::r)=0 then []else [(ticks (b::r),q)])++Rns (q+max (ticks (b::r)) 1) ((b::r).drop (max (ticks (b::r)) 1)):=by
 have hd:=drop_lt (b:=b) (r:=r);rw[List.length_cons]at hd;unfold Rns;rw[List.length_cons,rns,rns_fuel r.length r.length _ _ _ (by omega) (by omega) (Nat.le_refl _)]
theorem step_le (b:UInt8) (r:List UInt8):max (ticks (b::r)) 1≤(b::r).length:=by
 have:=ticks_le (b::r);rw[List.length_cons]at this ⊢;omega
theorem Rns_mem:∀(m q:Nat) (t:List UInt8),t.length≤m→∀x∈Rns q t,q≤x.2∧x.2+x.1≤q+t.length∧0<x.1
 |m,q,[],_,x,hx=>by cases hx
 |0,q,b::r,h,x,hx=>by simp at h
 |m+1,q,b::r,h,x,hx=>by
  have hd:=drop_lt (b:=b) (r:=r);have hs:=step_le b r;have hle:=ticks_le (b::r);have hld:((b::r).drop (max (ticks (b::r)) 1)).length=(b::r).length-max (ticks (b::r)) 1:=List.length_drop;rw[Rns_cons]at hx;rcases List.mem_append.1 hx with hx |hx
  ·split at hx
   ·cases hx
   ·rw[List.mem_singleton]at hx
    subst hx;simp only;omega
  ·have:=Rns_mem m _ _ (by rw[List.length_cons]at h hd;omega) x hx
   omega
theorem Rns_app {v:List UInt8} (hv:v.head?≠some 96):∀(m q:Nat) (u:List UInt8),u.length≤m→Rns q (u++v)=Rns q u++Rns (q+u.length) v
 |m,q,[],_=>by rw[Rns_nil];rfl
 |0,q,b::u,h=>by simp at h
 |m+1,q,b::u,h=>by
  have hd:=drop_lt (b:=b) (r:=u);have hs:=step_le b u;have ht:=ticks_behind hv (b::u);have hld:((b::u).drop (max (ticks (b::u)) 1)).length=(b::u).length-max (ticks (b::u)) 1:=List.length_drop;rw[List.cons_append]at ht;rw[List.cons_append,Rns_cons,ht,Rns_cons,←List.cons_append,List.drop_append_of_le_length hs,Rns_app hv m _ _ (by rw[List.length_cons]at h hd;omega),List.append_assoc];congr 3;rw[hld];omega
theorem Rns_rise:∀(m q:Nat) (t:List UInt8),t.length≤m→(Rns q t).Pairwise (fun x y=>x.2<y.2)
 |m,q,[],_=>by rw[Rns_nil];exact List.Pairwise.nil
 |0,q,b::r,h=>by simp at h
 |m+1,q,b::r,h=>by
  have hd:=drop_lt (b:=b) (r:=r);have ih:=Rns_rise m (q+max (ticks (b::r)) 1) ((b::r).drop (max (ticks (b::r)) 1)) (by rw[List.length_cons]at h hd;omega);rw[Rns_cons];split
  ·exact ih
  ·refine List.pairwise_append.2 ⟨List.pairwise_singleton _ _,ih,fun x hx y hy=>?_⟩
   rw[List.mem_singleton]at hx;subst hx;have:=(Rns_mem _ _ _ (Nat.le_refl _) y hy).1;simp only;omega
theorem Rns_len:∀(m q:Nat) (t:List UInt8),t.length≤m→(Rns q t).length≤t.length
 |m,q,[],_=>Nat.le_refl _
 |0,q,b::r,h=>by simp at h
 |m+1,q,b::r,h=>by
  have hd:=drop_lt (b:=b) (r:=r);have ih:=Rns_len m (q+max (ticks (b::r)) 1) ((b::r).drop (max (ticks (b::r)) 1)) (by rw[List.length_cons]at h hd;omega);rw[Rns_cons,List.length_append];split
  ·simp only[List.length_nil];omega
  ·simp only[List.length_singleton];omega
def fstRun (n:Nat) (l:List (Nat × Nat)):Option Nat:=(l.find? (fun x=>decide (x.1=n))).map (·.2)
theorem fstRun_cons (n:Nat) (x:Nat × Nat) (l:List (Nat × Nat)):fstRun n (x::l)=if x.1=n then some x.2 else fstRun n l:=by
 unfold fstRun;rw[List.find?_cons];by_cases h:x.1=n
 ·rw[if_pos h,decide_eq_true h];rfl
 ·rw[if_neg h,decide_eq_false h]
theorem code_run {n:Nat} (hn:0<n) {rest:List UInt8} (hr:rest=[]∨∃r',rest=10::r'):∀(m q:Nat) (u:List UInt8) (f:Nat) (acc:List UInt8),u.length≤m→u.length≤f→(10:UInt8)∉u→
  code n f acc (u++rest)=(fstRun n (Rns q u)).map (fun p=>(acc++u.take (p-q),u.drop (p-q+n)++rest))
 |m,q,[],f,acc,_,_,_=>by
  rw[Rns_nil,List.nil_append];cases f with
  |zero=>rfl
  |succ f=>
   rcases hr with rfl |⟨r',rfl⟩
   ·rfl
   ·rw[code,if_pos rfl];rfl
 |0,q,b::u,f,acc,h,_,_=>by simp at h
 |m+1,q,b::u,f,acc,h,hf,h10=>by
  obtain⟨f,rfl⟩:∃f',f=f'+1:=⟨f-1,by rw[List.length_cons]at hf;omega⟩;have hrh:rest.head?≠some 96:=by rcases hr with rfl |⟨r',rfl⟩<;>simp
  have hd:=drop_lt (b:=b) (r:=u);have hs:=step_le b u;have hle:=ticks_le (b::u);have ht:=ticks_behind hrh (b::u);have hld:((b::u).drop (max (ticks (b::u)) 1)).length=(b::u).length-max (ticks (b::u)) 1:=List.length_drop;rw[List.cons_append]at ht;rw[List.cons_append,code,if_neg (fun e=>h10 (by rw[e];exact List.mem_cons_self ..)),ht,Rns_cons];by_cases hk:ticks (b::u)=n
  ·rw[if_pos hk,if_neg (by omega),List.singleton_append,fstRun_cons,if_pos hk,←List.cons_append,List.drop_append_of_le_length (by omega)]
   simp
  ·rw[if_neg hk,←List.cons_append,List.take_append_of_le_length hs,List.drop_append_of_le_length hs]
   have ih:=code_run hn hr m (q+max (ticks (b::u)) 1) ((b::u).drop (max (ticks (b::u)) 1)) f (acc++(b::u).take (max (ticks (b::u)) 1)) (by rw[List.length_cons]at h hd;omega) (by rw[List.length_cons]at hf hd;omega) (fun h=>h10 (List.mem_of_mem_drop h));rw[ih]
   have hfs:fstRun n ((if ticks (b::u)=0 then []else [(ticks (b::u),q)])++Rns (q+max (ticks (b::u)) 1) ((b::u).drop (max (ticks (b::u)) 1)))=fstRun n (Rns (q+max (ticks (b::u)) 1) ((b::u).drop (max (ticks (b::u)) 1))):=by
    split
    ·rfl
    ·rw[List.singleton_append,fstRun_cons,if_neg hk]
   rw[hfs];cases hF:fstRun n (Rns (q+max (ticks (b::u)) 1) ((b::u).drop (max (ticks (b::u)) 1)))with
   |none=>rfl
   |some p=>
    have hp:q+max (ticks (b::u)) 1≤p:=by
     unfold fstRun at hF;obtain⟨x,hx,rfl⟩:=Option.map_eq_some_iff.1 hF;exact(Rns_mem _ _ _ (Nat.le_refl _) x (List.mem_of_find?_eq_some hx)).1
    generalize max (ticks (b::u)) 1=k at *;simp only[Option.map_some,Option.some.injEq,Prod.mk.injEq];refine⟨?_,?_⟩
    ·rw[List.append_assoc,show p-q=k+(p-(q+k))by omega,List.take_add]
    ·rw[List.drop_drop,show k+(p-(q+k)+n)=p-q+n by omega]
def rlt (x y:Nat × Nat):Bool:=decide (x.1<y.1)||(decide (x.1=y.1)&&decide (x.2<y.2))
theorem rlt_iff (x y:Nat × Nat):rlt x y=true↔x.1<y.1∨(x.1=y.1∧x.2<y.2):=by unfold rlt;simp
theorem rlt_no (x y:Nat × Nat):rlt x y=false↔¬(x.1<y.1∨(x.1=y.1∧x.2<y.2)):=by rw[←rlt_iff];simp
theorem found_run {d:List (Nat × Nat)} {u v:List UInt8} (hv:v.head?≠some 96) (hp:d.Perm (Rns 0 (u++v))) (n i:Nat) (hn:0<n)
  (hs:∀a b (ha:a<d.length) (hb:b<d.length),a<b→rlt d[b] d[a]=false) (hi:i≤d.length)
  (h1:∀a (ha:a<d.length),a<i→rlt d[a] (n,u.length)=true) (h2:∀a (ha:a<d.length),i≤a→rlt d[a] (n,u.length)=false):
  fstRun n (Rns u.length v)=if h:i<d.length then(if d[i].1=n then some d[i].2 else none)else none:=by
 have hR:=Rns_app hv u.length 0 u (Nat.le_refl _);rw[Nat.zero_add]at hR;rw[hR]at hp;have hrise:=Rns_rise v.length u.length v (Nat.le_refl _);cases hF:(Rns u.length v).find? (fun x=>decide (x.1=n))with
 |none=>
  have hno:∀x∈Rns u.length v,x.1≠n:=fun x hx=>by
   have:=List.find?_eq_none.1 hF x hx
   simpa using this
  have hl:fstRun n (Rns u.length v)=none:=by unfold fstRun;rw[hF];rfl
  rw[hl];split
  ·rename_i h
   by_cases he:d[i].1=n
   ·exfalso
    have hm:d[i]∈Rns 0 u++Rns u.length v:=hp.mem_iff.1 (List.getElem_mem h);have h3:=(rlt_no _ _).1 (h2 i h (Nat.le_refl _));simp only at h3;rcases List.mem_append.1 hm with hm |hm
    ·have:=Rns_mem _ _ _ (Nat.le_refl _) _ hm
     omega
    ·exact hno _ hm he
   ·rw[if_neg he]
  ·rfl
 |some x=>
  have hl:fstRun n (Rns u.length v)=some x.2:=by unfold fstRun;rw[hF];rfl
  have hxm:=List.mem_of_find?_eq_some hF;have hx1:x.1=n:=by simpa using List.find?_some hF
  have hxq:=(Rns_mem _ _ _ (Nat.le_refl _) x hxm).1;obtain⟨j,hj,hjx⟩:=List.mem_iff_getElem.1 (hp.mem_iff.2 (List.mem_append_right _ hxm))
  have hij:i≤j:=by
   rcases Nat.lt_or_ge j i with h |h
   ·have:=(rlt_iff _ _).1 (h1 j hj h)
    rw[hjx]at this;simp only at this;omega
   ·exact h
  have hil:i<d.length:=by omega
  rw[hl,dif_pos hil];have h3:=(rlt_no _ _).1 (h2 i hil (Nat.le_refl _));simp only at h3
  have h4:¬(x.1<d[i].1∨(x.1=d[i].1∧x.2<d[i].2)):=by
   rcases Nat.lt_or_ge i j with h |h
   ·have:=(rlt_no _ _).1 (hs i j hil hj h)
    rwa[hjx]at this
   ·have:i=j:=by omega
    subst this;rw[hjx];omega
  have hm:d[i]∈Rns 0 u++Rns u.length v:=hp.mem_iff.1 (List.getElem_mem hil);have he:d[i].1=n:=by omega
  rw[if_pos he];have hq:u.length≤d[i].2:=by omega
  have hmv:d[i]∈Rns u.length v:=by
   rcases List.mem_append.1 hm with hm |hm
   ·have:=Rns_mem _ _ _ (Nat.le_refl _) _ hm
    omega
   ·exact hm
  have hle:x.2≤d[i].2:=by
   obtain⟨A,B,hAB,hA⟩:∃A B,Rns u.length v=A++x::B∧∀y∈A,y.1≠n:=by
    obtain⟨_,A,B,h5,h6⟩:=List.find?_eq_some_iff_append.1 hF;exact⟨A,B,h5,fun y hy=>by have:=h6 y hy;simpa using this⟩
   rw[hAB]at hmv hrise;rcases List.mem_append.1 hmv with h5 |h5
   ·exact absurd he (hA _ h5)
   ·rcases List.mem_cons.1 h5 with h5 |h5
    ·rw[h5];exact Nat.le_refl _
    ·have:=(List.pairwise_cons.1 (List.pairwise_append.1 hrise).2.1).1 _ h5
     omega
  congr 1;omega
end Sp
namespace Sp
open Go.RowKit Go.Shelf Go.Sort
open Tk (ret_int)
open Cm (cell_at alloc_at alloc_new)
theorem nanI_any (x:Int) (w:World):Calls Tryz.prog 231 #[.int .i64 x] w fun e w'=>e=.returned (.bool false)∧w=w':=by
 have e1:(x==x)=true:=by simp
 go_enter Tryz.func231,Tryz.ntmps231;go_wp2_with fail;go_ret;exact⟨rfl,rfl⟩
def cmpI (x y:Int):Int:=if x<y then -1 else if y<x then 1 else 0
theorem compare_any (x y:Int) (w:World):Calls Tryz.prog 214 #[.int .i64 x,.int .i64 y] w fun e w'=>e=.returned (.int .i64 (cmpI x y))∧w=w':=by
 have HN:=Lib.hid (fun x w=>nanI_any x w);by_cases h1:x<y
 ·have HR:Hid (cmpI x y=-1):=Lib.hid (if_pos h1)
  rw[HR.out];go_enter Tryz.func214,Tryz.ntmps214;go_wp2_with fail;refine(HN.out _ _).mono ?_;rintro e w' ⟨rfl,rfl⟩;go_wp2_with fail;refine(HN.out _ _).mono ?_;rintro e w' ⟨rfl,rfl⟩;go_wp2_with fail;go_ret;exact⟨rfl,rfl⟩
 ·by_cases h2:y<x
  ·have HR:Hid (cmpI x y=1):=Lib.hid (by unfold cmpI;rw[if_neg h1,if_pos h2])
   rw[HR.out];go_enter Tryz.func214,Tryz.ntmps214;go_wp2_with fail;refine(HN.out _ _).mono ?_;rintro e w' ⟨rfl,rfl⟩;go_wp2_with fail;refine(HN.out _ _).mono ?_;rintro e w' ⟨rfl,rfl⟩;go_wp2_with fail;go_ret;exact⟨rfl,rfl⟩
  ·have HR:Hid (cmpI x y=0):=Lib.hid (by unfold cmpI;rw[if_neg h1,if_neg h2])
   rw[HR.out];go_enter Tryz.func214,Tryz.ntmps214;go_wp2_with fail;refine(HN.out _ _).mono ?_;rintro e w' ⟨rfl,rfl⟩;go_wp2_with fail;refine(HN.out _ _).mono ?_;rintro e w' ⟨rfl,rfl⟩;go_wp2_with fail;go_ret;exact⟨rfl,rfl⟩
def orI (x y:Int):Int:=if x=0 then y else x
theorem or_any (x y:Int) (b:Nat) (w:World) (h:∃t,w.heap[b]? = some (.cells #[.int .i64 x,.int .i64 y] t (0,0))):
  Calls Tryz.prog 213 #[.slice (some ⟨b,0,none⟩) 2 2] w fun e w'=>e=.returned (.int .i64 (orI x y))∧w=w':=by
 obtain⟨t,h⟩:=h;have c0:w.cell? ⟨b,0,none⟩=some (.int .i64 x):=cell_at h 0;have c1:w.cell? ⟨b,1,none⟩=some (.int .i64 y):=cell_at h 1;clear h;by_cases hx:x=0
 ·have HR:Hid (orI x y=y):=Lib.hid (if_pos hx)
  rw[HR.out];have e1:(x==0)=true:=by rw[hx];rfl
  clear hx HR;go_enter Tryz.func213,Tryz.ntmps213;go_wp2_with fail;refine wp_loop_rounds 3 ?_;rw[rounds_succ];go_wp2_with fail;rw[rounds_succ];by_cases hy:y=0
  ·have e2:(y==0)=true:=by rw[hy];rfl
   go_wp2_with fail;rw[rounds_succ];go_wp2_with fail;go_ret;exact⟨ret_int hy.symm,rfl⟩
  ·have e2:(y==0)=false:=by rw[beq_eq_false_iff_ne];exact hy
   clear hy;go_wp2_with fail;go_ret;exact⟨rfl,rfl⟩
 ·have HR:Hid (orI x y=x):=Lib.hid (if_neg hx)
  rw[HR.out];have e1:(x==0)=false:=by rw[beq_eq_false_iff_ne];exact hx
  clear hx HR;go_enter Tryz.func213,Tryz.ntmps213;go_wp2_with fail;refine wp_loop_rounds 1 ?_;rw[rounds_succ];go_wp2_with fail;go_ret;exact⟨rfl,rfl⟩
theorem drew_new (w:World) (o:Obj):(w.alloc o).drew.heap[w.heap.size]? = some o:=alloc_new w o
theorem grow_fin (w:World) (os:Array Obj) (o:Obj):((grow w os).alloc o).drew=grow (w.drewN 1) (os++#[o]):=by rw[alloc_eq_grow,grow_grow];rfl
def encR (x:Nat × Nat):List Value:=[.int .i64 x.1,.int .i64 x.2]
def cmpR (x y:Nat × Nat):Int:=orI (cmpI x.1 y.1) (cmpI x.2 y.2)
theorem cmpR_lt (x y:Nat × Nat):decide (cmpR x y<0)=rlt x y:=by
 unfold cmpR orI cmpI rlt;by_cases h1:x.1<y.1
 ·simp[h1]
 ·by_cases h2:y.1<x.1
  ·have:¬x.1=y.1:=by omega
   simp[h1,h2,this]
  ·have h3:x.1=y.1:=by omega
   by_cases h4:x.2<y.2
   ·simp[h3,h4]
   ·by_cases h5:y.2<x.2<;>simp[h3,h4,h5]
set_option maxHeartbeats 3200000 in
theorem byLength_any (x y:Nat × Nat) (w:World):
  Calls Tryz.prog 200 #[.agg #[.int .i64 x.1,.int .i64 x.2],.agg #[.int .i64 y.1,.int .i64 y.2]] w fun e w'=>e=.returned (.int .i64 (cmpR x y))∧∃q os',w'=grow (w.drewN q) os':=by
 have HC:=Lib.hid (fun x y w=>compare_any x y w);have HO:=Lib.hid (fun x y b w h=>or_any x y b w h);have HX:Hid (cmpR x y=orI (cmpI x.1 y.1) (cmpI x.2 y.2)):=Lib.hid rfl;generalize cmpR x y=r at *;obtain⟨x1,x2⟩:=x;obtain⟨y1,y2⟩:=y;simp only at HX ⊢;go_enter Tryz.func200,Tryz.ntmps200;go_upto_region 1 with fail;have HK:Hid (((w.alloc (.cells #[.int .i64 x1,.int .i64 x2] 198)).alloc (.cells #[.int .i64 y1,.int .i64 y2] 198))=grow w #[.cells #[.int .i64 x1,.int .i64 x2] 198,.cells #[.int .i64 y1,.int .i64 y2] 198]):=Lib.hid (by rw[alloc_eq_grow,alloc_eq_grow,grow_grow];rfl);have H0:=alloc_at (alloc_new w (.cells #[.int .i64 x1,.int .i64 x2] 198)) (.cells #[.int .i64 y1,.int .i64 y2] 198);have H1:=alloc_new (w.alloc (.cells #[.int .i64 x1,.int .i64 x2] 198)) (.cells #[.int .i64 y1,.int .i64 y2] 198);rw[World.size_alloc]at H1;generalize (w.alloc (.cells #[.int .i64 x1,.int .i64 x2] 198)).alloc (.cells #[.int .i64 y1,.int .i64 y2] 198)=W at *;have a0:W.cell? ⟨w.heap.size,0,none⟩=some (.int .i64 x1):=cell_at H0 0;have a1:W.cell? ⟨w.heap.size,1,none⟩=some (.int .i64 x2):=cell_at H0 1;have b0:W.cell? ⟨w.heap.size+1,0,none⟩=some (.int .i64 y1):=cell_at H1 0;have b1:W.cell? ⟨w.heap.size+1,1,none⟩=some (.int .i64 y2):=cell_at H1 1;clear H0 H1
 go_region_law (first
  |(go_simp;go_at_call 214;refine(HC.out _ _ _).mono ?_;rintro e w' ⟨rfl,rfl⟩)
  |(go_simp;go_at_call 213;refine(HO.out _ _ _ _ ⟨_,drew_new _ _⟩).mono ?_;rintro e w' ⟨rfl,rfl⟩))
 all_goals (
  go_simp;go_wp2_with fail;go_ret;exact⟨ret_int HX.out.symm,1,_,by rw[HK.out];exact grow_fin _ _ _⟩)
end Sp
namespace Sp
open Go.RowKit Go.Shelf Go.Sort Go.Lib
open Cm (lt_of_at frozen_at flat_get Rk)
theorem encR_len (x:Nat × Nat):(encR x).length=2:=rfl
theorem infoR:(Tryz.prog.info? 198).map (fun i=>(i.zero,i.size,i.bytes))=some (some (.agg #[.int .i64 0,.int .i64 0]),2,16):=by kernel_rfl
theorem ltR (x y:Nat × Nat):ltOf cmpR x y=rlt x y:=by unfold ltOf;exact cmpR_lt x y
theorem swoR:SWO (ltOf cmpR) where
 irrefl x:=by rw[ltR,rlt_no];omega
 trans x y z h1 h2:=by rw[ltR,rlt_iff]at *;omega
 ntrans x y z h1 h2:=by rw[ltR,rlt_no]at *;omega
theorem cmpLaysR (blk off size:Nat) (w:World):CmpLays Tryz.prog 200 #[] encR 2 cmpR blk off size w:=
 fun _ _ _ _ x y=>byLength_any x y _
theorem below_sort (w:World) (g n:Nat) (hg:g<w.heap.size) (d:Array (Nat × Nat)) (os:Array Obj):Below g w (sortWorldK encR 2 w g 0 n d os):=by
 unfold sortWorldK putRowK putRow grow Sort.ahead mapBlock;refine⟨rfl,rfl,rfl,?_,fun k hk=>?_⟩
 ·simp
 ·rw[Array.getElem?_append_left (by simp;omega),Array.getElem?_modify,if_neg (by omega)]
def RunT (w:World) (v:Value):Prop:=∀k,v.ownBlock=some k→∃cur fr,w.heap[k]? = some (.cells cur 198 fr)
theorem sort_at (w:World) (g n:Nat) {cur:Array Value} (hg:w.heap[g]? = some (.cells cur 198 (0,0))) (d:Array (Nat × Nat)) (os:Array Obj):∃cur fr,(sortWorldK encR 2 w g 0 n d os).heap[g]? = some (.cells cur 198 fr):=by
 have hlt:=lt_of_at hg;refine⟨putCells id 0 (flatK encR 2 d) cur,(0,0),?_⟩;show(w.heap.modify g (onCells (putCells id 0 (flatK encR 2 d)))++os)[g]? = _;rw[Array.getElem?_append_left (by simp;omega),Array.getElem?_modify,if_pos rfl,hg];rfl
def Rises (d:List (Nat × Nat)):Prop:=∀a b (ha:a<d.length) (hb:b<d.length),a<b→rlt d[b] d[a]=false
theorem Rises.nil:Rises []:=fun a b ha=>absurd ha (Nat.not_lt_zero _)
set_option maxHeartbeats 1600000 in
theorem insNone_any (w:World):Calls Tryz.prog 221 #[.slice none 0 0,.int .i64 0,.int .i64 0,.func (.func 200) #[] #[]] w fun e w'=>e=.returned (.tuple #[])∧w'=w:=by
 go_enter Tryz.func221,Tryz.ntmps221;go_wp2_with fail;refine wp_loop_rounds 1 ?_;rw[rounds_succ];go_wp2_with fail;go_end0;exact⟨rfl,rfl⟩
set_option maxHeartbeats 1600000 in
theorem pdqNone_any (lim:Int) (w:World):Calls Tryz.prog 211 #[.slice none 0 0,.int .i64 0,.int .i64 0,.int .i64 lim,.func (.func 200) #[] #[]] w fun e w'=>e=.returned (.tuple #[])∧w'=w:=by
 have HI:=Lib.hid (fun w=>insNone_any w);go_enter Tryz.func211,Tryz.ntmps211;go_wp2_with fail;refine wp_loop_rounds 1 ?_;rw[rounds_succ];go_wp2_with fail;refine(HI.out _).mono ?_;rintro e w' ⟨rfl,rfl⟩;go_wp2_with fail
 (try simp only[Exit.inBlock,Exit.then])
 refine bodyPost_ret (results_none rfl _ _ _) rfl ?_;exact⟨rfl,rfl⟩
set_option maxHeartbeats 1600000 in
theorem sortNone_any (w:World):Calls Tryz.prog 199 #[.slice none 0 0,.func (.func 200) #[] #[]] w fun e w'=>e=.returned (.tuple #[])∧w'=w:=by
 have HP:=Lib.hid (fun l w=>pdqNone_any l w);have hl:=Tryz.bits_Len 0 w (by omega) (by omega);have HL:=Lib.hid hl;clear hl;go_enter Tryz.func199,Tryz.ntmps199;go_wp2_with fail;refine HL.out.mono ?_;rintro e w' ⟨rfl,rfl⟩;go_wp2_with fail;refine(HP.out _ _).mono ?_;rintro e w' ⟨rfl,rfl⟩;go_wp2_with fail;go_end0;exact⟨rfl,rfl⟩
set_option maxHeartbeats 1600000 in
theorem sortR_any (v:Value) (d:List (Nat × Nat)) (B:Nat) (w:World) (h:w.ownsRow B 198 2 v d.length (d.flatMap encR)) (hn:d.length≤1000000):
  Calls Tryz.prog 199 #[v,.func (.func 200) #[] #[]] w fun e w'=>e=.returned (.tuple #[])∧∃d',d'.Perm d∧Rises d'∧Rk 2 encR w' v d'∧Below B w w'∧RunT w' v:=by
 rcases h.2 with ⟨rfl,h0⟩|⟨g,cap,cur,rfl,hB,hg,hnc,hm,hsz,ht⟩
 ·have:d=[]:=List.eq_nil_of_length_eq_zero h0
  subst this;refine(sortNone_any w).mono ?_;rintro e w' ⟨rfl,rfl⟩;exact⟨rfl,[],List.Perm.refl _,Rises.nil,⟨none,0,rfl,Nat.le_refl _,Or.inl rfl⟩,Below.refl _ _,fun k hk=>by simp[Value.ownBlock]at hk⟩
 ·have hglt:=lt_of_at hg
  have eg:∀args w,(callFunc 200 args).run Tryz.prog w=.ok (.enter 200 args) w:=enters_of Tryz.func200 (by kernel_rfl) rfl
  have hH:HoldsK encR 2 w g 0 d.toArray:=by
   intro j hj;rw[size_flatK,List.size_toArray]at hj;refine⟨?_,?_⟩
   ·rw[Nat.zero_add,h.cellAt j hj,get_flatK _ _ _ _ (by rw[List.size_toArray];exact hj)]
    have hq:j/2<d.length:=by omega
    have hx:d[j/2]? = some d.toArray[j/2]!:=by simp[hq]
    have:=flat_get encR_len d (j/2) d.toArray[j/2]! hx (j%2) ((encR d.toArray[j/2]!)[j%2]!) (by
     rcases(show j%2=0∨j%2=1 by omega)with h |h<;>rw[h]<;>rfl)
    rw[show j/2*2+j%2=j by omega]at this;exact this
   ·rw[Nat.zero_add];exact frozen_at hg j
  have hcon:=AnyQ.slices_SortFunc Tryz.SortRun 2 Tryz.isAgg198 Tryz.sizeOf198 encR (fun _=>rfl) (fun x v hv=>by simp[encR]at hv;rcases hv with rfl |rfl<;>rfl) cmpR swoR 200 #[] g 0 cap d.toArray w eg (cmpLaysR g 0 d.toArray.size w) hH hglt (by rw[List.size_toArray];omega);rw[List.size_toArray]at hcon;refine Calls.mono hcon ?_;rintro e w' ⟨rfl,d',n,os,hp,hs,rfl⟩;have hH':=holdsK_sortWorldK_c encR 2 w g 0 d.toArray d' n os hH hglt hp.1;have hsz':d'.size=d.length:=by rw[hp.1,List.size_toArray]
  have hll:d'.toList.length=d.length:=by rw[Array.length_toList];exact hsz'
  refine⟨rfl,d'.toList,?_,?_,?_,?_,fun k hk=>by simp[Value.ownBlock]at hk;subst hk;exact sort_at w g n hg d' os⟩
  ·have:=hp.2.2
   rw[Array.toList_extract,Array.toList_extract,List.extract_eq_take_drop,List.extract_eq_take_drop,List.drop_zero,List.drop_zero,Nat.sub_zero,List.take_of_length_le (by rw[hll];exact Nat.le_refl _),List.take_of_length_le (Nat.le_refl _)]at this;exact this
  ·intro a b ha hb hab
   have:=hs a b (Nat.zero_le _) hab (by simpa [hsz']using hb);rw[ltR]at this;simp only[Array.length_toList]at ha hb;rw[getElem!_pos d' b hb,getElem!_pos d' a ha]at this
   simpa using this
  ·refine⟨some ⟨g,0,none⟩,cap,by rw[hll],by rw[hll];exact hnc,Or.inr ⟨g,0,rfl,Nat.lt_of_lt_of_le hglt (size_sortWorldK_c encR 2 w g 0 n d' os),fun j x hj q u hq=>?_⟩⟩
   have hjl:j<d'.size:=by have:=(List.getElem?_eq_some_iff.1 hj).1;simpa using this
   have hql:q<2:=by have:=(List.getElem?_eq_some_iff.1 hq).1;simpa [encR]using this
   have hc:=(hH'.cell hjl hql).1
   have hx:d'[j]! = x:=by
    rw[getElem!_pos d' j hjl];have:=(List.getElem?_eq_some_iff.1 hj).2
    simpa using this
   rw[hx]at hc;have hu:(encR x)[q]! = u:=by rw[List.getElem!_eq_getElem?_getD,hq];rfl
   rw[hc,hu]
  ·exact(below_sort w g n hglt d' os).mono hB
end Sp
end Go.Proofs.YtpakjdgddomdjabGreatDoor
