import Derived.Sort.Walk0
set_option linter.unusedVariables false
namespace Go.Proofs.YtpakjdgddomdjabGreatDoor
namespace Tk
def cls (b:UInt8):Nat:=
 if b=10∨b=13 then 3 else if b=9∨b=32 then 2
 else if(33≤b∧b≤47)∨(58≤b∧b≤64)∨(91≤b∧b≤96)∨(123≤b∧b≤126)then 4 else 1
def joins (a b:UInt8):Bool:=cls a==cls b&&decide (cls b<3)
def tc:List UInt8→List UInt8→List (List UInt8)
 |cur,[]=>if cur=[]then []else [cur]
 |cur,b::r=>
  match cur.getLast? with
  |none=>tc [b] r
  |some a=>if joins a b then tc (cur++[b]) r else cur::tc [b] r
abbrev Tx:=List UInt8
def dd:List Tx→List Tx
 |[]=>[]
 |x::r=>if x∈r then dd r else x::dd r
end Tk
namespace Sp
open Tk (cls)
inductive Sp where
 |mk (kind:Int) (s:List UInt8) (kids:List Sp)
def Sp.kind:Sp→Int |.mk k _ _=>k
def Sp.s:Sp→List UInt8 |.mk _ s _=>s
def Sp.kids:Sp→List Sp |.mk _ _ l=>l
def ticks:List UInt8→Nat
 |[]=>0
 |b::r=>if b=96 then ticks r+1 else 0
theorem ticks_rep (n:Nat) (t:List UInt8) (h:t.head?≠some 96):ticks (List.replicate n 96++t)=n:=by
 induction n with
 |zero=>
  cases t with
  |nil=>rfl
  |cons b r=>exact if_neg (fun e=>h (by rw[e];rfl))
 |succ n ih=>
  rw[List.replicate_succ,List.cons_append];show(if(96:UInt8)=96 then ticks (List.replicate n 96++t)+1 else 0)=_;rw[if_pos rfl,ih]
theorem ticks_le:∀l:List UInt8,ticks l≤l.length
 |[]=>Nat.le_refl _
 |b::r=>by
  have:=ticks_le r;unfold ticks;split<;>simp<;>omega
def code (n:Nat):Nat→List UInt8→List UInt8→Option (List UInt8 × List UInt8)
 |0,_,_=>none
 |f+1,acc,t=>match t with
  |[]=>none
  |b::r=>
   if b=10 then none
   else if ticks (b::r)=n then some (acc,(b::r).drop n)
   else code n f (acc++(b::r).take (max (ticks (b::r)) 1)) ((b::r).drop (max (ticks (b::r)) 1))
def onlySp (s:List UInt8):Bool:=s.all (·==32)
def strip (s:List UInt8):List UInt8:=if onlySp s=false∧s.head? = some 32∧s.getLast? = some 32 then s.tail.dropLast else s
def hasRun (n:Nat):Nat→List UInt8→Bool
 |0,_=>false
 |f+1,t=>match t with
  |[]=>false
  |b::r=>if ticks (b::r)=n then true else hasRun n f ((b::r).drop (max (ticks (b::r)) 1))
theorem drop_lt {b:UInt8} {r:List UInt8}:((b::r).drop (max (ticks (b::r)) 1)).length<(b::r).length:=by
 rw[List.length_drop,List.length_cons];omega
theorem ticks_app:∀(p t:List UInt8),p.getLast?≠some 96→p≠[]→ticks (p++t)=ticks p
 |[],t,_,h=>absurd rfl h
 |b::p,t,hl,_=>by
  by_cases e:b=96
  ·cases p with
   |nil=>exact absurd (by rw[e];rfl) hl
   |cons c p=>
    have:=ticks_app (c::p) t (by rwa[List.getLast?_cons_cons]at hl) (by simp);show(if b=96 then ticks ((c::p)++t)+1 else 0)=(if b=96 then ticks (c::p)+1 else 0);rw[this]
  ·show(if b=96 then ticks (p++t)+1 else 0)=(if b=96 then ticks p+1 else 0)
   rw[if_neg e,if_neg e]
theorem ticks_lt:∀(p:List UInt8),p≠[]→p.getLast?≠some 96→ticks p<p.length
 |[],h,_=>absurd rfl h
 |b::p,_,hl=>by
  by_cases e:b=96
  ·cases p with
   |nil=>exact absurd (by rw[e];rfl) hl
   |cons c p=>
    have:=ticks_lt (c::p) (by simp) (by rwa[List.getLast?_cons_cons]at hl);show(if b=96 then ticks (c::p)+1 else 0)<_;rw[if_pos e,List.length_cons];omega
  ·show(if b=96 then ticks p+1 else 0)<_
   rw[if_neg e,List.length_cons];omega
theorem last_drop (p:List UInt8) (k:Nat) (h:k<p.length):(p.drop k).getLast? = p.getLast?:=by
 rw[List.getLast?_drop,if_neg (by omega)]
theorem code_closes (n:Nat) (hn:0<n) (t:List UInt8) (ht:t.head?≠some 96):∀(m:Nat) (p acc:List UInt8) (f g:Nat),p.length≤m→(10:UInt8)∉p→(p≠[]→p.getLast?≠some 96)→hasRun n g p=false→p.length≤g→p.length<f→
  code n f acc (p++(List.replicate n 96++t))=some (acc++p,t)
 |m,[],acc,f,g,_,_,_,_,_,hf=>by
  obtain⟨f,rfl⟩:∃f',f=f'+1:=⟨f-1,by simp at hf;omega⟩;obtain⟨n',rfl⟩:∃n',n=n'+1:=⟨n-1,by omega⟩;have hk:=ticks_rep (n'+1) t ht;rw[List.nil_append,List.append_nil];rw[List.replicate_succ,List.cons_append]at hk ⊢;show(if(96:UInt8)=10 then none else if ticks (96::(List.replicate n' 96++t))=n'+1 then some (acc,_)else _)=_;rw[if_neg (by decide),if_pos hk];congr 1;rw[List.drop_succ_cons,List.drop_left' (List.length_replicate ..)]
 |0,b::p,acc,f,g,hm,_,_,_,_,_=>by simp at hm
 |m+1,b::p,acc,f,g,hm,h10,hl,hr,hg,hf=>by
  have hl':=hl (by simp);obtain⟨f,rfl⟩:∃f',f=f'+1:=⟨f-1,by omega⟩;obtain⟨g,rfl⟩:∃g',g=g'+1:=⟨g-1,by simp at hg;omega⟩;have htk:=ticks_app (b::p) (List.replicate n 96++t) hl' (by simp);have hlt:=ticks_lt (b::p) (by simp) hl';rw[List.cons_append]at htk;have hr':(if ticks (b::p)=n then true else hasRun n g ((b::p).drop (max (ticks (b::p)) 1)))=false:=hr;by_cases en:ticks (b::p)=n
  ·rw[if_pos en]at hr';cases hr'
  ·rw[if_neg en]at hr'
   have hk:max (ticks (b::p)) 1≤(b::p).length:=by simp only[List.length_cons]at hlt ⊢;omega
   rw[List.cons_append];show(if b=10 then none else if ticks (b::(p++(List.replicate n 96++t)))=n then some (acc,_)else code n f (acc++(b::(p++(List.replicate n 96++t))).take (max (ticks (b::(p++(List.replicate n 96++t)))) 1)) ((b::(p++(List.replicate n 96++t))).drop (max (ticks (b::(p++(List.replicate n 96++t)))) 1)))=_;rw[if_neg (fun e=>h10 (by rw[e];exact List.mem_cons_self ..)),htk,if_neg en,←List.cons_append,List.take_append_of_le_length hk,List.drop_append_of_le_length hk];generalize hkk:max (ticks (b::p)) 1=k at *;have hld:((b::p).drop k).length=(b::p).length-k:=List.length_drop
   have ih:=code_closes n hn t ht m ((b::p).drop k) (acc++(b::p).take k) f g (by simp only[List.length_cons]at hm hld ⊢;omega) (fun h=>h10 (List.mem_of_mem_drop h))
    (fun hne=>by
     have:k<(b::p).length:=by
      rcases Nat.lt_or_ge k (b::p).length with h |h
      ·exact h
      ·exact absurd (List.drop_eq_nil_of_le h) hne
     rw[last_drop _ _ this];exact hl') hr' (by simp only[List.length_cons]at hg hld ⊢;omega) (by simp only[List.length_cons]at hf hld ⊢;omega)
   rw[ih,List.append_assoc,List.take_append_drop]
def consT (s:List UInt8):List Sp→List Sp
 |[]=>[.mk 1 s []]
 |.mk k t kids::l=>if k=1 then .mk 1 (s++t) kids::l else .mk 1 s []::.mk k t kids::l
def destB (c:UInt8):Bool:=(decide (97≤c)&&decide (c≤122))||(decide (65≤c)&&decide (c≤90))||(decide (48≤c)&&decide (c≤57))||[46,47,95,45,35,63,38,58,37].contains c
def dest:List UInt8→Option (List UInt8 × List UInt8)
 |40::t=>match t.dropWhile destB with
  |41::r=>if t.takeWhile destB=[]then none else some (t.takeWhile destB,r)
  |_=>none
 |_=>none
def read:Nat→Bool→Bool→List UInt8→List Sp × List UInt8
 |0,_,_,t=>([],t)
 |f+1,e,l,t=>match t with
  |[]=>([],[])
  |c::r=>
   if(c=42∧e=true)∨(c=93∧l=true)then([],c::r)
   else if c=92∧(r.head?.map cls)=some 4 then(consT (r.take 1) (read f e l r.tail).1,(read f e l r.tail).2)
   else if c=96 then
    match code (ticks (c::r)) (c::r).length [] ((c::r).drop (ticks (c::r)))with
    |some (x,t')=>(.mk 2 (strip x) []::(read f e l t').1,(read f e l t').2)
    |none=>(consT (List.replicate (ticks (c::r)) 96) (read f e l ((c::r).drop (ticks (c::r)))).1,(read f e l ((c::r).drop (ticks (c::r)))).2)
   else
    let plain:=(consT [c] (read f e l r).1,(read f e l r).2)
    if c=42 then
     match read f true l r with
     |(k::kids,42::t')=>(.mk 3 [] (k::kids)::(read f e l t').1,(read f e l t').2)
     |_=>plain
    else if c=91∧l=false then
     match read f e true r with
     |(k::kids,93::t')=>match dest t' with
      |some (s,t'')=>(.mk 4 s (k::kids)::(read f e l t'').1,(read f e l t'').2)
      |none=>plain
     |_=>plain
    else plain
def marked (c:UInt8):Bool:=[92,42,91,93,35,62,45,96].contains c
def esc:List UInt8→List UInt8
 |[]=>[]
 |c::r=>if marked c then 92::c::esc r else c::esc r
def fence (s:List UInt8):Nat→Nat→Nat
 |0,n=>n
 |f+1,n=>if hasRun n s.length s then fence s f (n+1)else n
def padded (s:List UInt8):List UInt8:=
 if s.head? = some 96∨s.getLast? = some 96∨(onlySp s=false∧s.head? = some 32∧s.getLast? = some 32)then 32::(s++[32])else s
def ticksOf (s:List UInt8):Nat:=fence s (s.length+1) 1
mutual
def wr1:Sp→List UInt8
 |.mk k s kids=>
  if k=1 then esc s
  else if k=2 then List.replicate (ticksOf s) 96++(padded s++List.replicate (ticksOf s) 96)
  else if k=3 then 42::(wrs kids++[42])
  else if k=4 then 91::(wrs kids++(93::40::(s++[41])))
  else []
def wrs:List Sp→List UInt8
 |[]=>[]
 |x::l=>wr1 x++wrs l
end
mutual
def fit1 (e l:Bool):Sp→Prop
 |.mk k s kids=>
  (k=1∧kids=[]∧s≠[])∨
  (k=2∧kids=[]∧s≠[]∧(10:UInt8)∉s)∨
  (k=3∧s=[]∧kids≠[]∧e=false∧fits true l 0 kids)∨
  (k=4∧s≠[]∧(∀c∈s,destB c=true)∧kids≠[]∧l=false∧fits e true 0 kids)
def fits (e l:Bool) (prev:Int):List Sp→Prop
 |[]=>True
 |.mk k s kids::r=>fit1 e l (.mk k s kids)∧¬(k=prev∧k≤2)∧fits e l k r
end
end Sp
namespace Bk
open Sp (Sp)
abbrev Tx:=List UInt8
inductive Bk where
 |mk (kind level:Int) (info:Tx) (lines:List Tx) (spans:List Sp) (kids:List Bk)
namespace Bk
def kind:Bk→Int |.mk k _ _ _ _ _=>k
def level:Bk→Int |.mk _ k _ _ _ _=>k
def info:Bk→Tx |.mk _ _ i _ _ _=>i
def lines:Bk→List Tx |.mk _ _ _ l _ _=>l
def spans:Bk→List Sp |.mk _ _ _ _ s _=>s
def kids:Bk→List Bk |.mk _ _ _ _ _ k=>k
end Bk
end Bk
namespace Sp
open Tk (cls)
theorem consT_consT (a b:List UInt8):∀X:List Sp,consT a (consT b X)=consT (a++b) X
 |[]=>by simp[consT]
 |.mk k t kids::l=>by
  unfold consT;by_cases h:k=1
  ·simp[h]
  ·simp[h]
theorem marked_cls (c:UInt8) (h:marked c=true):cls c=4:=by
 simp only[marked,List.contains_eq_mem,List.mem_cons,List.mem_nil_iff,or_false,decide_eq_true_eq]at h;rcases h with rfl |rfl |rfl |rfl |rfl |rfl |rfl |rfl<;>decide
theorem unmarked (c:UInt8) (h:marked c=false):c≠92∧c≠42∧c≠91∧c≠93∧c≠96:=by
 simp only[marked,List.contains_eq_mem,List.mem_cons,List.mem_nil_iff,or_false,decide_eq_false_iff_not,not_or]at h;exact⟨h.1,h.2.1,h.2.2.1,h.2.2.2.1,h.2.2.2.2.2.2.2⟩
theorem read_plain (f:Nat) (e l:Bool) (c:UInt8) (r:List UInt8) (h:marked c=false):read (f+1) e l (c::r)=(consT [c] (read f e l r).1,(read f e l r).2):=by
 obtain⟨h1,h2,h3,h4,h5⟩:=unmarked c h;rw[read];simp only[h1,h2,h3,h4,h5,false_and,or_self,if_false]
theorem read_escaped (f:Nat) (e l:Bool) (c:UInt8) (r:List UInt8) (h:marked c=true):read (f+1) e l (92::c::r)=(consT [c] (read f e l r).1,(read f e l r).2):=by
 rw[read];simp only[List.head?_cons,Option.map_some,marked_cls c h,and_self,if_true,List.tail_cons];rw[if_neg (by simp)];rfl
theorem read_esc (e l:Bool) (rest:List UInt8):∀(s:List UInt8) (f:Nat),s≠[]→(esc s++rest).length≤f→∃g,rest.length≤g∧read f e l (esc s++rest)=(consT s (read g e l rest).1,(read g e l rest).2)
 |[],f,h,_=>absurd rfl h
 |[c],f,_,hf=>by
  unfold esc esc at *;cases hc:marked c with
  |true=>
   rw[hc]at hf;simp only[if_true]at hf ⊢;obtain⟨f,rfl⟩:∃f',f=f'+1:=⟨f-1,by simp at hf;omega⟩;exact⟨f,by simp at hf;omega,read_escaped f e l c rest hc⟩
  |false=>
   rw[hc]at hf;simp only[Bool.false_eq_true,if_false]at hf ⊢;obtain⟨f,rfl⟩:∃f',f=f'+1:=⟨f-1,by simp at hf;omega⟩;exact⟨f,by simp at hf;omega,read_plain f e l c rest hc⟩
 |c::d::s,f,_,hf=>by
  rw[esc]at hf ⊢;cases hc:marked c with
  |true=>
   rw[hc,if_pos rfl]at hf;rw[if_pos rfl];obtain⟨f,rfl⟩:∃f',f=f'+1:=⟨f-1,by simp at hf;omega⟩;obtain⟨g,hg,he⟩:=read_esc e l rest (d::s) f (by simp) (by simp only[List.cons_append,List.length_cons]at hf;omega);refine⟨g,hg,?_⟩;rw[List.cons_append,List.cons_append,read_escaped f e l c _ hc,he,consT_consT];rfl
  |false=>
   rw[hc,if_neg (by decide)]at hf;rw[if_neg (by decide)];obtain⟨f,rfl⟩:∃f',f=f'+1:=⟨f-1,by simp at hf;omega⟩;obtain⟨g,hg,he⟩:=read_esc e l rest (d::s) f (by simp) (by simp only[List.cons_append,List.length_cons]at hf;omega);refine⟨g,hg,?_⟩;rw[List.cons_append,read_plain f e l c _ hc,he,consT_consT];rfl
theorem ticks_sp (q:List UInt8):∀p:List UInt8,ticks (p++32::q)=ticks p
 |[]=>by show(if(32:UInt8)=96 then _ else 0)=_;rw[if_neg (by decide)];rfl
 |b::p=>by
  show(if b=96 then ticks (p++32::q)+1 else 0)=(if b=96 then ticks p+1 else 0);rw[ticks_sp q p]
theorem hasRun_nil (n g:Nat):hasRun n g []=false:=by cases g<;>rfl
theorem hasRun_cons (n g:Nat) (b:UInt8) (r:List UInt8):hasRun n (g+1) (b::r)=if ticks (b::r)=n then true else hasRun n g ((b::r).drop (max (ticks (b::r)) 1)):=rfl
theorem hasRun_snoc (n:Nat) (hn:0<n):∀(m g:Nat) (s:List UInt8),s.length≤m→s.length≤g→hasRun n (g+1) (s++[32])=hasRun n g s
 |m,g,[],_,_=>by
  rw[hasRun_nil,List.nil_append,hasRun_cons,if_neg (by show ¬(if(32:UInt8)=96 then _ else 0)=n;rw[if_neg (by decide)];omega)];show hasRun n g (([32]:List UInt8).drop (max (if(32:UInt8)=96 then _ else 0) 1))=false;rw[if_neg (by decide)];exact hasRun_nil n g
 |0,g,b::p,hm,_=>by simp at hm
 |m+1,g,b::p,hm,hg=>by
  obtain⟨g,rfl⟩:∃g',g=g'+1:=⟨g-1,by simp at hg;omega⟩;have ht:ticks (b::(p++[32]))=ticks (b::p):=ticks_sp [] (b::p);have hk:max (ticks (b::p)) 1≤(b::p).length:=by have:=ticks_le (b::p);simp only[List.length_cons]at this ⊢;omega
  have hl:((b::p).drop (max (ticks (b::p)) 1)).length=(b::p).length-max (ticks (b::p)) 1:=List.length_drop;rw[List.cons_append,hasRun_cons,hasRun_cons,ht];by_cases e:ticks (b::p)=n
  ·rw[if_pos e,if_pos e]
  ·rw[if_neg e,if_neg e,←List.cons_append,List.drop_append_of_le_length hk]
   exact hasRun_snoc n hn m g _ (by simp only[List.length_cons]at hm hl ⊢;omega) (by simp only[List.length_cons]at hg hl ⊢;omega)
theorem hasRun_le (n:Nat) (hn:0<n):∀(m g:Nat) (s:List UInt8),s.length≤m→hasRun n g s=true→n≤s.length
 |m,0,s,_,h=>by cases h
 |m,g+1,[],_,h=>by cases h
 |0,g+1,b::p,hm,_=>by simp at hm
 |m+1,g+1,b::p,hm,h=>by
  rw[hasRun_cons]at h;have ht:=ticks_le (b::p);by_cases e:ticks (b::p)=n
  ·omega
  ·rw[if_neg e]at h
   have hl:((b::p).drop (max (ticks (b::p)) 1)).length=(b::p).length-max (ticks (b::p)) 1:=List.length_drop;have:=hasRun_le n hn m g _ (by simp only[List.length_cons]at hm hl ⊢;omega) h;omega
theorem fence_ok (s:List UInt8):∀f n,0<n→n+f=s.length+2→0<f→hasRun (fence s f n) s.length s=false∧n≤fence s f n
 |0,n,_,_,h=>absurd h (Nat.lt_irrefl _)
 |f+1,n,hn,he,_=>by
  unfold fence;cases hr:hasRun n s.length s with
  |false=>exact⟨by rw[if_neg (by decide)];exact hr,by rw[if_neg (by decide)];exact Nat.le_refl _⟩
  |true=>
   rw[if_pos rfl];have:=hasRun_le n hn _ _ s (Nat.le_refl _) hr;obtain⟨h1,h2⟩:=fence_ok s f (n+1) (by omega) (by omega) (by omega);exact⟨h1,by omega⟩
theorem ticksOf_ok (s:List UInt8):hasRun (ticksOf s) s.length s=false∧0<ticksOf s:=fence_ok s (s.length+1) 1 (by omega) (by omega) (by omega)
theorem padded_runs (n:Nat) (hn:0<n) (s:List UInt8) (h:hasRun n s.length s=false):hasRun n (padded s).length (padded s)=false:=by
 unfold padded;split
 ·rw[List.length_cons,hasRun_cons,if_neg (by show ¬(if(32:UInt8)=96 then _ else 0)=n;rw[if_neg (by decide)];omega)]
  show hasRun n _ ((32::(s++[32])).drop (max (if(32:UInt8)=96 then _ else 0) 1))=false;rw[if_neg (by decide)];show hasRun n (s++[32]).length (s++[32])=false;rw[List.length_append];show hasRun n (s.length+1) (s++[32])=false;rw[hasRun_snoc n hn _ _ s (Nat.le_refl _) (Nat.le_refl _)];exact h
 ·exact h
theorem padded_ne (s:List UInt8) (h:s≠[]):padded s≠[]:=by
 unfold padded;split
 ·simp
 ·exact h
theorem padded_head (s:List UInt8):(padded s).head?≠some 96:=by
 unfold padded;split
 ·simp
 ·rename_i h
  exact fun e=>h (Or.inl e)
theorem padded_last (s:List UInt8):(padded s).getLast?≠some 96:=by
 unfold padded;split
 ·rw[←List.cons_append,List.getLast?_concat];decide
 ·rename_i h
  exact fun e=>h (Or.inr (Or.inl e))
theorem padded_lf (s:List UInt8) (h:(10:UInt8)∉s):(10:UInt8)∉padded s:=by
 unfold padded;split
 ·simp[h]
 ·exact h
theorem strip_padded (s:List UInt8):strip (padded s)=s:=by
 unfold padded;split
 ·rename_i h
  have ho:onlySp (32::(s++[32]))=false:=by
   rcases h with h |h |h
   ·cases s with
    |nil=>cases h
    |cons c s=>simp at h;subst h;simp[onlySp]
   ·have:(96:UInt8)∈s:=List.mem_of_getLast? h
    unfold onlySp;rw[List.all_eq_false];exact⟨96,by simp[this],by decide⟩
   ·have h1:=h.1
    unfold onlySp at h1 ⊢;rw[List.all_eq_false]at h1 ⊢;obtain⟨x,hx,hb⟩:=h1;exact⟨x,by simp[hx],hb⟩
  unfold strip;rw[if_pos ⟨ho,rfl,by rw[←List.cons_append,List.getLast?_concat]⟩,List.tail_cons,List.dropLast_concat]
 ·rename_i h
  unfold strip;rw[if_neg (fun e=>h (Or.inr (Or.inr e)))]
def Stop (e l:Bool) (t:List UInt8):Prop:=t=[]∨(∃r,t=42::r∧e=true)∨(∃r,t=93::r∧l=true)
theorem read_stop {e l:Bool} {t:List UInt8} (h:Stop e l t) (f:Nat) (hf:t.length≤f):read f e l t=([],t):=by
 cases f with
 |zero=>rfl
 |succ f=>
  rcases h with rfl |⟨r,rfl,rfl⟩|⟨r,rfl,rfl⟩
  ·rfl
  ·rw[read];simp
  ·rw[read];simp
theorem esc_head (s:List UInt8) (t:List UInt8) (h:s≠[]):(esc s++t).head?≠some 96:=by
 cases s with
 |nil=>exact absurd rfl h
 |cons c s=>
  rw[esc];cases hc:marked c with
  |true=>simp
  |false=>
   rw[if_neg (by decide)];have:=(unmarked c hc).2.2.2.2
   simpa using this
theorem next_head {e l:Bool} {t:List UInt8} (ht:Stop e l t):∀L:List Sp,fits e l 2 L→(wrs L++t).head?≠some 96
 |[],_=>by
  rw[wrs];rcases ht with rfl |⟨r,rfl,_⟩|⟨r,rfl,_⟩<;>simp
 |.mk k s kids::L,h=>by
  rw[fits]at h;obtain⟨h1,h2,_⟩:=h;rw[wrs,wr1];rw[fit1]at h1;rcases h1 with ⟨rfl,rfl,hs⟩|⟨rfl,_⟩|⟨rfl,_⟩|⟨rfl,_⟩
  ·rw[if_pos rfl,List.append_assoc];exact esc_head s _ hs
  ·exact absurd ⟨rfl,by decide⟩ h2
  ·simp
  ·simp
theorem consT_new {e l:Bool} {s:List UInt8}:∀L:List Sp,fits e l 1 L→consT s L=.mk 1 s []::L
 |[],_=>rfl
 |.mk k t kids::L,h=>by
  rw[fits]at h;have hk:k≠1:=fun e=>h.2.1 ⟨e,by omega⟩
  show(if k=1 then _ else _)=_;rw[if_neg hk]
theorem take_dest (s t:List UInt8) (h:∀c∈s,destB c=true):(s++41::t).takeWhile destB=s∧(s++41::t).dropWhile destB=41::t:=by
 induction s with
 |nil=>exact⟨rfl,rfl⟩
 |cons c s ih=>
  have hc:=h c (List.mem_cons_self ..);obtain⟨i1,i2⟩:=ih (fun d hd=>h d (List.mem_cons_of_mem _ hd));rw[List.cons_append,List.takeWhile_cons_of_pos hc,List.dropWhile_cons_of_pos hc,i1,i2];exact⟨rfl,rfl⟩
theorem read_back (e l:Bool) (prev:Int) (L:List Sp) (hL:fits e l prev L) (t:List UInt8) (ht:Stop e l t) (f:Nat) (hf:(wrs L++t).length≤f):read f e l (wrs L++t)=(L,t):=by
 match L,hL with
 |[],_=>rw[wrs]at hf ⊢;exact read_stop ht f hf
 |.mk k s kids::R,hL=>
  rw[fits]at hL;obtain⟨h1,h2,h3⟩:=hL;rw[fit1]at h1;rw[wrs,wr1]at hf ⊢;rcases h1 with ⟨rfl,rfl,hs⟩|⟨rfl,rfl,hs,h10⟩|⟨rfl,rfl,hk,rfl,hkids⟩|⟨rfl,hs,hd,hk,rfl,hkids⟩
  ·rw[if_pos rfl,List.append_assoc]at hf ⊢
   obtain⟨g,hg,he⟩:=read_esc e l (wrs R++t) s f hs hf;have ih:=read_back e l 1 R h3 t ht g hg;rw[he,ih,consT_new R h3]
  ·rw[if_neg (by decide),if_pos rfl]at hf ⊢
   obtain⟨r1,r2⟩:=ticksOf_ok s;have hp:=padded_runs _ r2 s r1;have hh:=next_head ht R h3;generalize ticksOf s=n at *;have e1:(List.replicate n (96:UInt8)++(padded s++List.replicate n 96))++wrs R++t=List.replicate n 96++(padded s++(List.replicate n 96++(wrs R++t))):=by simp[List.append_assoc]
   rw[e1]at hf ⊢
   have hph:(padded s++(List.replicate n 96++(wrs R++t))).head?≠some 96:=by
    have:=padded_head s;cases hps:padded s with
    |nil=>exact absurd hps (padded_ne s hs)
    |cons c p=>rw[hps]at this;exact this
   have hk:=ticks_rep n _ hph;have hcc:=code_closes n r2 (wrs R++t) hh _ (padded s) [] (List.replicate n (96:UInt8)++(padded s++(List.replicate n 96++(wrs R++t)))).length _ (Nat.le_refl _) (padded_lf s h10) (fun _=>padded_last s) hp (Nat.le_refl _) (by simp;omega);obtain⟨n,rfl⟩:∃n',n=n'+1:=⟨n-1,by omega⟩;obtain⟨f,rfl⟩:∃f',f=f'+1:=⟨f-1,by simp at hf;omega⟩;have ih:=read_back e l 2 R h3 t ht f (by simp at hf ⊢;omega);have hdr:(List.replicate (n+1) (96:UInt8)++(padded s++(List.replicate (n+1) 96++(wrs R++t)))).drop (n+1)=padded s++(List.replicate (n+1) 96++(wrs R++t)):=List.drop_left' (List.length_replicate ..);generalize hX:List.replicate (n+1) (96:UInt8)++(padded s++(List.replicate (n+1) 96++(wrs R++t)))=X at *;obtain⟨r,rfl⟩:∃r,X=96::r:=⟨X.tail,by rw[←hX];rfl⟩;rw[read];simp only[show ¬(((96:UInt8)=42∧e=true)∨((96:UInt8)=93∧l=true))from fun h=>by rcases h with h |h<;>exact absurd h.1 (by decide),show ¬((96:UInt8)=92∧(r.head?.map cls)=some 4)from fun h=>absurd h.1 (by decide),if_false,if_true];rw[hk,hdr,hcc];simp only[List.nil_append];rw[ih,strip_padded]
  ·rw[if_neg (by decide),if_neg (by decide),if_pos rfl]at hf ⊢
   have e1:(42::(wrs kids++[42]):List UInt8)++wrs R++t=42::(wrs kids++42::(wrs R++t)):=by simp
   rw[e1]at hf ⊢;obtain⟨f,rfl⟩:∃f',f=f'+1:=⟨f-1,by simp at hf;omega⟩;have ihk:=read_back true l 0 kids hkids (42::(wrs R++t)) (Or.inr (Or.inl ⟨_,rfl,rfl⟩)) f (by simp at hf ⊢;omega);have ih:=read_back false l 3 R h3 t ht f (by simp at hf ⊢;omega);rw[read];simp only[show ¬((42:UInt8)=92∧((wrs kids++42::(wrs R++t)).head?.map cls)=some 4)from fun h=>absurd h.1 (by decide),show ¬((42:UInt8)=96)by decide,if_false,if_true];rw[ihk];cases kids with
   |nil=>exact absurd rfl hk
   |cons k0 ks=>
    simp only;rw[if_neg (by simp),ih]
  ·rw[if_neg (by decide),if_neg (by decide),if_neg (by decide),if_pos rfl]at hf ⊢
   have e1:(91::(wrs kids++(93::40::(s++[41]))):List UInt8)++wrs R++t=91::(wrs kids++93::(40::(s++41::(wrs R++t)))):=by simp
   rw[e1]at hf ⊢;obtain⟨f,rfl⟩:∃f',f=f'+1:=⟨f-1,by simp at hf;omega⟩;have ihk:=read_back e true 0 kids hkids (93::(40::(s++41::(wrs R++t)))) (Or.inr (Or.inr ⟨_,rfl,rfl⟩)) f (by simp at hf ⊢;omega);have ih:=read_back e false 4 R h3 t ht f (by simp at hf ⊢;omega);obtain⟨d1,d2⟩:=take_dest s (wrs R++t) hd
   have hdest:dest (40::(s++41::(wrs R++t)))=some (s,wrs R++t):=by
    unfold dest;simp only[d1,d2,if_neg hs]
   rw[read];simp only[show ¬((91:UInt8)=92∧((wrs kids++93::(40::(s++41::(wrs R++t)))).head?.map cls)=some 4)from fun h=>absurd h.1 (by decide),show ¬((91:UInt8)=96)by decide,show ¬((91:UInt8)=42)by decide,if_false,and_self,if_true];rw[ihk];cases kids with
   |nil=>exact absurd rfl hk
   |cons k0 ks=>
    simp only[hdest];rw[if_neg (by simp),ih]
termination_by SizeOf.sizeOf L
theorem parse_write (L:List Sp) (h:fits false false 0 L):(read (wrs L).length false false (wrs L)).1=L:=by
 have:=read_back false false 0 L h [] (Or.inl rfl) (wrs L).length (by rw[List.append_nil];exact Nat.le_refl _);rw[List.append_nil]at this;rw[this]
end Sp
namespace Sp
theorem fits_of {e l:Bool} {p q:Int}:∀{L:List Sp},fits e l p L→(∀k s kids r,L=.mk k s kids::r→¬(k=q∧k≤2))→fits e l q L
 |[],_,_=>by rw[fits];trivial
 |.mk k s kids::r,h,hq=>by
  rw[fits]at h ⊢;exact⟨h.1,hq k s kids r rfl,h.2.2⟩
theorem consT_fits {e l:Bool} {s:List UInt8} (hs:s≠[]):∀(L:List Sp),fits e l 0 L→∀p:Int,p≠1→fits e l p (consT s L)
 |[],_,p,hp=>by
  rw[consT,fits,fit1,fits];exact⟨Or.inl ⟨rfl,rfl,hs⟩,fun h=>hp h.1.symm,trivial⟩
 |.mk k t kids::r,h,p,hp=>by
  show fits e l p (if k=1 then .mk 1 (s++t) kids::r else .mk 1 s []::.mk k t kids::r);have h':=h;rw[fits]at h;by_cases hk:k=1
  ·subst hk
   rw[if_pos rfl,fits];have h1:=h.1;rw[fit1]at h1;rcases h1 with ⟨_,hkid,_⟩|⟨h2,_⟩|⟨h2,_⟩|⟨h2,_⟩
   ·refine⟨?_,fun h=>hp h.1.symm,h.2.2⟩
    rw[fit1];exact Or.inl ⟨rfl,hkid,by simp[hs]⟩
   all_goals exact absurd h2 (by decide)
  ·rw[if_neg hk,fits]
   refine⟨?_,fun h=>hp h.1.symm,fits_of h' (fun k' s' kids' r' he=>by cases he;exact fun h=>hk h.1)⟩;rw[fit1];exact Or.inl ⟨rfl,rfl,hs⟩
theorem ticks_drop:∀l:List UInt8,(l.drop (ticks l)).head?≠some 96
 |[]=>by simp
 |b::r=>by
  by_cases e:b=96
  ·rw[show ticks (b::r)=ticks r+1 from if_pos e,List.drop_succ_cons]
   exact ticks_drop r
  ·rw[show ticks (b::r)=0 from if_neg e,List.drop_zero]
   simpa using e
theorem ticks_take:∀l:List UInt8,l.take (ticks l)=List.replicate (ticks l) 96
 |[]=>rfl
 |b::r=>by
  by_cases e:b=96
  ·rw[show ticks (b::r)=ticks r+1 from if_pos e,List.take_succ_cons,List.replicate_succ,ticks_take r,e]
  ·rw[show ticks (b::r)=0 from if_neg e];rfl
theorem ticks_pos {b:UInt8} {r:List UInt8} (h:b=96):0<ticks (b::r):=by rw[show ticks (b::r)=ticks r+1 from if_pos h];omega
theorem code_some (n:Nat) (hn:0<n):∀(f:Nat) (acc t x t':List UInt8),code n f acc t=some (x,t')→
  t'.head?≠some 96∧(acc≠[]∨t.head?≠some 96→x≠[])∧∃y,x=acc++y∧t=y++(List.replicate n 96++t')∧(10:UInt8)∉y
 |0,acc,t,x,t',h=>by cases h
 |f+1,acc,[],x,t',h=>by cases h
 |f+1,acc,b::r,x,t',h=>by
  rw[code]at h;by_cases h10:b=10
  ·rw[if_pos h10]at h;cases h
  ·rw[if_neg h10]at h
   by_cases ht:ticks (b::r)=n
   ·rw[if_pos ht]at h
    simp only[Option.some.injEq,Prod.mk.injEq]at h;obtain⟨rfl,rfl⟩:=h;refine⟨by rw[←ht];exact ticks_drop _,fun ha=>?_,[],by simp,?_,by simp⟩
    ·rcases ha with ha |ha
     ·exact ha
     ·exfalso
      have:ticks (b::r)=0:=if_neg (fun e=>ha (by rw[e];rfl));omega
    ·rw[List.nil_append,←ht,←ticks_take,List.take_append_drop]
   ·rw[if_neg ht]at h
    have hk:1≤max (ticks (b::r)) 1:=by omega
    have hk2:max (ticks (b::r)) 1≤(b::r).length:=by have:=ticks_le (b::r);simp only[List.length_cons]at this ⊢;omega
    obtain⟨i1,i2,y,i3,i4,i5⟩:=code_some n hn f _ _ x t' h
    have hne:acc++(b::r).take (max (ticks (b::r)) 1)≠[]:=by
     intro e;have:=congrArg List.length e;rw[List.length_append,List.length_take]at this;simp at this
    refine⟨i1,fun _=>i2 (Or.inl hne),(b::r).take (max (ticks (b::r)) 1)++y,by rw[i3,List.append_assoc],by rw[List.append_assoc,←i4,List.take_append_drop],?_⟩;intro hm;rcases List.mem_append.1 hm with hm |hm
    ·by_cases e:b=96
     ·rw[show max (ticks (b::r)) 1=ticks (b::r)by have:=ticks_pos (r:=r) e;omega,ticks_take]at hm
      have:=List.eq_of_mem_replicate hm;exact absurd this (by decide)
     ·rw[show ticks (b::r)=0 from if_neg e]at hm
      simp at hm;exact h10 hm.symm
    ·exact i5 hm
theorem strip_ne {x:List UInt8} (h:x≠[]):strip x≠[]:=by
 unfold strip;split
 ·rename_i hh
  obtain⟨h1,h2,h3⟩:=hh;cases x with
  |nil=>exact absurd rfl h
  |cons c x=>
   rw[List.head?_cons,Option.some.injEq]at h2;subst h2;rw[List.tail_cons];cases x with
   |nil=>simp[onlySp]at h1
   |cons d x=>
    rw[List.getLast?_cons_cons]at h3;intro e;have hl:=congrArg List.length e;rw[List.length_dropLast]at hl;simp at hl;subst hl;simp at h3;subst h3;simp[onlySp]at h1
 ·exact h
theorem strip_mem {x:List UInt8} {c:UInt8} (h:c∈strip x):c∈x:=by
 unfold strip at h;split at h
 ·exact List.mem_of_mem_tail ((List.dropLast_sublist _).subset h)
 ·exact h
theorem mem_tw:∀(l:List UInt8) (c:UInt8),c∈l.takeWhile destB→destB c=true
 |[],c,h=>by cases h
 |b::l,c,h=>by
  cases hb:destB b with
  |false=>rw[List.takeWhile_cons_of_neg (by simp[hb])]at h;cases h
  |true=>
   rw[List.takeWhile_cons_of_pos hb]at h;rcases List.mem_cons.1 h with rfl |h
   ·exact hb
   ·exact mem_tw l c h
theorem dest_some {t s r:List UInt8} (h:dest t=some (s,r)):s≠[]∧(∀c∈s,destB c=true)∧t=40::(s++41::r):=by
 unfold dest at h;split at h
 ·rename_i t'
  split at h
  ·rename_i r' hd
   split at h
   ·cases h
   ·rename_i hne
    simp only[Option.some.injEq,Prod.mk.injEq]at h;obtain⟨rfl,rfl⟩:=h;refine⟨hne,mem_tw _,?_⟩;rw[←hd,List.takeWhile_append_dropWhile]
  ·cases h
 ·cases h
theorem read_fits:∀(f:Nat) (e l:Bool) (t:List UInt8),fits e l 0 (read f e l t).1∧(t.head?≠some 96→fits e l 2 (read f e l t).1)
 |0,e,l,t=>⟨by rw[read,fits];trivial,fun _=>by rw[read,fits];trivial⟩
 |f+1,e,l,[]=>⟨by rw[read,fits];trivial,fun _=>by rw[read,fits];trivial⟩
 |f+1,e,l,c::r=>by
  have ih:=fun e l t=>read_fits f e l t
  have plain:∀t,fits e l 0 (consT [c] (read f e l t).1)∧(c≠96→fits e l 2 (consT [c] (read f e l t).1)):=fun t=>⟨consT_fits (by simp) _ (ih e l t).1 0 (by decide),fun _=>consT_fits (by simp) _ (ih e l t).1 2 (by decide)⟩
  have hh:(c::r).head?≠some 96↔c≠96:=by simp
  rw[hh,read];split
  ·exact⟨by rw[fits];trivial,fun _=>by rw[fits];trivial⟩
  ·split
   ·rename_i hn he
    have hr:r.take 1≠[]:=by
     cases r with
     |nil=>simp at he
     |cons d r=>simp
    exact⟨consT_fits hr _ (ih e l _).1 0 (by decide),fun _=>consT_fits hr _ (ih e l _).1 2 (by decide)⟩
   ·split
    ·rename_i hc
     have hp:=ticks_pos (r:=r) hc;cases hcode:code (ticks (c::r)) (c::r).length [] ((c::r).drop (ticks (c::r)))with
     |some p=>
      obtain⟨x,t'⟩:=p;obtain⟨h1,h2,y,h3,h4,h5⟩:=code_some _ hp _ _ _ _ _ hcode;have hx:=h2 (Or.inr (ticks_drop _));rw[List.nil_append]at h3;subst h3;refine⟨?_,fun h=>absurd hc h⟩;simp only;rw[fits,fit1];exact⟨Or.inr (Or.inl ⟨rfl,rfl,strip_ne hx,fun h=>h5 (strip_mem h)⟩),fun h=>absurd h.1 (by decide),(ih e l t').2 h1⟩
     |none=>
      refine⟨?_,fun h=>absurd hc h⟩;exact consT_fits (by intro e;have:=congrArg List.length e;simp at this;omega) _ (ih e l _).1 0 (by decide)
    ·rename_i hc96
     split
     ·rename_i hstop hesc hc
      subst hc
      have he:e=false:=by
       cases e with
       |false=>rfl
       |true=>exact absurd (Or.inl ⟨rfl,rfl⟩) hstop
      split
      ·rename_i k kids t' hread
       have hk:=(ih true l r).1;rw[hread]at hk
       have fit:fit1 e l (.mk 3 [] (k::kids)):=by
        rw[fit1];exact Or.inr (Or.inr (Or.inl ⟨rfl,rfl,by simp,he,hk⟩))
       have tail:=fits_of (q:=3) (ih e l t').1 (fun k' s' kids' r' h=>fun h=>by have:=h.2;omega);exact⟨by simp only;rw[fits];exact⟨fit,fun h=>absurd h.1 (by decide),tail⟩,fun _=>by simp only;rw[fits];exact⟨fit,fun h=>absurd h.1 (by decide),tail⟩⟩
      ·exact⟨(plain r).1,(plain r).2⟩
     ·split
      ·rename_i hc
       obtain⟨hc,hl⟩:=hc;split
       ·rename_i k kids t' hread
        have hk:=(ih e true r).1;rw[hread]at hk;cases hd:dest t' with
        |none=>exact⟨(plain r).1,(plain r).2⟩
        |some p=>
         obtain⟨s,t''⟩:=p;obtain⟨d1,d2,_⟩:=dest_some hd
         have fit:fit1 e l (.mk 4 s (k::kids)):=by
          rw[fit1];exact Or.inr (Or.inr (Or.inr ⟨rfl,d1,d2,by simp,hl,hk⟩))
         have tail:=fits_of (q:=4) (ih e l t'').1 (fun k' s' kids' r' h=>fun h=>by have:=h.2;omega);exact⟨by simp only;rw[fits];exact⟨fit,fun h=>absurd h.1 (by decide),tail⟩,fun _=>by simp only;rw[fits];exact⟨fit,fun h=>absurd h.1 (by decide),tail⟩⟩
       ·exact⟨(plain r).1,(plain r).2⟩
      ·exact⟨(plain r).1,(plain r).2⟩
end Sp
end Go.Proofs.YtpakjdgddomdjabGreatDoor
