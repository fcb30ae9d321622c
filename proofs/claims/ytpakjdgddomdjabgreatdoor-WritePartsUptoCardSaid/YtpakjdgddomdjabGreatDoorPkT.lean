import Derived.Test.YtpakjdgddomdjabGreatDoorPkL
import Derived.Test.YtpakjdgddomdjabGreatDoorPkA
set_option linter.unusedVariables false
namespace Go.Proofs.YtpakjdgddomdjabGreatDoor
namespace Bk
open Ln (run mx trim)
open Sp (Sp wrs destB)
structure Env where
 chk:Tx→Bool
variable (E:Env)
def gapB (c:UInt8):Bool:=c==32||c==9
def tight (s:Tx):Bool:=s.all (fun _=>true)&&(match s.head? with |none=>true |some c=>!gapB c)&&(match s.getLast? with |none=>true |some c=>!gapB c)
def label (s:Tx):Bool:=E.chk s&&decide (s≠[])&&tight s&&!s.contains 10&&!s.contains 13&&!s.contains 91&&!s.contains 93&&!s.contains 92
def isDest (s:Tx):Bool:=decide (s≠[])&&s.all destB
def df:Tx→Tx→Option (Tx × Tx)
 |_,[]=>none
 |acc,c::t=>match c,t with
  |93,58::32::d=>if label E acc&&isDest d then some (acc,d)else df (acc++[93]) (58::32::d)
  |c,t=>df (acc++[c]) t
def define (s:Tx):Option (Tx × Tx):=match s with
 |91::t=>df E [] t
 |_=>none
def kindOf (s:Tx):Nat:=
 if trim s=[]then 1
 else if(1≤run 35 s∧run 35 s≤6)∧(s.length=run 35 s∨s[run 35 s]? = some 32)then 2
 else if 3≤run 45 s∧run 45 s=s.length then 3
 else if 3≤run 96 s∧mx 96 (s.drop (run 96 s))=0 then 4
 else if s.head? = some 62 then 5
 else if s=[45]∨s.take 2=[45,32]then 6
 else if(define E s).isSome=true then 7 else 8
def closes (s:Tx) (n:Nat):Bool:=decide (0<s.length)&&decide (n≤s.length)&&decide (run 96 s=s.length)
def unquote (s:Tx):Tx:=if s[1]? = some 32 then s.drop 2 else s.drop 1
def unitem (s:Tx):Tx:=s.drop 2
def inner (s:Tx):Option Tx:=if s.take 2=[32,32]then some (s.drop 2)else if trim s=[]then some []else none
def parse (t:Tx):List Sp:=(Sp.read t.length false false t).1
def joinLF:List Tx→Tx
 |[]=>[]
 |[x]=>x
 |x::y::r=>x++10::joinLF (y::r)
def fenceL (n:Nat):List Tx→List Tx × List Tx
 |[]=>([],[])
 |s::l=>if closes s n then([],l)else(s::(fenceL n l).1,(fenceL n l).2)
def spanK (k:Nat):List Tx→List Tx × List Tx
 |[]=>([],[])
 |s::l=>if kindOf E s=k then(s::(spanK k l).1,(spanK k l).2)else([],s::l)
def itemL:List Tx→List Tx × List Tx
 |[]=>([],[])
 |s::l=>match inner s with
  |none=>([],s::l)
  |some x=>if(itemL l).1=[]∧kindOf E s=1 then([],s::l)else(x::(itemL l).1,(itemL l).2)
def dropBlank:List Tx→List Tx
 |[]=>[]
 |s::l=>if kindOf E s=1 then dropBlank l else s::l
def listL:Nat→List Tx→List (List Tx) × List Tx
 |0,l=>([],l)
 |f+1,[]=>([],[])
 |f+1,s::l=>
  let it:=itemL E l
  match dropBlank E it.2 with
  |[]=>([unitem s::it.1],it.2)
  |t::r=>if kindOf E t=6 then((unitem s::it.1)::(listL f (t::r)).1,(listL f (t::r)).2)else([unitem s::it.1],it.2)
def items (rec:List Tx→Option (List Bk)):List (List Tx)→Option (List Bk)
 |[]=>some []
 |x::r=>match rec x with
  |none=>none
  |some k=>(items rec r).map (.mk 7 0 [] [] [] k::·)
def blockB (rec:Nat→List Tx→Option (List Bk)) (deep:Nat) (s:Tx) (l:List Tx):Option (Bk × List Tx):=
 if kindOf E s=2 then some (.mk 2 (run 35 s) [] [] (parse (trim (s.drop (run 35 s)))) [],l)
 else if kindOf E s=3 then some (.mk 3 0 [] [] [] [],l)
 else if kindOf E s=4 then some (.mk 4 0 (trim (s.drop (run 96 s))) (fenceL (run 96 s) l).1 [] [],(fenceL (run 96 s) l).2)
 else if kindOf E s=5 then(rec (deep+1) ((spanK E 5 (s::l)).1.map unquote)).map fun k=>(.mk 5 0 [] [] [] k,(spanK E 5 (s::l)).2)
 else if kindOf E s=6 then(items (rec (deep+2)) (listL E (l.length+1) (s::l)).1).map fun k=>(.mk 6 0 [] [] [] k,(listL E (l.length+1) (s::l)).2)
 else if kindOf E s=7 then(define E s).map fun p=>(.mk 8 0 p.1 [p.2] [] [],l)
 else some (.mk 1 0 [] [] (parse (joinLF ((spanK E 8 (s::l)).1.map trim))) [],(spanK E 8 (s::l)).2)
def allB:Nat→Nat→List Tx→Option (List Bk)
 |0,_,_=>none
 |f+1,deep,l=>if 16<deep then none else match l with
  |[]=>some []
  |s::l=>if kindOf E s=1 then allB f deep l
   else match blockB E (allB f) deep s l with
    |none=>none
    |some (b,r)=>(allB f deep r).map (b::·)
def ticksL (l:List Tx):Nat:=l.foldr (fun s n=>max (mx 96 s+1) n) 3
def preQ (s:Tx):Tx:=if s=[]then [62]else 62::32::s
def preI (s:Tx):Tx:=if s=[]then []else 32::32::s
def itemW (l:List Tx):List Tx:=match l with
 |[]=>[[45]]
 |s::r=>(45::32::s)::r.map preI
mutual
def one:Bk→List Tx
 |.mk k lv info lines spans kids=>
  if k=1 then(Ln.split (wrs spans)).1
  else if k=2 then [List.replicate lv.toNat 35++(if spans=[]then []else 32::wrs spans)]
  else if k=3 then [[45,45,45]]
  else if k=4 then(List.replicate (ticksL lines) 96++info)::(lines++[List.replicate (ticksL lines) 96])
  else if k=5 then(if wl kids=[]then [[62]]else(wl kids).map preQ)
  else if k=6 then its kids
  else if k=7 then itemW (wl kids)
  else [91::(info++(93::58::32::(lines.headD [])))]
def wl:List Bk→List Tx
 |[]=>[]
 |b::r=>match r with
  |[]=>one b
  |_::_=>one b++[]::wl r
def its:List Bk→List Tx
 |[]=>[]
 |b::r=>one b++its r
end
end Bk
namespace Bk
open Ln (run trim run_yes run_no dr_cons dl_no mx_none)
open Sp (Sp wrs)
variable (E:Env)
theorem trim_ne {c:UInt8} (h:Ln.gapB c=false) (t:Tx):trim (c::t)≠[]:=by
 unfold trim;rw[dr_cons];split
 ·rw[h];simp[dl_no h]
 ·rw[dl_no h];simp
theorem take2_ne {c:UInt8} (h:c≠32) (t:Tx):(c::t).take 2≠[32,32]:=by
 cases t<;>simp[h]
theorem inner_none {c:UInt8} (h:Ln.gapB c=false) (t:Tx):inner (c::t)=none:=by
 have hc:c≠32:=fun e=>by subst e;cases h
 unfold inner;rw[if_neg (take2_ne hc t),if_neg (trim_ne h t)]
theorem run_head {c d:UInt8} (h:c≠d) (t:Tx):run d (c::t)=0:=run_no h t
theorem kind_blank:kindOf E []=1:=rfl
theorem kind_quote (s:Tx):kindOf E (preQ s)=5:=by
 obtain⟨t,ht⟩:∃t,preQ s=62::t:=by unfold preQ;split<;>exact⟨_,rfl⟩
 rw[ht];unfold kindOf;rw[if_neg (trim_ne (by decide) t),run_head (by decide),run_head (by decide),run_head (by decide),if_neg (by omega),if_neg (by omega),if_neg (by omega),if_pos (show(62::t).head? = some 62 from rfl)]
theorem kind_item (t:Tx):kindOf E (45::32::t)=6:=by
 unfold kindOf;have hr:run 45 (45::32::t)=1:=by rw[run_yes rfl,run_no (by decide)]
 rw[if_neg (trim_ne (by decide) _),run_head (by decide),hr,run_head (by decide),if_neg (by omega),if_neg (by omega),if_neg (by omega),if_neg (by simp),if_pos (show(45::32::t=[45])∨(List.take 2 (45::32::t)=[45,32])from Or.inr rfl)]
theorem kind_item0:kindOf E [45]=6:=by
 unfold kindOf;rw[if_neg (by decide),if_neg (by decide),if_neg (by decide),if_neg (by decide),if_neg (by decide),if_pos (Or.inl rfl)]
theorem kind_rule:kindOf E [45,45,45]=3:=by
 unfold kindOf;rw[if_neg (by decide),if_neg (by decide),if_pos (by decide)]
theorem run_reps (c:UInt8) (t:Tx) (ht:t.head?≠some c):∀n,run c (List.replicate n c++t)=n
 |0=>by
  cases t with
  |nil=>rfl
  |cons b r=>exact run_no (fun e=>ht (by rw[e];rfl)) r
 |n+1=>by rw[List.replicate_succ,List.cons_append,run_yes rfl,run_reps c t ht n]
theorem kind_head (n:Nat) (h1:1≤n) (h6:n≤6) (t:Tx) (ht:t=[]∨∃r,t=32::r):kindOf E (List.replicate n 35++t)=2∧run 35 (List.replicate n 35++t)=n:=by
 have hr:run 35 (List.replicate n 35++t)=n:=run_reps 35 t (by rcases ht with rfl |⟨r,rfl⟩<;>simp) n;obtain⟨m,rfl⟩:∃m,n=m+1:=⟨n-1,by omega⟩
 have hc:(List.replicate (m+1) (35:UInt8)++t).length=m+1∨(List.replicate (m+1) (35:UInt8)++t)[m+1]? = some 32:=by
  rcases ht with rfl |⟨r,rfl⟩
  ·left;simp
  ·right;rw[List.getElem?_append_right (by simp)];simp
 refine⟨?_,hr⟩;unfold kindOf;rw[hr];rw[if_neg (by rw[List.replicate_succ,List.cons_append];exact trim_ne (by decide) _),if_pos ⟨⟨h1,h6⟩,hc⟩]
theorem kind_fence (n:Nat) (h3:3≤n) (info:Tx) (h96:(96:UInt8)∉info):kindOf E (List.replicate n 96++info)=4∧run 96 (List.replicate n 96++info)=n:=by
 have hr:run 96 (List.replicate n 96++info)=n:=run_reps 96 info (by
  cases info with
  |nil=>simp
  |cons c r=>simp;exact fun e=>h96 (by rw[e];exact List.mem_cons_self ..)) n
 refine⟨?_,hr⟩;obtain⟨m,hm⟩:∃m,n=m+1:=⟨n-1,by omega⟩;have hd:(List.replicate n 96++info).drop n=info:=List.drop_left' (List.length_replicate ..);unfold kindOf;rw[hr,hd];subst hm;have e:List.replicate (m+1) (96:UInt8)++info=96::(List.replicate m 96++info):=by rw[List.replicate_succ,List.cons_append]
 rw[e,if_neg (trim_ne (by decide) _),run_head (by decide),run_head (by decide),if_neg (by omega),if_neg (by omega),if_pos ⟨h3,mx_none 96 info h96⟩]
theorem df_on (acc:Tx) (c:UInt8) (t:Tx) (h:c≠93):df E acc (c::t)=df E (acc++[c]) t:=by
 rw[df];intro d hc _;exact h hc
theorem df_pre (t:Tx):∀(p acc:Tx),(93:UInt8)∉p→df E acc (p++t)=df E (acc++p) t
 |[],acc,_=>by simp
 |c::p,acc,h=>by
  rw[List.cons_append,df_on E acc c _ (fun e=>h (by rw[e];exact List.mem_cons_self ..)),df_pre t p _ (fun h'=>h (List.mem_cons_of_mem _ h')),List.append_assoc];rfl
theorem df_found (acc d:Tx) (h1:label E acc=true) (h2:isDest d=true):df E acc (93::58::32::d)=some (acc,d):=by
 rw[df];simp[h1,h2]
theorem label_no (s:Tx) (h:label E s=true):(93:UInt8)∉s:=by
 unfold label at h;simp only[Bool.and_eq_true]at h;have:=h.1.2
 simpa using this
theorem define_ok (info d:Tx) (h1:label E info=true) (h2:isDest d=true):define E (91::(info++93::58::32::d))=some (info,d):=by
 show df E [] (info++93::58::32::d)=_;rw[df_pre E _ info [] (label_no E info h1),List.nil_append,df_found E info d h1 h2]
theorem kind_def (info d:Tx) (h1:label E info=true) (h2:isDest d=true):kindOf E (91::(info++93::58::32::d))=7:=by
 have hd:=define_ok E info d h1 h2;unfold kindOf;rw[hd,if_neg (trim_ne (by decide) _),run_head (by decide),run_head (by decide),run_head (by decide),if_neg (by omega),if_neg (by omega),if_neg (by omega),if_neg (by simp),if_neg (by simp),if_pos (show(some (info,d)).isSome=true from rfl)]
structure PG (spans:List Sp):Prop where
 ne:(Ln.split (wrs spans)).1≠[]
 k8:∀s∈(Ln.split (wrs spans)).1,kindOf E s=8
 tr:∀s∈(Ln.split (wrs spans)).1,trim s=s
 rd:parse (joinLF (Ln.split (wrs spans)).1)=spans
structure HG (spans:List Sp):Prop where
 tr:spans≠[]→trim (32::wrs spans)=wrs spans
 rd:parse (wrs spans)=spans
mutual
def ok1:Bool→Bk→Prop
 |list,.mk k lv info lines spans kids=>
  (list=true∧k=7∧lv=0∧info=[]∧lines=[]∧spans=[]∧oks false false kids)∨
  (list=false∧
   ((k=1∧lv=0∧info=[]∧lines=[]∧kids=[]∧PG E spans)∨
    (k=2∧info=[]∧lines=[]∧kids=[]∧(1≤lv∧lv≤6)∧HG spans)∨
    (k=3∧lv=0∧info=[]∧lines=[]∧spans=[]∧kids=[])∨
    (k=4∧lv=0∧spans=[]∧kids=[]∧trim info=info∧(96:UInt8)∉info)∨
    (k=5∧lv=0∧info=[]∧lines=[]∧spans=[]∧oks false false kids)∨
    (k=6∧lv=0∧info=[]∧lines=[]∧spans=[]∧kids≠[]∧oks true false kids)∨
    (k=8∧lv=0∧spans=[]∧kids=[]∧label E info=true∧∃d,lines=[d]∧isDest d=true)))
def oks:Bool→Bool→List Bk→Prop
 |_,_,[]=>True
 |list,prev,.mk k lv info lines spans kids::r=>ok1 list (.mk k lv info lines spans kids)∧¬(prev=true∧k=6)∧oks list (k==6) r
end
mutual
def dp1:Bk→Nat
 |.mk k _ _ _ _ kids=>(if k=5∨k=6∨k=7 then 1 else 0)+dps kids
def dps:List Bk→Nat
 |[]=>0
 |b::r=>max (dp1 b) (dps r)
end
theorem wl_one (b:Bk):wl [b]=one b:=by rw[wl]
theorem wl_two (b c:Bk) (r:List Bk):wl (b::c::r)=one b++[]::wl (c::r):=by rw[wl]
structure First (k:Int) (s:Tx):Prop where
 nb:kindOf E s≠1
 inn:inner s=none
 it:kindOf E s=6↔(k=6∨k=7)
theorem trim_head_ne {s:Tx} (h:trim s=s) (hk:kindOf E s≠1):inner s=none:=by
 cases s with
 |nil=>exact absurd rfl hk
 |cons c t=>
  have:=Ln.trim_head (c::t) c (by rw[h];rfl);exact inner_none this t
theorem its_cons (b:Bk) (r:List Bk):its (b::r)=one b++its r:=by rw[its]
theorem itemW_first (l:List Tx):∃s r,itemW l=s::r∧kindOf E s=6∧inner s=none:=by
 cases l with
 |nil=>exact⟨[45],[],rfl,kind_item0 E,inner_none (by decide) []⟩
 |cons s r=>exact⟨45::32::s,r.map preI,rfl,kind_item E s,inner_none (by decide) _⟩
theorem first_of (list:Bool) (k lv:Int) (info:Tx) (lines:List Tx) (spans:List Sp) (kids:List Bk) (h:ok1 E list (.mk k lv info lines spans kids)):
  ∃s r,one (.mk k lv info lines spans kids)=s::r∧First E k s:=by
 rw[ok1]at h;rw[one];rcases h with ⟨rfl,rfl,_⟩|⟨rfl,h⟩
 ·obtain⟨s,r,e,h6,hi⟩:=itemW_first E (wl kids)
  exact⟨s,r,by simpa using e,by rw[h6];decide,hi,by rw[h6];simp⟩
 rcases h with ⟨rfl,_,_,_,_,hp⟩|⟨rfl,_,_,_,hl,hg⟩|⟨rfl,_⟩|⟨rfl,_,_,_,ht,h96⟩|⟨rfl,_⟩|⟨rfl,_,_,_,_,hne,hk⟩|⟨rfl,_,_,_,hlab,d,rfl,hd⟩
 ·rw[if_pos rfl]
  cases hs:(Ln.split (wrs spans)).1 with
  |nil=>exact absurd hs hp.ne
  |cons s r=>
   have h8:=hp.k8 s (by rw[hs];exact List.mem_cons_self ..);have ht:=hp.tr s (by rw[hs];exact List.mem_cons_self ..);exact⟨s,r,rfl,by rw[h8];decide,trim_head_ne E ht (by rw[h8];decide),by rw[h8];simp⟩
 ·rw[if_neg (by decide),if_pos rfl]
  refine⟨_,[],rfl,?_⟩;obtain⟨n,rfl⟩:∃n:Nat,lv=n:=⟨lv.toNat,by omega⟩;rw[Int.toNat_natCast];have h2:=(kind_head E n (by omega) (by omega) (if spans=[]then []else 32::wrs spans) (by split;exact Or.inl rfl;exact Or.inr ⟨_,rfl⟩)).1;obtain⟨m,rfl⟩:∃m,n=m+1:=⟨n-1,by omega⟩;exact⟨by rw[h2];decide,by rw[List.replicate_succ,List.cons_append];exact inner_none (by decide) _,by rw[h2];simp⟩
 ·exact⟨[45,45,45],[],rfl,by rw[kind_rule];decide,inner_none (by decide) _,by rw[kind_rule];simp⟩
 ·rw[if_neg (by decide),if_neg (by decide),if_neg (by decide),if_pos rfl]
  have h3:3≤ticksL lines:=by
   unfold ticksL;induction lines with
   |nil=>exact Nat.le_refl _
   |cons x l ih=>show 3≤max _ _;omega
  have h4:=(kind_fence E _ h3 info h96).1;refine⟨_,_,rfl,by rw[h4];decide,?_,by rw[h4];simp⟩;obtain⟨m,hm⟩:∃m,ticksL lines=m+1:=⟨ticksL lines-1,by omega⟩;rw[hm,List.replicate_succ,List.cons_append];exact inner_none (by decide) _
 ·rw[if_neg (by decide),if_neg (by decide),if_neg (by decide),if_neg (by decide),if_pos rfl]
  have hq:∀x,First E 5 (preQ x):=fun x=>⟨by rw[kind_quote];decide,by unfold preQ;split<;>exact inner_none (by decide) _,by rw[kind_quote];simp⟩
  split
  ·exact⟨_,[],rfl,hq []⟩
  ·rename_i hw
   cases hl:wl kids with
   |nil=>exact absurd hl hw
   |cons s r=>exact⟨preQ s,r.map preQ,rfl,hq s⟩
 ·rw[if_neg (by decide),if_neg (by decide),if_neg (by decide),if_neg (by decide),if_neg (by decide),if_pos rfl]
  cases kids with
  |nil=>exact absurd rfl hne
  |cons b r=>
   obtain⟨k',lv',info',lines',spans',kids'⟩:=b;rw[oks]at hk;have h1:=hk.1;rw[ok1]at h1;rcases h1 with ⟨_,rfl,_⟩|⟨hf,_⟩
   ·obtain⟨s,q,e,h6,hi⟩:=itemW_first E (wl kids')
    refine⟨s,q++its r,?_,by rw[h6];decide,hi,by rw[h6];simp⟩;rw[its_cons,one];simp[e]
   ·cases hf
 ·simp only[show ¬((8:Int)=1)by decide,show ¬((8:Int)=2)by decide,show ¬((8:Int)=3)by decide,show ¬((8:Int)=4)by decide,show ¬((8:Int)=5)by decide,show ¬((8:Int)=6)by decide,show ¬((8:Int)=7)by decide,if_false]
  have h7:=kind_def E info d hlab hd;refine⟨_,[],rfl,?_⟩;show First E 8 (91::(info++93::58::32::d));exact⟨by rw[h7];decide,inner_none (by decide) _,by rw[h7];simp⟩
theorem wl_ne {list prev:Bool} {b:Bk} {r:List Bk} (h:oks E list prev (b::r)):wl (b::r)≠[]:=by
 obtain⟨k,lv,info,lines,spans,kids⟩:=b;rw[oks]at h;obtain⟨s,q,e,_⟩:=first_of E list k lv info lines spans kids h.1;cases r with
 |nil=>rw[wl_one,e];simp
 |cons c r=>rw[wl_two,e];simp
end Bk
namespace Bk
open Ln (run mx trim run_le_mx dl_yes dr_dl)
open Sp (Sp wrs)
variable (E:Env)
theorem kind_one (s:Tx):kindOf E s=1↔trim s=[]:=by
 unfold kindOf;constructor
 ·intro h
  by_cases ht:trim s=[]
  ·exact ht
  ·exfalso
   rw[if_neg ht]at h
   revert h
   repeat' split
   all_goals omega
 ·intro h;rw[if_pos h]
theorem trim_sp (s:Tx):trim (32::s)=trim s:=by
 unfold trim;rw[←dr_dl,←dr_dl,dl_yes (by decide)]
theorem trim_preI (s:Tx) (h:trim s≠[]):trim (preI s)≠[]:=by
 unfold preI;split
 ·rename_i e;subst e;exact absurd rfl h
 ·rw[trim_sp,trim_sp];exact h
def Ends (l:List Tx):Prop:=∃p s,l=p++[s]∧trim s≠[]
theorem Ends.app {a b:List Tx} (h:Ends b):Ends (a++b):=by
 obtain⟨p,s,rfl,hs⟩:=h;exact⟨a++p,s,by simp,hs⟩
theorem Ends.cons {a:Tx} {b:List Tx} (h:Ends b):Ends (a::b):=Ends.app (a:=[a]) h
theorem ends_one {s:Tx} (h:trim s≠[]):Ends [s]:=⟨[],s,rfl,h⟩
theorem ends_item (l:List Tx) (h:l=[]∨Ends l):Ends (itemW l):=by
 cases l with
 |nil=>exact ends_one (trim_ne (by decide) [])
 |cons s r=>
  have hE:=h.resolve_left (by simp);obtain⟨p,x,e,hx⟩:=hE;cases p with
  |nil=>
   simp at e;obtain⟨rfl,rfl⟩:=e;exact ends_one (trim_ne (by decide) _)
  |cons y p=>
   simp at e;obtain⟨rfl,rfl⟩:=e;show Ends ((45::32::s)::(p++[x]).map preI);rw[List.map_append];exact Ends.cons ⟨p.map preI,preI x,rfl,trim_preI x hx⟩
mutual
theorem ends1 (list:Bool) (k lv:Int) (info:Tx) (lines:List Tx) (spans:List Sp) (kids:List Bk) (h:ok1 E list (.mk k lv info lines spans kids)):Ends (one (.mk k lv info lines spans kids)):=by
 rw[ok1]at h;rw[one];rcases h with ⟨rfl,rfl,_,_,_,_,hk⟩|⟨rfl,h⟩
 ·have:=ends_item (wl kids) (endsL false false kids hk)
  simpa using this
 rcases h with ⟨rfl,_,_,_,_,hp⟩|⟨rfl,_,_,_,hl,hg⟩|⟨rfl,_⟩|⟨rfl,_,_,_,ht,h96⟩|⟨rfl,_⟩|⟨rfl,_,_,_,_,hne,hk⟩|⟨rfl,_,_,_,hlab,d,rfl,hd⟩
 ·rw[if_pos rfl]
  refine⟨(Ln.split (wrs spans)).1.dropLast,(Ln.split (wrs spans)).1.getLast hp.ne,(List.dropLast_concat_getLast hp.ne).symm,fun e=>?_⟩;have:=hp.k8 _ (List.getLast_mem hp.ne);rw[(kind_one E _).2 e]at this;cases this
 ·rw[if_neg (by decide),if_pos rfl]
  obtain⟨n,rfl⟩:∃n:Nat,lv=n:=⟨lv.toNat,by omega⟩;rw[Int.toNat_natCast];obtain⟨m,rfl⟩:∃m,n=m+1:=⟨n-1,by omega⟩;rw[List.replicate_succ,List.cons_append];exact ends_one (trim_ne (by decide) _)
 ·exact ends_one (trim_ne (by decide) _)
 ·rw[if_neg (by decide),if_neg (by decide),if_neg (by decide),if_pos rfl]
  have h3:3≤ticksL lines:=by
   unfold ticksL;clear ht h96;induction lines with
   |nil=>exact Nat.le_refl _
   |cons x l ih=>show 3≤max _ _;omega
  obtain⟨m,hm⟩:∃m,ticksL lines=m+1:=⟨ticksL lines-1,by omega⟩;refine Ends.cons (Ends.app (ends_one ?_));rw[hm,List.replicate_succ];exact trim_ne (by decide) _
 ·rw[if_neg (by decide),if_neg (by decide),if_neg (by decide),if_neg (by decide),if_pos rfl]
  have hq:∀x,trim (preQ x)≠[]:=fun x=>by unfold preQ;split<;>exact trim_ne (by decide) _
  split
  ·exact ends_one (hq [])
  ·rename_i hw
   refine⟨((wl kids).dropLast).map preQ,preQ ((wl kids).getLast hw),?_,hq _⟩
   conv=>lhs;rw[←List.dropLast_concat_getLast hw]
   rw[List.map_append];rfl
 ·rw[if_neg (by decide),if_neg (by decide),if_neg (by decide),if_neg (by decide),if_neg (by decide),if_pos rfl]
  exact endsI false kids hk hne
 ·simp only[show ¬((8:Int)=1)by decide,show ¬((8:Int)=2)by decide,show ¬((8:Int)=3)by decide,show ¬((8:Int)=4)by decide,show ¬((8:Int)=5)by decide,show ¬((8:Int)=6)by decide,show ¬((8:Int)=7)by decide,if_false]
  exact ends_one (trim_ne (by decide) _)
termination_by SizeOf.sizeOf kids+1
theorem endsL (list prev:Bool) (L:List Bk) (h:oks E list prev L):wl L=[]∨Ends (wl L):=by
 match L,h with
 |[],_=>left;rw[wl]
 |.mk k lv info lines spans kids::[],h=>
  rw[oks]at h;right;rw[wl_one];exact ends1 list k lv info lines spans kids h.1
 |.mk k lv info lines spans kids::c::r,h=>
  rw[oks]at h;right;rw[wl_two];have:=endsL list (k==6) (c::r) h.2.2;have hne:=wl_ne E h.2.2;exact Ends.app (Ends.cons (this.resolve_left hne))
termination_by SizeOf.sizeOf L
theorem endsI (prev:Bool) (L:List Bk) (h:oks E true prev L) (hne:L≠[]):Ends (its L):=by
 match L,h with
 |[],_=>exact absurd rfl hne
 |.mk k lv info lines spans kids::[],h=>
  rw[oks]at h;rw[its_cons,its,List.append_nil];exact ends1 true k lv info lines spans kids h.1
 |.mk k lv info lines spans kids::c::r,h=>
  rw[oks]at h;rw[its_cons];exact Ends.app (endsI (k==6) (c::r) h.2.2 (by simp))
termination_by SizeOf.sizeOf L
end
def Tail (t:List Tx):Prop:=t=[]∨∃r,t=[]::r
theorem spanK_all (k:Nat) (hk:k≠1) (t:List Tx) (ht:Tail t):∀l:List Tx,(∀s∈l,kindOf E s=k)→spanK E k (l++t)=(l,t)
 |[],_=>by
  rcases ht with rfl |⟨r,rfl⟩
  ·rfl
  ·rw[List.nil_append,spanK,if_neg (by rw[kind_blank];exact fun e=>hk e.symm)]
 |s::l,h=>by
  rw[List.cons_append,spanK,if_pos (h s (List.mem_cons_self ..)),spanK_all k hk t ht l (fun x hx=>h x (List.mem_cons_of_mem _ hx))]
theorem ticksL_ge (l:List Tx):3≤ticksL l∧∀s∈l,mx 96 s+1≤ticksL l:=by
 unfold ticksL;induction l with
 |nil=>exact⟨Nat.le_refl _,fun s h=>by cases h⟩
 |cons x l ih=>
  obtain⟨h1,h2⟩:=ih;refine⟨by show 3≤max _ _;omega,fun s hs=>?_⟩;show _≤max (mx 96 x+1) _;rcases List.mem_cons.1 hs with rfl |hs
  ·omega
  ·have:=h2 s hs;omega
theorem fenceL_ok (n:Nat) (hn:0<n) (t:List Tx):∀l:List Tx,(∀s∈l,mx 96 s+1≤n)→fenceL n (l++(List.replicate n 96::t))=(l,t)
 |[],_=>by
  have hr:run 96 (List.replicate n (96:UInt8))=n:=by
   have:=run_reps 96 [] (by simp) n;rwa[List.append_nil]at this
  rw[List.nil_append,fenceL,if_pos];unfold closes;rw[hr];simp;exact hn
 |s::l,h=>by
  have hs:=h s (List.mem_cons_self ..);have hm:=run_le_mx 96 s;rw[List.cons_append,fenceL,if_neg,fenceL_ok n hn t l (fun x hx=>h x (List.mem_cons_of_mem _ hx))];unfold closes;simp;intro _ h1 h2;omega
theorem inner_preI (s:Tx):inner (preI s)=some s:=by
 unfold preI;split
 ·rename_i e;subst e;rfl
 ·unfold inner;rw[if_pos (show(32::32::s).take 2=[32,32]from rfl)];rfl
theorem itemL_pre (t:List Tx) (ht:itemL E t=([],t)):∀r:List Tx,(r=[]∨Ends r)→itemL E (r.map preI++t)=(r,t)
 |[],_=>ht
 |x::r,h=>by
  have hE:=h.resolve_left (by simp)
  have hr:r=[]∨Ends r:=by
   obtain⟨p,s,e,hs⟩:=hE;cases p with
   |nil=>simp at e;exact Or.inl e.2
   |cons y p=>simp at e;exact Or.inr ⟨p,s,e.2,hs⟩
  have ih:=itemL_pre t ht r hr;rw[List.map_cons,List.cons_append,itemL,inner_preI];simp only;rw[ih];rw[if_neg];rintro⟨h1,h2⟩;obtain⟨p,s,e,hs⟩:=hE;simp only at h1;subst h1;cases p with
  |nil=>
   simp at e;subst e;exact trim_preI _ hs ((kind_one E _).1 h2)
  |cons y p=>simp at e
structure Behind (t:List Tx):Prop where
 it:itemL E t=([],t)
 no:dropBlank E t=[]∨∃s r,dropBlank E t=s::r∧kindOf E s≠6
def il:Bk→List Tx
 |.mk _ _ _ _ _ kids=>if wl kids=[]then [[]]else wl kids
theorem il_eq (k lv:Int) (info:Tx) (lines:List Tx) (spans:List Sp) (kids:List Bk):il (.mk k lv info lines spans kids)=if wl kids=[]then [[]]else wl kids:=rfl
theorem item_stop {s:Tx} (h:inner s=none) (l:List Tx):itemL E (s::l)=([],s::l):=by rw[itemL,h]
theorem listL_ok (t:List Tx) (ht:Behind E t):∀(L:List Bk) (prev:Bool) (f:Nat),L≠[]→oks E true prev L→L.length≤f→listL E f (its L++t)=(L.map il,t)
 |[],_,_,h,_,_=>absurd rfl h
 |.mk k lv info lines spans kids::R,prev,f,_,h,hf=>by
  obtain⟨f,rfl⟩:∃f',f=f'+1:=⟨f-1,by simp at hf;omega⟩;rw[oks]at h;obtain⟨h1,_,hR⟩:=h;rw[ok1]at h1;rcases h1 with ⟨_,rfl,rfl,rfl,rfl,rfl,hk⟩|⟨hf',_⟩
  ·have hone:one (.mk 7 0 [] [] [] kids)=itemW (wl kids):=by rw[one];simp
   rw[its_cons,hone,List.append_assoc]
   have hbehind:itemL E (its R++t)=([],its R++t)∧(R≠[]→∃s q,its R++t=s::q∧kindOf E s=6):=by
    cases R with
    |nil=>rw[its,List.nil_append];exact⟨ht.it,fun h=>absurd rfl h⟩
    |cons c R=>
     obtain⟨k2,lv2,info2,lines2,spans2,kids2⟩:=c;rw[oks]at hR;have h2:=hR.1;rw[ok1]at h2;rcases h2 with ⟨_,rfl,_⟩|⟨hf2,_⟩
     ·obtain⟨s,q,e,h6,hi⟩:=itemW_first E (wl kids2)
      have hs:its (.mk 7 lv2 info2 lines2 spans2 kids2::R)++t=s::(q++(its R++t)):=by
       rw[its_cons,one];simp[e]
      rw[hs];exact⟨item_stop E hi _,fun _=>⟨s,_,rfl,h6⟩⟩
     ·cases hf2
   have step:∀s l x,itemW (wl kids)++(its R++t)=s::l→itemL E l=(x,its R++t)→unitem s::x=il (.mk 7 0 [] [] [] kids)→listL E (f+1) (s::l)=((.mk 7 0 [] [] [] kids::R).map il,t):=by
    intro s l x he hx hu;rw[listL,hx];simp only;by_cases hRn:R=[]
    ·subst hRn
     rw[its,List.nil_append];rcases ht.no with h0 |⟨s',r',h0,h6⟩
     ·rw[h0];simp only;rw[hu];rfl
     ·rw[h0];simp only;rw[if_neg h6,hu];rfl
    ·obtain⟨s',q',e',h6⟩:=hbehind.2 hRn
     have hd:dropBlank E (its R++t)=s'::q':=by rw[e',dropBlank,if_neg (by rw[h6];decide)]
     have ih:=listL_ok t ht R _ f hRn hR (by simp at hf;omega);rw[hd];simp only;rw[if_pos h6,←e',ih,hu];rfl
   cases hw:wl kids with
   |nil=>
    rw[hw]at step;exact step [45] (its R++t) [] rfl hbehind.1 (by rw[il_eq,if_pos hw];rfl)
   |cons s0 r0=>
    have hen:=(endsL E false false kids hk).resolve_left (by rw[hw];simp);rw[hw]at hen
    have hr0:r0=[]∨Ends r0:=by
     obtain⟨p,s,e,hs⟩:=hen;cases p with
     |nil=>simp at e;exact Or.inl e.2
     |cons y p=>simp at e;exact Or.inr ⟨p,s,e.2,hs⟩
    rw[hw]at step;exact step (45::32::s0) (r0.map preI++(its R++t)) r0 rfl (itemL_pre E _ hbehind.1 r0 hr0) (by rw[il_eq,if_neg (by rw[hw];simp),hw];rfl)
  ·cases hf'
def tl (r:List Bk):List Tx:=match r with |[]=>[]|_::_=>[]::wl r
theorem wl_tl (b:Bk) (r:List Bk):wl (b::r)=one b++tl r:=by
 cases r with
 |nil=>rw[wl_one];simp[tl]
 |cons c r=>rw[wl_two];rfl
theorem tl_tail (r:List Bk):Tail (tl r):=by
 cases r with
 |nil=>exact Or.inl rfl
 |cons c r=>exact Or.inr ⟨_,rfl⟩
theorem wl_first {prev:Bool} {k lv:Int} {info:Tx} {lines:List Tx} {spans:List Sp} {kids r:List Bk} (h:oks E false prev (.mk k lv info lines spans kids::r)):∃s q,wl (.mk k lv info lines spans kids::r)=s::q∧First E k s:=by
 rw[oks]at h;obtain⟨s,q,e,hF⟩:=first_of E false k lv info lines spans kids h.1;exact⟨s,q++tl r,by rw[wl_tl,e];rfl,hF⟩
theorem behind_tl {r:List Bk} (h:oks E false true r):Behind E (tl r):=by
 cases r with
 |nil=>exact⟨rfl,Or.inl rfl⟩
 |cons c r=>
  obtain⟨k,lv,info,lines,spans,kids⟩:=c;obtain⟨s,q,e,hF⟩:=wl_first E h;rw[oks]at h
  have h7:k≠7:=by
   intro e7;subst e7;have:=h.1;rw[ok1]at this;rcases this with ⟨hf,_⟩|⟨_,h'⟩
   ·cases hf
   ·rcases h' with ⟨h',_⟩|⟨h',_⟩|⟨h',_⟩|⟨h',_⟩|⟨h',_⟩|⟨h',_⟩|⟨h',_⟩<;>exact absurd h' (by decide)
  have h6:kindOf E s≠6:=fun e6=>by
   rcases hF.it.1 e6 with h' |h'
   ·exact h.2.1 ⟨rfl,h'⟩
   ·exact h7 h'
  show Behind E ([]::wl (.mk k lv info lines spans kids::r));rw[e];have hs:=item_stop E hF.inn q;refine⟨?_,Or.inr ⟨s,q,?_,h6⟩⟩
  ·rw[itemL]
   show(if(itemL E (s::q)).1=[]∧kindOf E []=1 then _ else _)=_;rw[hs,if_pos ⟨rfl,kind_blank E⟩]
  ·rw[dropBlank,if_pos (kind_blank E),dropBlank,if_neg hF.nb]
theorem unquote_preQ (s:Tx):unquote (preQ s)=s:=by
 unfold preQ;split
 ·rename_i e;subst e;rfl
 ·rfl
theorem map_unquote (l:List Tx):(l.map preQ).map unquote=l:=by
 rw[List.map_map]
 conv=>rhs;rw[←List.map_id l]
 exact List.map_congr_left (fun s _=>unquote_preQ s)
theorem its_len (L:List Bk) (prev:Bool) (h:oks E true prev L):L.length≤(its L).length:=by
 induction L generalizing prev with
 |nil=>exact Nat.le_refl _
 |cons b r ih=>
  obtain⟨k,lv,info,lines,spans,kids⟩:=b;rw[oks]at h;obtain⟨s,q,e,_⟩:=first_of E true k lv info lines spans kids h.1;have:=ih _ h.2.2;rw[its_cons,e];simp only[List.cons_append,List.length_cons,List.length_append];omega
theorem allB_blank (f deep:Nat) (hd:deep≤16) (hf:2≤f):allB E f deep [[]]=some []:=by
 obtain⟨f,rfl⟩:∃f',f=f'+2:=⟨f-2,by omega⟩;rw[allB,if_neg (by omega),if_pos (kind_blank E),allB,if_neg (by omega)]
theorem map_trim (l:List Tx) (h:∀s∈l,trim s=s):l.map trim=l:=by
 conv=>rhs;rw[←List.map_id l]
 exact List.map_congr_left (fun s hs=>h s hs)
mutual
theorem all_back (prev:Bool) (L:List Bk) (h:oks E false prev L) (deep f:Nat) (hd:deep+dps L≤16) (hf:(wl L).length+18≤f+deep):allB E f deep (wl L)=some L:=by
 match L,h with
 |[],_=>
  obtain⟨f,rfl⟩:∃f',f=f'+1:=⟨f-1,by omega⟩;rw[wl,allB,if_neg (by omega)]
 |.mk k lv info lines spans kids::r,h=>
  obtain⟨s,q,e,hF⟩:=wl_first E h;have hokr:=h;rw[oks]at h;obtain⟨h1,h2,hr⟩:=h;rw[dps]at hd;obtain⟨s',q',e',_⟩:=first_of E false k lv info lines spans kids h1;have hwl:=wl_tl (.mk k lv info lines spans kids) r;have hlen:(wl (.mk k lv info lines spans kids::r)).length=(one (.mk k lv info lines spans kids)).length+(tl r).length:=by rw[hwl,List.length_append]
  have hone:1≤(one (.mk k lv info lines spans kids)).length:=by rw[e'];simp
  obtain⟨f,rfl⟩:∃f',f=f'+2:=⟨f-2,by omega⟩
  have hblock:blockB E (allB E (f+1)) deep s q=some (.mk k lv info lines spans kids,tl r):=by
   have hsq:s::q=one (.mk k lv info lines spans kids)++tl r:=by rw[←hwl,e]
   have h1':=h1;rw[ok1]at h1';rcases h1' with ⟨hl,_⟩|⟨_,h1'⟩
   ·cases hl
   rw[dp1]at hd;rw[one]at hsq hlen hone;rcases h1' with ⟨rfl,rfl,rfl,rfl,rfl,hp⟩|⟨rfl,rfl,rfl,rfl,hl,hg⟩|⟨rfl,rfl,rfl,rfl,rfl,rfl⟩|⟨rfl,rfl,rfl,rfl,ht,h96⟩|⟨rfl,rfl,rfl,rfl,rfl,hk⟩|⟨rfl,rfl,rfl,rfl,rfl,hne,hk⟩|⟨rfl,rfl,rfl,rfl,hlab,d,rfl,hdd⟩
   ·rw[if_pos rfl]at hsq
    have h8:kindOf E s=8:=by
     cases hsp:(Ln.split (wrs spans)).1 with
     |nil=>exact absurd hsp hp.ne
     |cons x l=>
      rw[hsp]at hsq;simp at hsq;rw[hsq.1];exact hp.k8 x (by rw[hsp];exact List.mem_cons_self ..)
    unfold blockB;rw[h8];simp only[show ¬((8:Nat)=2)by decide,show ¬((8:Nat)=3)by decide,show ¬((8:Nat)=4)by decide,show ¬((8:Nat)=5)by decide,show ¬((8:Nat)=6)by decide,show ¬((8:Nat)=7)by decide,if_false];rw[hsq,spanK_all E 8 (by decide) _ (tl_tail r) _ hp.k8];simp only;rw[map_trim _ hp.tr,hp.rd]
   ·rw[if_neg (by decide),if_pos rfl]at hsq
    simp at hsq;obtain⟨hs,hq⟩:=hsq;obtain⟨n,rfl⟩:∃n:Nat,lv=n:=⟨lv.toNat,by omega⟩;rw[Int.toNat_natCast]at hs;obtain⟨k2,r2⟩:=kind_head E n (by omega) (by omega) (if spans=[]then []else 32::wrs spans) (by split;exact Or.inl rfl;exact Or.inr ⟨_,rfl⟩);rw[←hs]at k2 r2;unfold blockB;rw[if_pos k2,r2,hs,List.drop_left' (List.length_replicate ..)];congr 1;congr 1
    ·by_cases hsn:spans=[]
     ·subst hsn
      rw[if_pos rfl];show Bk.mk 2 n [] [] (parse (trim [])) []=_;rfl
     ·rw[if_neg hsn,hg.tr hsn,hg.rd]
   ·rw[if_neg (by decide),if_neg (by decide),if_pos rfl]at hsq
    simp at hsq;obtain⟨hs,hq⟩:=hsq;unfold blockB;rw[hs,kind_rule];simp[hq]
   ·rw[if_neg (by decide),if_neg (by decide),if_neg (by decide),if_pos rfl]at hsq
    simp at hsq;obtain⟨hs,hq⟩:=hsq;obtain⟨g1,g2⟩:=ticksL_ge lines;obtain⟨k4,r4⟩:=kind_fence E (ticksL lines) g1 info h96;rw[←hs]at k4 r4;unfold blockB;rw[k4];simp only[show ¬((4:Nat)=2)by decide,show ¬((4:Nat)=3)by decide,if_false,if_true];rw[r4,hq,fenceL_ok (ticksL lines) (by omega) (tl r) lines g2,hs,List.drop_left' (List.length_replicate ..),ht]
   ·rw[if_neg (by decide),if_neg (by decide),if_neg (by decide),if_neg (by decide),if_pos rfl]at hsq hlen
    have hd':deep+1+dps kids≤16:=by simp at hd;omega
    have key:∀ls:List Tx,s::q=ls++tl r→(∀x∈ls,kindOf E x=5)→ls≠[]→allB E (f+1) (deep+1) (ls.map unquote)=some kids→blockB E (allB E (f+1)) deep s q=some (.mk 5 0 [] [] [] kids,tl r):=by
     intro ls he h5 hne ha
     have hs5:kindOf E s=5:=by
      cases ls with
      |nil=>exact absurd rfl hne
      |cons x l=>simp at he;rw[he.1];exact h5 x (List.mem_cons_self ..)
     unfold blockB;rw[hs5];simp only[show ¬((5:Nat)=2)by decide,show ¬((5:Nat)=3)by decide,show ¬((5:Nat)=4)by decide,if_false,if_true];rw[he,spanK_all E 5 (by decide) _ (tl_tail r) ls h5];simp only;rw[ha];rfl
    by_cases hw:wl kids=[]
    ·rw[if_pos hw]at hsq hlen
     have hkn:kids=[]:=by
      cases kids with
      |nil=>rfl
      |cons c t=>exact absurd hw (wl_ne E hk)
     refine key [[62]] hsq (fun x hx=>by simp at hx;rw[hx];exact kind_quote E []) (by simp) ?_;show allB E (f+1) (deep+1) [[]]=some kids;rw[hkn];exact allB_blank E _ _ (by omega) (by omega)
    ·rw[if_neg hw]at hsq hlen
     refine key _ hsq (fun x hx=>by obtain⟨y,_,rfl⟩:=List.mem_map.1 hx;exact kind_quote E y) (by simpa using hw) ?_;rw[map_unquote];exact all_back false kids hk (deep+1) (f+1) hd' (by rw[List.length_map]at hlen;omega)
   ·rw[if_neg (by decide),if_neg (by decide),if_neg (by decide),if_neg (by decide),if_neg (by decide),if_pos rfl]at hsq hlen
    have hs6:kindOf E s=6:=hF.it.2 (Or.inl rfl);have hil:=its_len E kids false hk;have hb:=behind_tl E (r:=r) (by simpa using hr)
    have hql:q.length+1=(its kids).length+(tl r).length:=by
     have:=congrArg List.length hsq
     simpa using this
    unfold blockB;rw[hs6];simp only[show ¬((6:Nat)=2)by decide,show ¬((6:Nat)=3)by decide,show ¬((6:Nat)=4)by decide,show ¬((6:Nat)=5)by decide,if_false,if_true];rw[hsq,listL_ok E (tl r) hb kids false (q.length+1) hne hk (by omega)];simp only;rw[items_back false kids hk (deep+2) (f+1) (by simp at hd;omega) (by omega)];rfl
   ·simp only[show ¬((8:Int)=1)by decide,show ¬((8:Int)=2)by decide,show ¬((8:Int)=3)by decide,show ¬((8:Int)=4)by decide,show ¬((8:Int)=5)by decide,show ¬((8:Int)=6)by decide,show ¬((8:Int)=7)by decide,if_false]at hsq
    simp at hsq;obtain⟨hs,hq⟩:=hsq;have k7:=kind_def E info d hlab hdd;have d7:=define_ok E info d hlab hdd;rw[←hs]at k7 d7;unfold blockB;rw[k7,d7];simp[hq]
  rw[e,allB,if_neg (by omega),if_neg hF.nb,hblock];simp only
  have hrest:allB E (f+1) deep (tl r)=some r:=by
   clear hblock hokr e hwl;cases r with
   |nil=>show allB E (f+1) deep []=some [];rw[allB,if_neg (by omega)]
   |cons c r'=>
    show allB E (f+1) deep ([]::wl (c::r'))=_;rw[allB,if_neg (by omega),if_pos (kind_blank E)];have hl2:(tl (c::r')).length=(wl (c::r')).length+1:=rfl;exact all_back (k==6) (c::r') hr deep f (by omega) (by omega)
  rw[hrest];rfl
termination_by SizeOf.sizeOf L
theorem items_back (prev:Bool) (L:List Bk) (h:oks E true prev L) (deep f:Nat) (hd:deep+dps L≤17) (hf:(its L).length+18≤f+deep):items (allB E f deep) (L.map il)=some L:=by
 match L,h with
 |[],_=>rfl
 |.mk k lv info lines spans kids::r,h=>
  rw[oks]at h;obtain⟨h1,h2,hr⟩:=h;have h1':=h1;rw[ok1]at h1;rcases h1 with ⟨_,rfl,rfl,rfl,rfl,rfl,hk⟩|⟨hf',_⟩
  ·rw[dps,dp1]at hd
   have hone:one (.mk 7 0 [] [] [] kids)=itemW (wl kids):=by rw[one];simp
   rw[its_cons,hone,List.length_append]at hf
   have hiw:(wl kids).length≤(itemW (wl kids)).length∧1≤(itemW (wl kids)).length:=by
    cases wl kids with
    |nil=>exact⟨by simp,by simp[itemW]⟩
    |cons s t=>simp[itemW]
   have hkid:allB E f deep (il (.mk 7 0 [] [] [] kids))=some kids:=by
    rw[il_eq];by_cases hw:wl kids=[]
    ·rw[if_pos hw]
     have hkn:kids=[]:=by
      cases kids with
      |nil=>rfl
      |cons c t=>exact absurd hw (wl_ne E hk)
     rw[hkn];exact allB_blank E f deep (by simp at hd;omega) (by omega)
    ·rw[if_neg hw]
     exact all_back false kids hk deep f (by simp at hd;omega) (by omega)
   rw[List.map_cons,items,hkid];simp only;rw[items_back _ r hr deep f (by omega) (by omega)];rfl
  ·cases hf'
termination_by SizeOf.sizeOf L
end
end Bk
namespace Bk
open Ln (mx mx_zero)
open Sp (Sp wrs wr1 destB fits fit1 esc marked unmarked padded ticksOf ticksOf_ok padded_ne padded_head padded_lf)
variable (E:Env)
def ln (t:Tx):Tx:=t.takeWhile (·!=10)
theorem ln_app (a b:Tx) (h:(10:UInt8)∉a):ln (a++b)=a++ln b:=by
 induction a with
 | nil=>rfl
 | cons c a ih =>
   have hc:(c != 10)=true:=by simp;exact fun e=>h (by rw [e];exact List.mem_cons_self ..)
   show List.takeWhile _ (c :: (a++b))=_;rw [List.takeWhile_cons_of_pos (p:=fun x:UInt8=>x != 10) hc];show c :: ln (a++b)=_;rw [ih (fun h'=>h (List.mem_cons_of_mem _ h'))];rfl
theorem ln_lf (a b:Tx) (h:(10:UInt8)∉a):ln (a++10::b)=a:=by
 rw[ln_app a _ h];show a++List.takeWhile _ (10::b)=a;rw[List.takeWhile_cons_of_neg (by simp),List.append_nil]
theorem ln_cons {c:UInt8} (h:c≠10) (t:Tx):ln (c::t)=c::ln t:=List.takeWhile_cons_of_pos (by simpa using h)
theorem esc_cons (c:UInt8) (s:Tx):esc (c::s)=(if marked c then [92,c]else [c])++esc s:=by
 rw[esc];split<;>rfl
theorem esc_app (a b:Tx):esc (a++b)=esc a++esc b:=by
 induction a with
 |nil=>rfl
 |cons c a ih=>rw[List.cons_append,esc_cons,esc_cons,ih,List.append_assoc]
theorem esc_10 (s:Tx) (h:(10:UInt8)∉s):(10:UInt8)∉esc s:=by
 induction s with
 |nil=>simp[esc]
 |cons c s ih=>
  have hc:c≠10:=fun e=>h (by rw[e];exact List.mem_cons_self ..)
  have:=ih (fun h'=>h (List.mem_cons_of_mem _ h'));rw[esc_cons];split<;>simp[this,Ne.symm hc]
theorem esc_93:∀(s acc d:Tx),esc s=acc++93::d→(92:UInt8)∈acc
 |[],acc,d,h=>by simp[esc]at h
 |c::s,acc,d,h=>by
  rw[esc_cons]at h;cases hc:marked c with
  |true=>
   rw[hc,if_pos rfl]at h;cases acc with
   |nil=>simp at h
   |cons a acc=>simp at h;rw[←h.1];exact List.mem_cons_self ..
  |false=>
   rw[hc,if_neg (by decide)]at h;have h93:=(unmarked c hc).2.2.2.1;cases acc with
   |nil=>simp at h;exact absurd h.1 h93
   |cons a acc=>
    simp at h;exact List.mem_cons_of_mem _ (esc_93 s acc d h.2)
theorem split_10 {s:Tx} (h:(10:UInt8)∈s):∃a b,s=a++10::b∧(10:UInt8)∉a:=by
 induction s with
 |nil=>cases h
 |cons c s ih=>
  by_cases e:c=10
  ·subst e;exact⟨[],s,rfl,by simp⟩
  ·obtain⟨a,b,rfl,ha⟩:=ih ((List.mem_cons.1 h).resolve_left (fun h'=>e h'.symm))
   exact⟨c::a,b,rfl,by simp[ha,Ne.symm e]⟩
theorem esc_lf:∀(s rest pre u:Tx),esc s++rest=pre++10::u→(∃s1 s2,s=s1++10::s2∧u=esc s2++rest)∨(∃p,rest=p++10::u)
 |[],rest,pre,u,h=>Or.inr ⟨pre,h⟩
 |c::s,rest,pre,u,h=>by
  rw[esc_cons]at h
  have go:∀p,esc s++rest=p++10::u→(∃s1 s2,c::s=s1++10::s2∧u=esc s2++rest)∨(∃p,rest=p++10::u):=fun p hp=>by
   rcases esc_lf s rest p u hp with ⟨s1,s2,e,hu⟩|h'
   ·exact Or.inl ⟨c::s1,s2,by rw[e];rfl,hu⟩
   ·exact Or.inr h'
  cases hc:marked c with
  |true=>
   rw[hc,if_pos rfl]at h;have h10:c≠10:=fun e=>by subst e;cases hc
   cases pre with
   |nil=>simp at h
   |cons a pre=>
    cases pre with
    |nil=>simp at h;exact absurd h.2.1 h10
    |cons b pre=>simp at h;exact go pre h.2.2
  |false=>
   rw[hc,if_neg (by decide)]at h;cases pre with
   |nil=>
    simp at h;exact Or.inl ⟨[],s,by rw[h.1];rfl,h.2.symm⟩
   |cons a pre=>simp at h;exact go pre h.2
inductive Cx:Tx→Prop
 |nil:Cx []
 |emph (e l:Bool) (R:List Sp) (K:Tx):Cx K→fits e l 3 R→Cx (42::(wrs R++K))
 |link (e l:Bool) (s:Tx) (R:List Sp) (K:Tx):Cx K→(∀c∈s,destB c=true)→fits e l 4 R→Cx (93::40::(s++41::(wrs R++K)))
def Start (u:Tx):Prop:=∃(s:Tx) (R:List Sp) (K:Tx) (e l:Bool),u=esc s++(wrs R++K)∧Cx K∧fits e l 1 R
theorem code_10 (s:Tx) (h:(10:UInt8)∉s) (n:Nat):(10:UInt8)∉List.replicate n (96:UInt8)++(padded s++List.replicate n 96):=by
 have:=padded_lf s h;simp[this]
theorem dest_10 {s:Tx} (h:∀c∈s,destB c=true):(10:UInt8)∉s:=fun h'=>absurd (h 10 h') (by decide)
theorem lf_past {a b pre u:Tx} (ha:(10:UInt8)∉a) (h:a++b=pre++10::u):∃p,b=p++10::u:=by
 rcases List.append_eq_append_iff.1 h with ⟨a',e1,e2⟩|⟨c',e1,e2⟩
 ·exact⟨a',e2⟩
 ·cases c' with
  |nil=>exact⟨[],by simpa using e2.symm⟩
  |cons x c'=>
   simp at e2;exact absurd (by rw[e1,←e2.1];simp) ha
theorem lf_start (e l:Bool) (prev:Int) (L:List Sp) (h:fits e l prev L) (K:Tx) (hK:Cx K) (hP:∀pre u,K=pre++10::u→Start u) (pre u:Tx) (hu:wrs L++K=pre++10::u):Start u:=by
 match L,h with
 |[],_=>rw[wrs,List.nil_append]at hu;exact hP pre u hu
 |.mk k s kids::R,h=>
  rw[fits]at h;obtain⟨h1,h2,h3⟩:=h;rw[fit1]at h1;rw[wrs,wr1,List.append_assoc]at hu;rcases h1 with ⟨rfl,rfl,hs⟩|⟨rfl,rfl,hs,h10⟩|⟨rfl,rfl,hk,rfl,hkids⟩|⟨rfl,hs,hd,hk,rfl,hkids⟩
  ·rw[if_pos rfl]at hu
   rcases esc_lf s _ pre u hu with ⟨s1,s2,_,hu'⟩|⟨p,hp⟩
   ·exact⟨s2,R,K,e,l,hu',hK,h3⟩
   ·exact lf_start e l 1 R h3 K hK hP p u hp
  ·rw[if_neg (by decide),if_pos rfl]at hu
   obtain⟨p,hp⟩:=lf_past (code_10 s h10 _) hu;exact lf_start e l 2 R h3 K hK hP p u hp
  ·rw[if_neg (by decide),if_neg (by decide),if_pos rfl]at hu
   have e1:(42::(wrs kids++[42]):Tx)++(wrs R++K)=[42]++(wrs kids++(42::(wrs R++K))):=by simp
   rw[e1]at hu;obtain⟨p,hp⟩:=lf_past (by simp) hu;refine lf_start true l 0 kids hkids (42::(wrs R++K)) (Cx.emph false l R K hK h3) (fun pre' u' hu'=>?_) p u hp;obtain⟨p',hp'⟩:=lf_past (a:=[42]) (b:=wrs R++K) (by simp) hu';exact lf_start false l 3 R h3 K hK hP p' u' hp'
  ·rw[if_neg (by decide),if_neg (by decide),if_neg (by decide),if_pos rfl]at hu
   have e1:(91::(wrs kids++(93::40::(s++[41]))):Tx)++(wrs R++K)=[91]++(wrs kids++(93::40::(s++41::(wrs R++K)))):=by simp
   rw[e1]at hu;obtain⟨p,hp⟩:=lf_past (by simp) hu;refine lf_start e true 0 kids hkids _ (Cx.link e false s R K hK hd h3) (fun pre' u' hu'=>?_) p u hp;have e2:(93::40::(s++41::(wrs R++K)):Tx)=(93::40::(s++[41]))++(wrs R++K):=by simp
   rw[e2]at hu';obtain⟨p',hp'⟩:=lf_past (by have:=dest_10 hd;simp[this]) hu';exact lf_start e false 4 R h3 K hK hP p' u' hp'
termination_by SizeOf.sizeOf L
theorem df_some:∀(t acc a d:Tx),df E acc t=some (a,d)→∃p,a=acc++p∧t=p++93::58::32::d∧label E a=true∧isDest d=true
 |[],acc,a,d,h=>by cases h
 |c::t,acc,a,d,h=>by
  by_cases hc:c=93
  ·subst hc
   by_cases ht:∃d',t=58::32::d'
   ·obtain⟨d',rfl⟩:=ht
    rw[df]at h;split at h
    ·rename_i hld
     simp only[Option.some.injEq,Prod.mk.injEq]at h;obtain⟨rfl,rfl⟩:=h;rw[Bool.and_eq_true]at hld;exact⟨[],by simp,rfl,hld.1,hld.2⟩
    ·obtain⟨p,h1,h2,h3,h4⟩:=df_some _ _ a d h
     exact⟨93::p,by rw[h1];simp,by rw[h2];rfl,h3,h4⟩
   ·have hd:df E acc (93::t)=df E (acc++[93]) t:=by
     rw[df];intro d' _ he;exact ht ⟨d',he⟩
    rw[hd]at h;obtain⟨p,h1,h2,h3,h4⟩:=df_some t _ a d h;exact⟨93::p,by rw[h1];simp,by rw[h2];rfl,h3,h4⟩
  ·rw[df_on E acc c t hc]at h
   obtain⟨p,h1,h2,h3,h4⟩:=df_some t _ a d h;exact⟨c::p,by rw[h1];simp,by rw[h2];rfl,h3,h4⟩
theorem past {C Z acc d:Tx} {x:UInt8} (h:C++Z=acc++x::d):(∃a',acc=C++a'∧Z=a'++x::d)∨(∃c',C=acc++x::c'∧d=c'++Z):=by
 rcases List.append_eq_append_iff.1 h with ⟨a',e1,e2⟩|⟨c',e1,e2⟩
 ·exact Or.inl ⟨a',e1,e2⟩
 ·cases c' with
  |nil=>exact Or.inl ⟨[],by simpa using e1.symm,by simpa using e2.symm⟩
  |cons y c'=>
   simp at e2;obtain⟨rfl,e3⟩:=e2;exact Or.inr ⟨c',e1,e3⟩
theorem first93 (e l:Bool) (prev:Int) (L:List Sp) (h:fits e l prev L) (K acc d:Tx) (hl:ln (wrs L++K)=acc++93::d) (h93:(93:UInt8)∉acc) (h92:(92:UInt8)∉acc):
  (96:UInt8)∈d∨d.head? = some 40∨∃acc',acc=wrs L++acc'∧ln K=acc'++93::d:=by
 match L,h with
 |[],_=>exact Or.inr (Or.inr ⟨acc,by rw[wrs];rfl,by rw[wrs,List.nil_append]at hl;exact hl⟩)
 |.mk k s kids::R,h=>
  rw[fits]at h;obtain⟨h1,h2,h3⟩:=h;rw[fit1]at h1;rw[wrs,wr1,List.append_assoc]at hl;rw[wrs,wr1];rcases h1 with ⟨rfl,rfl,hs⟩|⟨rfl,rfl,hs,h10⟩|⟨rfl,rfl,hk,rfl,hkids⟩|⟨rfl,hs,hd,hk,rfl,hkids⟩
  ·rw[if_pos rfl]at hl ⊢
   by_cases h10:(10:UInt8)∈s
   ·obtain⟨a,b,rfl,ha⟩:=split_10 h10
    rw[esc_app,show esc (10::b)=10::esc b from by rw[esc_cons];rfl,List.append_assoc,List.cons_append,ln_lf _ _ (esc_10 a ha)]at hl;exact absurd (esc_93 a acc d hl) h92
   ·rw[ln_app _ _ (esc_10 s h10)]at hl
    rcases past hl with ⟨a',rfl,e2⟩|⟨c',e1,e2⟩
    ·rcases first93 e l 1 R h3 K a' d e2 (fun h'=>h93 (List.mem_append_right _ h')) (fun h'=>h92 (List.mem_append_right _ h'))with h |h |⟨b,rfl,e4⟩
     ·exact Or.inl h
     ·exact Or.inr (Or.inl h)
     ·exact Or.inr (Or.inr ⟨b,by rw[List.append_assoc],e4⟩)
    ·exact absurd (esc_93 s acc c' e1) h92
  ·rw[if_neg (by decide),if_pos rfl]at hl ⊢
   obtain⟨_,hn⟩:=ticksOf_ok s;rw[ln_app _ _ (code_10 s h10 _)]at hl;generalize ticksOf s=n at *;rcases past hl with ⟨a',rfl,e2⟩|⟨c',e1,rfl⟩
   ·rcases first93 e l 2 R h3 K a' d e2 (fun h'=>h93 (List.mem_append_right _ h')) (fun h'=>h92 (List.mem_append_right _ h'))with h |h |⟨b,rfl,e4⟩
    ·exact Or.inl h
    ·exact Or.inr (Or.inl h)
    ·exact Or.inr (Or.inr ⟨b,by simp[List.append_assoc],e4⟩)
   ·left
    have hlast:(List.replicate n (96:UInt8)++(padded s++List.replicate n 96)).getLast? = some 96:=by
     obtain⟨m,rfl⟩:∃m,n=m+1:=⟨n-1,by omega⟩;rw[List.replicate_succ' (n:=m) (a:=(96:UInt8)),←List.append_assoc,←List.append_assoc,List.getLast?_concat]
    rw[e1,List.getLast?_append]at hlast;cases c' with
    |nil=>simp at hlast
    |cons y c'=>
     rw[List.getLast?_cons_cons]at hlast;cases hc:(y::c':Tx).getLast? with
     |none=>simp at hc
     |some v=>
      rw[hc]at hlast;simp at hlast;subst hlast;exact List.mem_append_left _ (List.mem_of_getLast? hc)
  ·rw[if_neg (by decide),if_neg (by decide),if_pos rfl]at hl ⊢
   have e1:(42::(wrs kids++[42]):Tx)++(wrs R++K)=42::(wrs kids++(42::(wrs R++K))):=by simp
   rw[e1,ln_cons (by decide)]at hl;cases acc with
   |nil=>simp at hl
   |cons a acc=>
    simp only[List.cons_append,List.cons.injEq]at hl;obtain⟨rfl,hl⟩:=hl;rcases first93 true l 0 kids hkids _ acc d hl (fun h'=>h93 (List.mem_cons_of_mem _ h')) (fun h'=>h92 (List.mem_cons_of_mem _ h'))with h |h |⟨b,rfl,e4⟩
    ·exact Or.inl h
    ·exact Or.inr (Or.inl h)
    ·rw[ln_cons (by decide)]at e4
     cases b with
     |nil=>simp at e4
     |cons b0 b=>
      simp only[List.cons_append,List.cons.injEq]at e4;obtain⟨rfl,e4⟩:=e4;rcases first93 false l 3 R h3 K b d e4 (fun h'=>h93 (by simp[h'])) (fun h'=>h92 (by simp[h']))with h |h |⟨b',rfl,e5⟩
      ·exact Or.inl h
      ·exact Or.inr (Or.inl h)
      ·exact Or.inr (Or.inr ⟨b',by simp,e5⟩)
  ·rw[if_neg (by decide),if_neg (by decide),if_neg (by decide),if_pos rfl]at hl ⊢
   have e1:(91::(wrs kids++(93::40::(s++[41]))):Tx)++(wrs R++K)=91::(wrs kids++(93::40::(s++41::(wrs R++K)))):=by simp
   rw[e1,ln_cons (by decide)]at hl;cases acc with
   |nil=>simp at hl
   |cons a acc=>
    simp only[List.cons_append,List.cons.injEq]at hl;obtain⟨rfl,hl⟩:=hl;rcases first93 e true 0 kids hkids _ acc d hl (fun h'=>h93 (List.mem_cons_of_mem _ h')) (fun h'=>h92 (List.mem_cons_of_mem _ h'))with h |h |⟨b,rfl,e4⟩
    ·exact Or.inl h
    ·exact Or.inr (Or.inl h)
    ·rw[ln_cons (by decide),ln_cons (by decide)]at e4
     cases b with
     |nil=>
      simp only[List.nil_append,List.cons.injEq,true_and]at e4;exact Or.inr (Or.inl (by rw[←e4];rfl))
     |cons b0 b=>
      simp only[List.cons_append,List.cons.injEq]at e4;exact absurd (by rw[←e4.1];simp) h93
termination_by SizeOf.sizeOf L
theorem kind_other (c:UInt8) (t:Tx) (hg:Ln.gapB c=false) (h1:c≠35) (h2:c≠45) (h3:c≠96) (h4:c≠62) (h5:c≠91):kindOf E (c::t)=8:=by
 have hd:define E (c::t)=none:=by
  unfold define;split
  ·rename_i he;simp at he;exact absurd he.1 h5
  ·rfl
 unfold kindOf;rw[hd,if_neg (trim_ne hg t),run_head h1,run_head h2,run_head h3,if_neg (by omega),if_neg (by omega),if_neg (by omega),if_neg (by simp[h4]),if_neg (by simp[h2]),if_neg (by simp)]
theorem kind_code (n:Nat) (hn:0<n) (p r:Tx) (hp:p≠[]) (hh:p.head?≠some 96):kindOf E (List.replicate n 96++(p++(List.replicate n 96++r)))=8:=by
 have hhead:(p++(List.replicate n 96++r)).head?≠some 96:=by
  cases p with
  |nil=>exact absurd rfl hp
  |cons c p=>exact hh
 have hr:=run_reps 96 _ hhead n;have hdr:(List.replicate n (96:UInt8)++(p++(List.replicate n 96++r))).drop n=p++(List.replicate n 96++r):=List.drop_left' (List.length_replicate ..)
 have hmx:mx 96 (p++(List.replicate n 96++r))≠0:=fun h0=>mx_zero 96 _ h0 (by
  obtain⟨m,rfl⟩:∃m,n=m+1:=⟨n-1,by omega⟩;simp[List.replicate_succ])
 obtain⟨m,rfl⟩:∃m,n=m+1:=⟨n-1,by omega⟩;have e:List.replicate (m+1) (96:UInt8)++(p++(List.replicate (m+1) 96++r))=96::(List.replicate m 96++(p++(List.replicate (m+1) 96++r))):=by rw[List.replicate_succ,List.cons_append]
 rw[e]at hr hdr ⊢;have hd:define E (96::(List.replicate m 96++(p++(List.replicate (m+1) 96++r))))=none:=rfl;unfold kindOf;rw[hr,hdr,hd,if_neg (trim_ne (by decide) _),run_head (by decide),run_head (by decide),if_neg (by omega),if_neg (by omega),if_neg (fun h=>hmx h.2),if_neg (by simp),if_neg (by simp),if_neg (by simp)]
theorem kind_link (t:Tx) (h:define E (91::t)=none):kindOf E (91::t)=8:=by
 unfold kindOf;rw[h,if_neg (trim_ne (by decide) _),run_head (by decide),run_head (by decide),run_head (by decide),if_neg (by omega),if_neg (by omega),if_neg (by omega),if_neg (by simp),if_neg (by simp),if_neg (by simp)]
theorem label_92 (s:Tx) (h:label E s=true):(92:UInt8)∉s:=by
 unfold label at h;simp only[Bool.and_eq_true]at h
 simpa using h.2
theorem kind_start (u:Tx) (hS:Start u) (c:UInt8) (t:Tx) (hl:ln u=c::t) (hg:Ln.gapB c=false):kindOf E (ln u)=8:=by
 obtain⟨s,R,K,e,l,rfl,hK,hR⟩:=hS;cases s with
 |cons c0 s=>
  have hc:∃x y,esc (c0::s)++(wrs R++K)=x::y∧(x=92∨(x=c0∧marked c0=false)):=by
   rw[esc_cons];cases hm:marked c0 with
   |true=>exact⟨92,c0::(esc s++(wrs R++K)),by simp,Or.inl rfl⟩
   |false=>exact⟨c0,esc s++(wrs R++K),by simp,Or.inr ⟨rfl,rfl⟩⟩
  obtain⟨x,y,hxy,hx⟩:=hc;rw[hxy]at hl ⊢
  have hx10:x≠10:=by
   intro e10;rw[e10]at hl;unfold ln at hl;rw[List.takeWhile_cons_of_neg (by simp)]at hl;cases hl
  rw[ln_cons hx10]at hl ⊢;simp only[List.cons.injEq]at hl;obtain⟨rfl,_⟩:=hl;rcases hx with rfl |⟨rfl,hm⟩
  ·exact kind_other E _ _ (by decide) (by decide) (by decide) (by decide) (by decide) (by decide)
  ·have hmm:=hm
   simp only[marked,List.contains_eq_mem,List.mem_cons,List.mem_nil_iff,or_false,decide_eq_false_iff_not,not_or]at hmm;exact kind_other E _ _ hg hmm.2.2.2.2.1 hmm.2.2.2.2.2.2.1 hmm.2.2.2.2.2.2.2 hmm.2.2.2.2.2.1 hmm.2.2.1
 |nil=>
  rw[show esc ([]:Tx)=[]from rfl,List.nil_append]at hl ⊢
  match R,hR with
  |[],_=>
   rw[wrs,List.nil_append]at hl ⊢;cases hK with
   |nil=>cases hl
   |emph e l R K _ _=>
    rw[ln_cons (by decide)];exact kind_other E _ _ (by decide) (by decide) (by decide) (by decide) (by decide) (by decide)
   |link e l s R K _ _ _=>
    rw[ln_cons (by decide)];exact kind_other E _ _ (by decide) (by decide) (by decide) (by decide) (by decide) (by decide)
  |.mk k s kids::R,hR=>
   rw[fits]at hR;obtain⟨h1,h2,h3⟩:=hR;rw[fit1]at h1;rw[wrs,wr1,List.append_assoc]at hl ⊢;rcases h1 with ⟨rfl,rfl,hs⟩|⟨rfl,rfl,hs,h10⟩|⟨rfl,rfl,hk,rfl,hkids⟩|⟨rfl,hs,hd,hk,rfl,hkids⟩
   ·exact absurd ⟨rfl,by decide⟩ h2
   ·rw[if_neg (by decide),if_pos rfl,ln_app _ _ (code_10 s h10 _),List.append_assoc,List.append_assoc]
    exact kind_code E _ (ticksOf_ok s).2 _ _ (padded_ne s hs) (padded_head s)
   ·rw[if_neg (by decide),if_neg (by decide),if_pos rfl,List.cons_append,ln_cons (by decide)]
    exact kind_other E _ _ (by decide) (by decide) (by decide) (by decide) (by decide) (by decide)
   ·have e1:(91::(wrs kids++(93::40::(s++[41]))):Tx)++(wrs R++K)=91::(wrs kids++(93::40::(s++41::(wrs R++K)))):=by simp
    rw[if_neg (by decide),if_neg (by decide),if_neg (by decide),if_pos rfl,e1,ln_cons (by decide)];apply kind_link;show df E [] (ln (wrs kids++(93::40::(s++41::(wrs R++K)))))=none;cases hdf:df E [] (ln (wrs kids++(93::40::(s++41::(wrs R++K)))))with
    |none=>rfl
    |some p=>
     exfalso;obtain⟨a,d⟩:=p;obtain⟨p,ha,hp,hlab,hdest⟩:=df_some E _ [] a d hdf;rw[List.nil_append]at ha;subst ha
     have hall:∀x∈d,destB x=true:=by
      unfold isDest at hdest;rw[Bool.and_eq_true,List.all_eq_true]at hdest;exact hdest.2
     rcases first93 e true 0 kids hkids _ _ (58::32::d) hp (label_no E _ hlab) (label_92 E _ hlab)with h |h |⟨b,rfl,e4⟩
     ·simp at h
      exact absurd (hall 96 h) (by decide)
     ·simp at h
     ·rw[ln_cons (by decide),ln_cons (by decide)]at e4
      cases b with
      |nil=>simp at e4
      |cons b0 b=>
       simp only[List.cons_append,List.cons.injEq]at e4;exact label_no E _ hlab (by rw[←e4.1];simp)
end Bk
end Go.Proofs.YtpakjdgddomdjabGreatDoor
