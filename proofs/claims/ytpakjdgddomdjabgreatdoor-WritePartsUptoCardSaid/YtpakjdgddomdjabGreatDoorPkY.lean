import Derived.Test.YtpakjdgddomdjabGreatDoorPkA
set_option linter.unusedVariables false
namespace Go.Proofs.YtpakjdgddomdjabGreatDoor
namespace Sp
def snocT:List Sp→List UInt8→List Sp
 |[],s=>[.mk 1 s []]
 |[x],s=>if x.kind=1 then [.mk x.kind (x.s++s) x.kids]else [x,.mk 1 s []]
 |x::y::r,s=>x::snocT (y::r) s
theorem snocT_app (s:List UInt8) (x:Sp):∀L:List Sp,snocT (L++[x]) s=L++(if x.kind=1 then [.mk x.kind (x.s++s) x.kids]else [x,.mk 1 s []])
 |[]=>by rw[List.nil_append,List.nil_append,snocT]
 |[y]=>by rw[show [y]++[x]=y::x::[]from rfl,snocT,snocT];rfl
 |y::z::r=>by
  have:=snocT_app s x (z::r);rw[List.cons_append]at this;rw[List.cons_append,List.cons_append,snocT,this];rfl
theorem snocT_other {L:List Sp} (s:List UInt8) (h:∀x,L.getLast? = some x→x.kind≠1):snocT L s=L++[.mk 1 s []]:=by
 rcases List.eq_nil_or_concat L with rfl |⟨M,x,rfl⟩
 ·rfl
 ·rw[List.concat_eq_append]at h ⊢
  rw[snocT_app,if_neg (h x (by simp))];simp
theorem kd1 (s:List UInt8) (l:List Sp):(Sp.mk 1 s l).kind=1:=rfl
theorem snocT_snocT (a b:List UInt8) (L:List Sp):snocT (snocT L a) b=snocT L (a++b):=by
 rcases List.eq_nil_or_concat L with rfl |⟨M,x,rfl⟩
 ·rfl
 ·rw[List.concat_eq_append,snocT_app,snocT_app]
  by_cases h:x.kind=1
  ·rw[if_pos h,if_pos h,snocT_app,if_pos (show(Sp.mk x.kind (x.s++a) x.kids).kind=1 from h)]
   simp[Sp.kind,Sp.s,Sp.kids]
  ·rw[if_neg h,if_neg h,show M++[x,.mk 1 a []]=(M++[x])++[.mk 1 a []]by simp,snocT_app,if_pos (kd1 _ _)]
   simp[Sp.kind,Sp.s,Sp.kids]
def glue (L:List Sp):List Sp→List Sp
 |[]=>L
 |x::r=>(if x.kind=1 then snocT L x.s else L++[x])++r
def T0 (R:List Sp):Prop:=∀y r,R=y::r→y.kind=1→y.kids=[]
theorem glue_text (L:List Sp) (a:List UInt8):∀R:List Sp,glue L (consT a R)=glue (snocT L a) R
 |[]=>by rw[consT,glue,glue,if_pos (kd1 _ _)];simp[Sp.s]
 |.mk k t kids::r=>by
  by_cases h:k=1
  ·rw[show consT a (.mk k t kids::r)= .mk 1 (a++t) kids::r from if_pos h,glue,glue,if_pos (kd1 _ _),if_pos (show(Sp.mk k t kids).kind=1 from h),snocT_snocT]
   rfl
  ·rw[show consT a (.mk k t kids::r)= .mk 1 a []::.mk k t kids::r from if_neg h,glue,glue,if_pos (kd1 _ _),if_neg (show ¬(Sp.mk k t kids).kind=1 from h)]
   simp[Sp.s]
theorem glue_span (L:List Sp) (x:Sp) (hx:x.kind≠1):∀R:List Sp,T0 R→glue L (x::R)=glue (L++[x]) R
 |[],_=>by rw[glue,glue,if_neg hx,List.append_nil]
 |y::r,h=>by
  rw[glue,glue,if_neg hx];by_cases hy:y.kind=1
  ·have hk:=h y r rfl hy
   obtain⟨k,s,kids⟩:=y;simp only[Sp.kind,Sp.kids]at hy hk;subst hy;subst hk;rw[if_pos (kd1 _ _),snocT_app,if_neg hx];simp[Sp.s]
  ·rw[if_neg hy]
   simp
theorem glue_nil (R:List Sp) (h:T0 R):glue [] R=R:=by
 match R,h with
 |[],_=>rfl
 |y::r,h=>
  rw[glue];by_cases hy:y.kind=1
  ·have hk:=h y r rfl hy
   obtain⟨k,s,kids⟩:=y;simp only[Sp.kind,Sp.kids]at hy hk;subst hy;subst hk;rw[if_pos (kd1 _ _)];rfl
  ·rw[if_neg hy];rfl
def Bnd (n:Nat) (L:List Sp):Prop:=L.length≤n∧∀x∈L,x.s.length≤n
end Sp
namespace Sp
open Tk (cls)
inductive Stp where
 |stop
 |text (a t:List UInt8)
 |span (x:Sp) (t:List UInt8)
def stepOf (rec:Bool→Bool→List UInt8→List Sp × List UInt8) (e l:Bool) (c:UInt8) (r:List UInt8):Stp:=
 if(c=42∧e=true)∨(c=93∧l=true)then .stop
 else if c=92∧(r.head?.map cls)=some 4 then .text (r.take 1) r.tail
 else if c=96 then
  match code (ticks (c::r)) (c::r).length [] ((c::r).drop (ticks (c::r)))with
  |some (x,t')=>.span (.mk 2 (strip x) []) t'
  |none=>.text (List.replicate (ticks (c::r)) 96) ((c::r).drop (ticks (c::r)))
 else if c=42 then
  match rec true l r with
  |(k::kids,42::t')=>.span (.mk 3 [] (k::kids)) t'
  |_=>.text [c] r
 else if c=91∧l=false then
  match rec e true r with
  |(k::kids,93::t')=>match dest t' with
   |some (s,t'')=>.span (.mk 4 s (k::kids)) t''
   |none=>.text [c] r
  |_=>.text [c] r
 else .text [c] r
def finOf (rec:Bool→Bool→List UInt8→List Sp × List UInt8) (e l:Bool) (t:List UInt8):Stp→List Sp × List UInt8
 |.stop=>([],t)
 |.text a t'=>(consT a (rec e l t').1,(rec e l t').2)
 |.span x t'=>(x::(rec e l t').1,(rec e l t').2)
theorem read_step (f:Nat) (e l:Bool) (c:UInt8) (r:List UInt8):read (f+1) e l (c::r)=finOf (read f) e l (c::r) (stepOf (read f) e l c r):=by
 rw[read];unfold stepOf;split
 ·rfl
 ·split
  ·rfl
  ·split
   ·rename_i hc
    cases hcode:code (ticks (c::r)) (c::r).length [] ((c::r).drop (ticks (c::r)))with
    |none=>rfl
    |some q=>rfl
   ·split
    ·rename_i hc
     split
     ·rename_i k kids t' hr
      simp only[hr];rfl
     ·rename_i hn
      split
      ·rename_i k kids t' hr
       exact absurd hr (hn _ _ _)
      ·rfl
    ·split
     ·split
      ·rename_i k kids t' hr
       simp only[hr];cases hd:dest t' with
       |none=>rfl
       |some q=>rfl
      ·rename_i hn
       split
       ·rename_i k kids t' hr
        exact absurd hr (hn _ _ _)
       ·rfl
     ·rfl
theorem code_len (n:Nat) (hn:0<n) {f:Nat} {t x t':List UInt8} (h:code n f [] t=some (x,t')):x.length+n+t'.length=t.length:=by
 obtain⟨h1,h2,y,h3,h4,h5⟩:=code_some n hn _ _ _ _ _ h;rw[List.nil_append]at h3;subst h3;rw[h4];simp;omega
theorem dropLast_len {α:Type} (l:List α):l.dropLast.length≤l.length:=by rw[List.length_dropLast];omega
theorem strip_len (x:List UInt8):(strip x).length≤x.length:=by
 unfold strip;split
 ·have:=dropLast_len x.tail
  rw[List.length_tail]at this;omega
 ·exact Nat.le_refl _
theorem stepOf_len (rec:Bool→Bool→List UInt8→List Sp × List UInt8) (hrec:∀e l t,(rec e l t).2.length≤t.length) (e l:Bool) (c:UInt8) (r:List UInt8):
  (∀a t',stepOf rec e l c r=.text a t'→t'.length≤r.length∧a.length+t'.length≤(c::r).length)∧(∀x t',stepOf rec e l c r=.span x t'→t'.length≤r.length∧x.s.length+t'.length≤(c::r).length∧x.kind≠1):=by
 unfold stepOf;split
 ·exact⟨fun a t' h=>(by cases h),fun x t' h=>by cases h⟩
 ·split
  ·refine⟨fun a t' h=>?_,fun x t' h=>by cases h⟩
   simp only[Stp.text.injEq]at h;obtain⟨rfl,rfl⟩:=h;rw[List.length_tail,List.length_take,List.length_cons];omega
  ·split
   ·rename_i hc
    subst hc;have hp:=ticks_pos (r:=r) rfl;have hle:=ticks_le (96::r);cases hcode:code (ticks (96::r)) (96::r).length [] ((96::r).drop (ticks (96::r)))with
    |none=>
     refine⟨fun a t' h=>?_,fun x t' h=>by cases h⟩;simp only[Stp.text.injEq]at h;obtain⟨rfl,rfl⟩:=h;rw[List.length_drop,List.length_replicate];rw[List.length_cons]at hle ⊢;omega
    |some q=>
     obtain⟨x,t1⟩:=q;refine⟨fun a t' h=>(by cases h),fun y t' h=>?_⟩;simp only[Stp.span.injEq]at h;obtain⟨rfl,rfl⟩:=h;have h1:=code_len _ hp hcode;have h2:=strip_len x;rw[List.length_drop,List.length_cons]at h1;rw[List.length_cons]at hle ⊢;refine⟨by omega,?_,by show(2:Int)≠1;decide⟩;show(strip x).length+_≤_;omega
   ·have hplain:(∀a t',(Stp.text [c] r)= .text a t'→t'.length≤r.length∧a.length+t'.length≤(c::r).length)∧(∀x t',(Stp.text [c] r)= .span x t'→t'.length≤r.length∧x.s.length+t'.length≤(c::r).length∧x.kind≠1):=by
     refine⟨fun a t' h=>?_,fun x t' h=>by cases h⟩;simp only[Stp.text.injEq]at h;obtain⟨rfl,rfl⟩:=h;simp;omega
    split
    ·split
     ·rename_i k kids t1 hr
      have h1:=hrec true l r;rw[hr]at h1;refine⟨fun a t' h=>(by cases h),fun y t' h=>?_⟩;simp only[Stp.span.injEq]at h;obtain⟨rfl,rfl⟩:=h;simp at h1;refine⟨by omega,?_,by show(3:Int)≠1;decide⟩;show([]:List UInt8).length+_≤_;simp;omega
     ·exact hplain
    ·split
     ·split
      ·rename_i k kids t1 hr
       have h1:=hrec e true r;rw[hr]at h1;cases hd:dest t1 with
       |none=>exact hplain
       |some q=>
        obtain⟨d,t2⟩:=q;obtain⟨d1,d2,d3⟩:=dest_some hd;refine⟨fun a t' h=>(by cases h),fun y t' h=>?_⟩;simp only[Stp.span.injEq]at h;obtain⟨rfl,rfl⟩:=h;rw[d3]at h1;simp at h1;refine⟨by omega,?_,by show(4:Int)≠1;decide⟩;show d.length+_≤_;rw[List.length_cons];omega
      ·exact hplain
     ·exact hplain
theorem read_len:∀(f:Nat) (e l:Bool) (t:List UInt8),(read f e l t).2.length≤t.length
 |0,e,l,t=>Nat.le_refl _
 |f+1,e,l,[]=>Nat.le_refl _
 |f+1,e,l,c::r=>by
  have hl:=stepOf_len (read f) (read_len f) e l c r;rw[read_step];cases hs:stepOf (read f) e l c r with
  |stop=>exact Nat.le_refl _
  |text a t'=>
   have h1:=hl.1 a t' hs;have h2:=read_len f e l t';show(read f e l t').2.length≤_;rw[List.length_cons];omega
  |span x t'=>
   have h1:=hl.2 x t' hs;have h2:=read_len f e l t';show(read f e l t').2.length≤_;rw[List.length_cons];omega
theorem stepOf_same (rec rec':Bool→Bool→List UInt8→List Sp × List UInt8) (e l:Bool) (c:UInt8) (r:List UInt8) (h:∀e l,rec e l r=rec' e l r):stepOf rec e l c r=stepOf rec' e l c r:=by
 unfold stepOf;rw[h true l,h e true]
theorem read_fuel:∀(m f f':Nat) (e l:Bool) (t:List UInt8),t.length≤m→t.length≤f→t.length≤f'→read f e l t=read f' e l t
 |m,0,0,e,l,t,_,_,_=>rfl
 |m,0,f'+1,e,l,[],_,_,_=>rfl
 |m,f+1,0,e,l,[],_,_,_=>rfl
 |m,0,f'+1,e,l,c::r,_,h,_=>by simp at h
 |m,f+1,0,e,l,c::r,_,_,h=>by simp at h
 |m,f+1,f'+1,e,l,[],_,_,_=>rfl
 |0,f+1,f'+1,e,l,c::r,h,_,_=>by simp at h
 |m+1,f+1,f'+1,e,l,c::r,h,h1,h2=>by
  rw[List.length_cons]at h h1 h2;have ih:=fun e l (t:List UInt8) (ht:t.length≤r.length)=>read_fuel m f f' e l t (by omega) (by omega) (by omega)
  have hl:=stepOf_len (read f) (read_len f) e l c r;rw[read_step,read_step,←stepOf_same (read f) (read f') e l c r (fun e l=>ih e l r (Nat.le_refl _))];cases hs:stepOf (read f) e l c r with
  |stop=>rfl
  |text a t'=>
   have h3:=hl.1 a t' hs;show(consT a (read f e l t').1,(read f e l t').2)=_;rw[ih e l t' h3.1];rfl
  |span x t'=>
   have h3:=hl.2 x t' hs;show(x::(read f e l t').1,(read f e l t').2)=_;rw[ih e l t' h3.1];rfl
def Rdr (e l:Bool) (t:List UInt8):List Sp × List UInt8:=read t.length e l t
def stp (e l:Bool) (c:UInt8) (r:List UInt8):Stp:=stepOf Rdr e l c r
theorem Rdr_len (e l:Bool) (t:List UInt8):(Rdr e l t).2.length≤t.length:=read_len _ e l t
theorem stp_len (e l:Bool) (c:UInt8) (r:List UInt8):
 (∀a t',stp e l c r=.text a t'→t'.length≤r.length∧a.length+t'.length≤(c::r).length)∧(∀x t',stp e l c r=.span x t'→t'.length≤r.length∧x.s.length+t'.length≤(c::r).length∧x.kind≠1):=stepOf_len Rdr Rdr_len e l c r
theorem Rdr_cons (e l:Bool) (c:UInt8) (r:List UInt8):Rdr e l (c::r)=finOf Rdr e l (c::r) (stp e l c r):=by
 have hl:=stp_len e l c r;unfold Rdr;rw[List.length_cons,read_step];have e1:stepOf (read r.length) e l c r=stp e l c r:=stepOf_same _ _ e l c r (fun e l=>rfl);rw[e1];cases hs:stp e l c r with
 |stop=>rfl
 |text a t'=>
  have h3:=hl.1 a t' hs;show(consT a (read r.length e l t').1,(read r.length e l t').2)=(consT a (read t'.length e l t').1,(read t'.length e l t').2);rw[read_fuel t'.length r.length t'.length e l t' (Nat.le_refl _) h3.1 (Nat.le_refl _)]
 |span x t'=>
  have h3:=hl.2 x t' hs;show(x::(read r.length e l t').1,(read r.length e l t').2)=(x::(read t'.length e l t').1,(read t'.length e l t').2);rw[read_fuel t'.length r.length t'.length e l t' (Nat.le_refl _) h3.1 (Nat.le_refl _)]
theorem Rdr_T0 (e l:Bool) (t:List UInt8):T0 (Rdr e l t).1:=by
 intro y r h hk;have hf:=(read_fits t.length e l t).1;have h':(read t.length e l t).1=y::r:=h;rw[h']at hf;obtain⟨k,s,kids⟩:=y;rw[fits]at hf;have h1:=hf.1;rw[fit1]at h1;have hk':k=1:=hk;rcases h1 with h1 |h1 |h1 |h1
 ·exact h1.2.1
 ·omega
 ·omega
 ·omega
def gl (e l:Bool) (L:List Sp) (t:List UInt8):List Sp × List UInt8:=(glue L (Rdr e l t).1,(Rdr e l t).2)
theorem gl_begin (e l:Bool) (t:List UInt8):gl e l [] t=Rdr e l t:=by
 unfold gl;rw[glue_nil _ (Rdr_T0 e l t)]
theorem gl_nil (e l:Bool) (L:List Sp):gl e l L []=(L,[]):=rfl
theorem gl_stop {e l:Bool} {L:List Sp} {c:UInt8} {r:List UInt8} (h:stp e l c r=.stop):gl e l L (c::r)=(L,c::r):=by
 unfold gl;rw[Rdr_cons,h];rfl
theorem gl_text {e l:Bool} {L:List Sp} {c:UInt8} {r a t':List UInt8} (h:stp e l c r=.text a t'):gl e l L (c::r)=gl e l (snocT L a) t':=by
 unfold gl;rw[Rdr_cons,h];show(glue L (consT a (Rdr e l t').1),(Rdr e l t').2)=_;rw[glue_text]
theorem gl_span {e l:Bool} {L:List Sp} {c:UInt8} {r t':List UInt8} {x:Sp} (h:stp e l c r=.span x t'):gl e l L (c::r)=gl e l (L++[x]) t':=by
 unfold gl;rw[Rdr_cons,h];show(glue L (x::(Rdr e l t').1),(Rdr e l t').2)=_;rw[glue_span L x ((stp_len e l c r).2 x t' h).2.2 _ (Rdr_T0 e l t')]
end Sp
end Go.Proofs.YtpakjdgddomdjabGreatDoor
