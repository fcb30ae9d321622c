import Derived.Test.YtpakjdgddomdjabGreatDoorPkD
import Derived.Test.YtpakjdgddomdjabGreatDoorPkC
import Derived.Test.YtpakjdgddomdjabGreatDoorPkB
set_option linter.unusedVariables false
namespace Go.Proofs.YtpakjdgddomdjabGreatDoor
namespace Sp
open Go.RowKit
end Sp
namespace Sp
def spcB (c:UInt8):Bool:=decide (c=92)||decide (c=42)||decide (c=91)||decide (c=93)||decide (c=96)
theorem spc_no {c:UInt8} (h:spcB c=false):c≠92∧c≠42∧c≠91∧c≠93∧c≠96:=by
 unfold spcB at h;simp only[Bool.or_eq_false_iff,decide_eq_false_iff_not]at h;exact⟨h.1.1.1.1,h.1.1.1.2,h.1.1.2,h.1.2,h.2⟩
theorem stp_plain {e l:Bool} {c:UInt8} (h:spcB c=false) (r:List UInt8):stp e l c r=.text [c] r:=by
 obtain⟨h1,h2,h3,h4,h5⟩:=spc_no h;unfold stp stepOf;rw[if_neg (by rintro(⟨h,_⟩|⟨h,_⟩);exact h2 h;exact h4 h),if_neg (fun h=>h1 h.1),if_neg h5,if_neg h2,if_neg (fun h=>h3 h.1)]
end Sp
namespace Sp
theorem plOne_mk (q:Int) (s:List UInt8) (l:List Sp):plOne (.mk q s l)=(if q=1∨q=2 then s else [])++plAll l:=plOne_eq _
theorem totOne_mk (q:Int) (s:List UInt8) (l:List Sp):totOne (.mk q s l)=1+s.length+totAll l:=totOne_eq _
theorem pl_consT (a:List UInt8):∀R:List Sp,plAll (consT a R)=a++plAll R
 |[]=>by rw[consT,plAll_cons,plOne_mk,if_pos (Or.inl rfl)];simp[plAll]
 |.mk k t kids::r=>by
  show plAll (if k=1 then .mk 1 (a++t) kids::r else .mk 1 a []::.mk k t kids::r)=_;split
  ·rename_i hk
   subst hk;rw[plAll_cons,plAll_cons,plOne_mk,plOne_mk,if_pos (Or.inl rfl),if_pos (Or.inl rfl)];simp
  ·rw[plAll_cons,plOne_mk,if_pos (Or.inl rfl)]
   simp[plAll]
theorem tot_consT (a:List UInt8):∀R:List Sp,totAll (consT a R)≤1+a.length+totAll R
 |[]=>by rw[consT,totAll_cons,totOne_mk];simp[totAll]
 |.mk k t kids::r=>by
  show totAll (if k=1 then .mk 1 (a++t) kids::r else .mk 1 a []::.mk k t kids::r)≤_;split
  ·rename_i hk
   rw[totAll_cons,totAll_cons,totOne_mk,totOne_mk,List.length_append];omega
  ·rw[totAll_cons,totOne_mk]
   simp[totAll]
theorem strip_sub (x:List UInt8):(strip x).Sublist x:=by
 unfold strip;split
 ·exact(List.dropLast_sublist _).trans (List.tail_sublist _)
 ·exact List.Sublist.refl _
def Meas (L:List Sp) (t' t:List UInt8):Prop:=totAll L+2*t'.length≤2*t.length∧(plAll L++t').Sublist t
theorem stepOf_meas (rec:Bool→Bool→List UInt8→List Sp × List UInt8) (hrec:∀e l t,Meas (rec e l t).1 (rec e l t).2 t) (e l:Bool) (c:UInt8) (r:List UInt8):
  (∀a t',stepOf rec e l c r=.text a t'→1+a.length+2*t'.length≤2*(c::r).length∧(a++t').Sublist (c::r))∧(∀x t',stepOf rec e l c r=.span x t'→totOne x+2*t'.length≤2*(c::r).length∧(plOne x++t').Sublist (c::r)):=by
 unfold stepOf;split
 ·exact⟨fun a t' h=>(by cases h),fun x t' h=>(by cases h)⟩
 ·split
  ·rename_i hn he
   refine⟨fun a t' h=>?_,fun x t' h=>(by cases h)⟩;simp only[Stp.text.injEq]at h;obtain⟨rfl,rfl⟩:=h;cases r with
   |nil=>simp at he
   |cons d r=>
    refine⟨by simp;omega,?_⟩;show([d]++r).Sublist _;exact List.Sublist.cons _ (List.Sublist.refl _)
  ·split
   ·rename_i hc
    subst hc;have hp:=ticks_pos (r:=r) rfl;have hle:=ticks_le (96::r);have htk:=List.take_append_drop (ticks (96::r)) (96::r);rw[ticks_take]at htk;cases hcode:code (ticks (96::r)) (96::r).length [] ((96::r).drop (ticks (96::r)))with
    |none=>
     refine⟨fun a t' h=>?_,fun x t' h=>(by cases h)⟩;simp only[Stp.text.injEq]at h;obtain⟨rfl,rfl⟩:=h;refine⟨?_,by rw[htk];exact List.Sublist.refl _⟩;rw[List.length_drop,List.length_replicate];rw[List.length_cons]at hle ⊢;omega
    |some q=>
     obtain⟨x,t1⟩:=q;refine⟨fun a t' h=>(by cases h),fun y t' h=>?_⟩;simp only[Stp.span.injEq]at h;obtain⟨rfl,rfl⟩:=h;have h1:=code_len _ hp hcode;have h2:=strip_len x;obtain⟨_,_,y,h3,h4,h5⟩:=code_some _ hp _ _ _ _ _ hcode;rw[List.nil_append]at h3;subst h3;rw[List.length_drop,List.length_cons]at h1;rw[List.length_cons]at hle;refine⟨?_,?_⟩
     ·rw[totOne_mk,List.length_cons]
      simp only[totAll];omega
     ·rw[plOne_mk,if_pos (Or.inr rfl)]
      conv=>rhs;rw[←htk,h4]
      refine List.Sublist.trans ?_ (List.sublist_append_right _ _);simp only[plAll,List.append_nil];exact List.Sublist.append (strip_sub x) (List.sublist_append_right _ _)
   ·have hplain:(∀a t',(Stp.text [c] r)= .text a t'→1+a.length+2*t'.length≤2*(c::r).length∧(a++t').Sublist (c::r))∧(∀x t',(Stp.text [c] r)= .span x t'→totOne x+2*t'.length≤2*(c::r).length∧(plOne x++t').Sublist (c::r)):=by
     refine⟨fun a t' h=>?_,fun x t' h=>(by cases h)⟩;simp only[Stp.text.injEq]at h;obtain⟨rfl,rfl⟩:=h;exact⟨by simp;omega,List.Sublist.refl _⟩
    split
    ·split
     ·rename_i k kids t1 hr
      obtain⟨m1,m2⟩:=hrec true l r;rw[hr]at m1 m2;refine⟨fun a t' h=>(by cases h),fun y t' h=>?_⟩;simp only[Stp.span.injEq]at h;obtain⟨rfl,rfl⟩:=h;simp only[List.length_cons]at m1 m2;refine⟨?_,?_⟩
      ·rw[totOne_mk,List.length_cons]
       simp only[List.length_nil];omega
      ·rw[plOne_mk,if_neg (by decide),List.nil_append]
       refine List.Sublist.cons _ (List.Sublist.trans ?_ m2);exact List.Sublist.append (List.Sublist.refl _) (List.Sublist.cons _ (List.Sublist.refl _))
     ·exact hplain
    ·split
     ·split
      ·rename_i k kids t1 hr
       obtain⟨m1,m2⟩:=hrec e true r;rw[hr]at m1 m2;cases hd:dest t1 with
       |none=>exact hplain
       |some q=>
        obtain⟨d,t2⟩:=q;obtain⟨d1,d2,d3⟩:=dest_some hd;refine⟨fun a t' h=>(by cases h),fun y t' h=>?_⟩;simp only[Stp.span.injEq]at h;obtain⟨rfl,rfl⟩:=h;have hl:=congrArg List.length d3;simp only[List.length_cons,List.length_append]at m1 m2 hl;refine⟨?_,?_⟩
        ·rw[totOne_mk,List.length_cons]
         omega
        ·rw[plOne_mk,if_neg (by decide),List.nil_append]
         refine List.Sublist.cons _ (List.Sublist.trans ?_ m2);refine List.Sublist.append (List.Sublist.refl _) ?_;rw[d3];refine List.Sublist.cons _ (List.Sublist.cons _ ?_);refine List.Sublist.trans ?_ (List.sublist_append_right _ _);exact List.Sublist.cons _ (List.Sublist.refl _)
      ·exact hplain
     ·exact hplain
theorem read_meas:∀(f:Nat) (e l:Bool) (t:List UInt8),Meas (read f e l t).1 (read f e l t).2 t
 |0,e,l,t=>⟨by show totAll []+_≤_;simp[totAll,read],by show(plAll []++_).Sublist _;simp[plAll,read]⟩
 |f+1,e,l,[]=>⟨by show totAll []+_≤_;simp[totAll,read],by show(plAll []++_).Sublist _;simp[plAll,read]⟩
 |f+1,e,l,c::r=>by
  have hl:=stepOf_meas (read f) (read_meas f) e l c r;rw[read_step];cases hs:stepOf (read f) e l c r with
  |stop=>exact⟨by show totAll []+_≤_;simp[totAll,finOf],by show(plAll []++_).Sublist _;simp[plAll,finOf]⟩
  |text a t'=>
   obtain⟨h1,h2⟩:=hl.1 a t' hs;obtain⟨g1,g2⟩:=read_meas f e l t';have ht:=tot_consT a (read f e l t').1;refine⟨?_,?_⟩
   ·show totAll (consT a (read f e l t').1)+2*(read f e l t').2.length≤_
    omega
   ·show(plAll (consT a (read f e l t').1)++(read f e l t').2).Sublist _
    rw[pl_consT,List.append_assoc];exact(List.Sublist.append (List.Sublist.refl a) g2).trans h2
  |span x t'=>
   obtain⟨h1,h2⟩:=hl.2 x t' hs;obtain⟨g1,g2⟩:=read_meas f e l t';refine⟨?_,?_⟩
   ·show totAll (x::(read f e l t').1)+2*(read f e l t').2.length≤_
    rw[totAll_cons];omega
   ·show(plAll (x::(read f e l t').1)++(read f e l t').2).Sublist _
    rw[plAll_cons,List.append_assoc];exact(List.Sublist.append (List.Sublist.refl (plOne x)) g2).trans h2
theorem Rdr_meas (e l:Bool) (t:List UInt8):Meas (Rdr e l t).1 (Rdr e l t).2 t:=read_meas _ e l t
theorem Rdr_tot (e l:Bool) (t:List UInt8):totAll (Rdr e l t).1≤2*t.length:=by have:=(Rdr_meas e l t).1;omega
end Sp
end Go.Proofs.YtpakjdgddomdjabGreatDoor
