import Derived.Test.YthpnbialpkkpgaaGreatDoorPkB
import Derived.Test.YthpnbialpkkpgaaGreatDoorPkY
set_option linter.unusedVariables false
namespace Go.Proofs.YthpnbialpkkpgaaGreatDoor
namespace Sp
open Go.RowKit
open Tk (S S_of S_list S_size S_toList S_app ret_int eq8 ne8 at_data len_data)
open Cm (calls_at)
def ticksAt (l:List UInt8) (at':Int):Nat:=if at'<0 then 0 else ticks (l.drop at'.toNat)
theorem only_at (s:ByteArray) (k:Nat) (h:k<s.size):onlySp (s.data.toList.drop k)=((s[k]==32)&&onlySp (s.data.toList.drop (k+1))):=by
 rw[at_data s k h];rfl
theorem head_data (s:ByteArray) (h:0<s.size):s.data.toList.head? = some s[0]:=by
 have:=at_data s 0 h
 rw[List.drop_zero]at this
 rw[this];rfl
theorem last_data (s:ByteArray) (h:s.size-1<s.size):s.data.toList.getLast? = some s[s.size-1]:=by
 have h1:=at_data s (s.size-1) h
 have hl:=len_data s
 rw[List.getLast?_eq_getElem?,←List.head?_drop,hl,h1]
 rfl
theorem cut_data (s:ByteArray) (h:2≤s.size):s.extract 1 (s.size-1)=S s.data.toList.tail.dropLast:=by
 rw[←S_of (s.extract 1 (s.size-1))]
 congr 1
 rw[ByteArray.data_extract,Array.toList_extract,List.extract_eq_take_drop,List.dropLast_eq_take,List.length_tail,len_data,List.drop_one]
theorem only_two {s:ByteArray} (h:onlySp s.data.toList=false) (h0:0<s.size) (h32:s[0]=32):2≤s.size:=by
 rcases Nat.lt_or_ge s.size 2 with h1 |h1
 ·exfalso
  have:=only_at s 0 h0
  rw[List.drop_zero,drop_all s (0+1) (by omega),h32]at this
  rw[this]at h
  simp[onlySp]at h
 ·exact h1
end Sp
namespace Sp
open Go.RowKit
open Tk (S S_of S_list S_size S_toList S_app ret_int eq8 ne8 at_data len_data)
open Cm (calls_at)
theorem drop_drop' (l:List UInt8) (a b:Nat):(l.drop a).drop b=l.drop (a+b):=by rw[List.drop_drop]
theorem ext_list (s:ByteArray) (a b:Nat):(s.extract a b).data.toList=(s.data.toList.drop a).take (b-a):=by
 rw[ByteArray.data_extract,Array.toList_extract,List.extract_eq_take_drop]
theorem take_more (l:List UInt8) (a j m:Nat) (h:a≤j):(l.drop a).take (j-a)++(l.drop j).take m=(l.drop a).take (j+m-a):=by
 rw[show j+m-a=(j-a)+m by omega,List.take_add,drop_drop',show a+(j-a)=j by omega]
theorem sliceS (x:ByteArray) (m k:Nat) (h1:m≤k) (h2:k≤x.size) (w:World):
  (Instr.slice 9 (.string x) (some (.int .i64 (m:Int))) (some (.int .i64 (k:Int))) none).run Tryz.prog w=.ok (.string (x.extract m k)) w:=by
 have h3:(m:Int)≤(k:Int):=by omega
 have h4:(k:Int)≤(x.size:Int):=by omega
 have h5:0≤(m:Int):=by omega
 go_simp
theorem dcB_eq (c:UInt8):destB c=dcB c:=by
 unfold destB dcB alB
 have h:∀n:Nat,n<256→(decide (UInt8.ofNat n≤c)=decide ((n:Int)≤(c.toNat:Int)))∧(decide (c≤UInt8.ofNat n)=decide ((c.toNat:Int)≤(n:Int))):=fun n hn=>by
  have e:(UInt8.ofNat n).toNat=n:=by rw[UInt8.toNat_ofNat'];omega
  constructor
  ·apply decide_eq_decide.2
   rw[UInt8.le_iff_toNat_le,e]
   omega
  ·apply decide_eq_decide.2
   rw[UInt8.le_iff_toNat_le,e]
   omega
 have m:[46,47,95,45,35,63,38,58,37].contains c=marksL.any (fun b=>decide (c=b)):=by
  rw[Bool.eq_iff_iff,List.contains_iff_mem,List.any_eq_true]
  constructor
  ·intro hm;exact⟨c,hm,by simp⟩
  ·rintro⟨x,hx,he⟩
   have e:c=x:=by simpa using he
   rw[e];exact hx
 rw[m]
 have a1:=(h 97 (by omega)).1
 have a2:=(h 122 (by omega)).2
 have a3:=(h 65 (by omega)).1
 have a4:=(h 90 (by omega)).2
 have a5:=(h 48 (by omega)).1
 have a6:=(h 57 (by omega)).2
 have o97:(UInt8.ofNat 97)=97:=rfl
 have o122:(UInt8.ofNat 122)=122:=rfl
 have o65:(UInt8.ofNat 65)=65:=rfl
 have o90:(UInt8.ofNat 90)=90:=rfl
 have o48:(UInt8.ofNat 48)=48:=rfl
 have o57:(UInt8.ofNat 57)=57:=rfl
 rw[o97]at a1
 rw[o122]at a2
 rw[o65]at a3
 rw[o90]at a4
 rw[o48]at a5
 rw[o57]at a6
 rw[a1,a2,a3,a4,a5,a6]
 rfl
def destOn (tw t:List UInt8):Option (List UInt8 × List UInt8):=
 match t.dropWhile destB with
 |41::r=>if tw++t.takeWhile destB=[]then none else some (tw++t.takeWhile destB,r)
 |_=>none
theorem dest_on (t:List UInt8):dest (40::t)=destOn [] t:=by
 unfold dest destOn
 rfl
theorem destOn_yes (tw:List UInt8) (c:UInt8) (r:List UInt8) (h:dcB c=true):destOn tw (c::r)=destOn (tw++[c]) r:=by
 unfold destOn
 rw[←dcB_eq]at h
 rw[List.dropWhile_cons_of_pos h,List.takeWhile_cons_of_pos h]
 simp
theorem destOn_no (tw:List UInt8) (c:UInt8) (r:List UInt8) (h:dcB c=false):destOn tw (c::r)=if c=41 then(if tw=[]then none else some (tw,r))else none:=by
 unfold destOn
 rw[←dcB_eq]at h
 have h':¬destB c=true:=by rw[h];simp
 rw[List.dropWhile_cons_of_neg h',List.takeWhile_cons_of_neg h',List.append_nil]
 by_cases hc:c=41
 ·subst hc;rfl
 ·rw[if_neg hc]
  split
  ·rename_i r' he
   simp at he
   exact absurd he.1 hc
  ·rfl
theorem destOn_nil (tw:List UInt8):destOn tw []=none:=rfl
theorem dest_not {t:List UInt8} (h:t.head?≠some 40):dest t=none:=by
 unfold dest
 split
 ·exact absurd rfl h
 ·rfl
theorem ext_one' (x:ByteArray) (k:Nat) (h:k<x.size):(x.extract k (k+1)).data.toList=[x[k]]:=by
 rw[ext_list,at_data x k h,show k+1-k=1 by omega]
 rfl
theorem dsB_one (c:UInt8):dsB [c]=dcB c:=by unfold dsB;simp
end Sp
namespace Sp
open Tk (cls at_data len_data)
theorem stepOf_suf (rec:Bool→Bool→List UInt8→List Sp × List UInt8) (hrec:∀e l t,∃p,t=p++(rec e l t).2) (e l:Bool) (c:UInt8) (r:List UInt8):
  (∀a t',stepOf rec e l c r=.text a t'→∃p,c::r=p++t')∧(∀x t',stepOf rec e l c r=.span x t'→∃p,c::r=p++t'):=by
 unfold stepOf
 split
 ·exact⟨fun a t' h=>(by cases h),fun x t' h=>(by cases h)⟩
 ·split
  ·refine⟨fun a t' h=>?_,fun x t' h=>(by cases h)⟩
   simp only[Stp.text.injEq]at h
   obtain⟨rfl,rfl⟩:=h
   exact⟨c::r.take 1,by rw[List.cons_append,←List.drop_one,List.take_append_drop]⟩
  ·split
   ·rename_i hc
    subst hc
    have hp:=ticks_pos (r:=r) rfl
    cases hcode:code (ticks (96::r)) (96::r).length [] ((96::r).drop (ticks (96::r)))with
    |none=>
     refine⟨fun a t' h=>?_,fun x t' h=>(by cases h)⟩
     simp only[Stp.text.injEq]at h
     obtain⟨rfl,rfl⟩:=h
     exact⟨(96::r).take (ticks (96::r)),(List.take_append_drop _ _).symm⟩
    |some q=>
     obtain⟨x,t1⟩:=q
     refine⟨fun a t' h=>(by cases h),fun y t' h=>?_⟩
     simp only[Stp.span.injEq]at h
     obtain⟨rfl,rfl⟩:=h
     obtain⟨h1,h2,y,h3,h4,h5⟩:=code_some _ hp _ _ _ _ _ hcode
     exact⟨(96::r).take (ticks (96::r))++(y++List.replicate (ticks (96::r)) 96),by
      conv=>lhs;rw[←List.take_append_drop (ticks (96::r)) (96::r),h4]
      simp only[List.append_assoc]⟩
   ·have hplain:(∀a t',(Stp.text [c] r)= .text a t'→∃p,c::r=p++t')∧(∀x t',(Stp.text [c] r)= .span x t'→∃p,c::r=p++t'):=by
     refine⟨fun a t' h=>?_,fun x t' h=>(by cases h)⟩
     simp only[Stp.text.injEq]at h
     obtain⟨rfl,rfl⟩:=h
     exact⟨[c],rfl⟩
    split
    ·split
     ·rename_i k kids t1 hr
      obtain⟨p,h1⟩:=hrec true l r
      rw[hr]at h1
      refine⟨fun a t' h=>(by cases h),fun y t' h=>?_⟩
      simp only[Stp.span.injEq]at h
      obtain⟨rfl,rfl⟩:=h
      exact⟨c::(p++[42]),by rw[h1];simp⟩
     ·exact hplain
    ·split
     ·split
      ·rename_i k kids t1 hr
       obtain⟨p,h1⟩:=hrec e true r
       rw[hr]at h1
       cases hd:dest t1 with
       |none=>exact hplain
       |some q=>
        obtain⟨d,t2⟩:=q
        obtain⟨d1,d2,d3⟩:=dest_some hd
        refine⟨fun a t' h=>(by cases h),fun y t' h=>?_⟩
        simp only[Stp.span.injEq]at h
        obtain⟨rfl,rfl⟩:=h
        exact⟨c::(p++(93::40::(d++[41]))),by rw[h1,d3];simp⟩
      ·exact hplain
     ·exact hplain
theorem read_suf:∀(f:Nat) (e l:Bool) (t:List UInt8),∃p,t=p++(read f e l t).2
 |0,e,l,t=>⟨[],rfl⟩
 |f+1,e,l,[]=>⟨[],rfl⟩
 |f+1,e,l,c::r=>by
  have hl:=stepOf_suf (read f) (read_suf f) e l c r
  rw[read_step]
  cases hs:stepOf (read f) e l c r with
  |stop=>exact⟨[],rfl⟩
  |text a t'=>
   obtain⟨p,h1⟩:=hl.1 a t' hs
   obtain⟨q,h2⟩:=read_suf f e l t'
   exact⟨p++q,by rw[List.append_assoc,h1];exact congrArg _ h2⟩
  |span x t'=>
   obtain⟨p,h1⟩:=hl.2 x t' hs
   obtain⟨q,h2⟩:=read_suf f e l t'
   exact⟨p++q,by rw[List.append_assoc,h1];exact congrArg _ h2⟩
theorem Rdr_suf (e l:Bool) (t:List UInt8):∃p,t=p++(Rdr e l t).2:=read_suf _ e l t
variable {e l:Bool} {L:List Sp}
end Sp
namespace Sp
open Go.RowKit
open Tk (S S_of S_list S_size S_toList S_app ret_int eq8 ne8 at_data len_data)
open Cm (calls_at)
def txB:List UInt8→Bool
 |[]=>true
 |[_]=>true
 |a::b::r=>!((decide (a=10)&&(spB b||decide (b=10)))||(decide (b=10)&&spB a))&&txB (b::r)
def ttB (s:List UInt8):Bool:=txB s&&(!s.isEmpty&&!hsB 13 s)
theorem txB_two (a b:UInt8) (r:List UInt8):txB (a::b::r)=(!((decide (a=10)&&(spB b||decide (b=10)))||(decide (b=10)&&spB a))&&txB (b::r)):=by rw[txB]
end Sp
end Go.Proofs.YthpnbialpkkpgaaGreatDoor
