import Derived.Test.YtpakjdgddomdjabGreatDoorPkB
import Derived.Test.YtpakjdgddomdjabGreatDoorPkY
set_option linter.unusedVariables false
namespace Go.Proofs.YtpakjdgddomdjabGreatDoor
namespace Sp
open Go.RowKit
open Tk (S S_of at_data len_data)
def ticksAt (l:List UInt8) (at':Int):Nat:=if at'<0 then 0 else ticks (l.drop at'.toNat)
theorem only_at (s:ByteArray) (k:Nat) (h:k<s.size):onlySp (s.data.toList.drop k)=((s[k]==32)&&onlySp (s.data.toList.drop (k+1))):=by
 rw[at_data s k h];rfl
theorem head_data (s:ByteArray) (h:0<s.size):s.data.toList.head? = some s[0]:=by
 have:=at_data s 0 h;rw[List.drop_zero]at this;rw[this];rfl
theorem last_data (s:ByteArray) (h:s.size-1<s.size):s.data.toList.getLast? = some s[s.size-1]:=by
 have h1:=at_data s (s.size-1) h;have hl:=len_data s;rw[List.getLast?_eq_getElem?,←List.head?_drop,hl,h1];rfl
theorem cut_data (s:ByteArray) (h:2≤s.size):s.extract 1 (s.size-1)=S s.data.toList.tail.dropLast:=by
 rw[←S_of (s.extract 1 (s.size-1))];congr 1;rw[ByteArray.data_extract,Array.toList_extract,List.extract_eq_take_drop,List.dropLast_eq_take,List.length_tail,len_data,List.drop_one]
theorem only_two {s:ByteArray} (h:onlySp s.data.toList=false) (h0:0<s.size) (h32:s[0]=32):2≤s.size:=by
 rcases Nat.lt_or_ge s.size 2 with h1 |h1
 ·exfalso
  have:=only_at s 0 h0;rw[List.drop_zero,drop_all s (0+1) (by omega),h32]at this;rw[this]at h;simp[onlySp]at h
 ·exact h1
end Sp
namespace Sp
open Go.RowKit
open Tk (at_data)
theorem drop_drop' (l:List UInt8) (a b:Nat):(l.drop a).drop b=l.drop (a+b):=by rw[List.drop_drop]
theorem ext_list (s:ByteArray) (a b:Nat):(s.extract a b).data.toList=(s.data.toList.drop a).take (b-a):=by
 rw[ByteArray.data_extract,Array.toList_extract,List.extract_eq_take_drop]
theorem take_more (l:List UInt8) (a j m:Nat) (h:a≤j):(l.drop a).take (j-a)++(l.drop j).take m=(l.drop a).take (j+m-a):=by
 rw[show j+m-a=(j-a)+m by omega,List.take_add,drop_drop',show a+(j-a)=j by omega]
theorem sliceS (x:ByteArray) (m k:Nat) (h1:m≤k) (h2:k≤x.size) (w:World):
  (Instr.slice 9 (.string x) (some (.int .i64 (m:Int))) (some (.int .i64 (k:Int))) none).run Tryz.prog w=.ok (.string (x.extract m k)) w:=by
 have h3:(m:Int)≤(k:Int):=by omega
 have h4:(k:Int)≤(x.size:Int):=by omega
 have h5:0≤(m:Int):=by omega
 go_simp
theorem dcB_eq (c:UInt8):destB c=dcB c:=by
 unfold destB dcB alB
 have h:∀n:Nat,n<256→(decide (UInt8.ofNat n≤c)=decide ((n:Int)≤(c.toNat:Int)))∧(decide (c≤UInt8.ofNat n)=decide ((c.toNat:Int)≤(n:Int))):=fun n hn=>by
  have e:(UInt8.ofNat n).toNat=n:=by rw[UInt8.toNat_ofNat'];omega
  constructor
  ·apply decide_eq_decide.2
   rw[UInt8.le_iff_toNat_le,e];omega
  ·apply decide_eq_decide.2
   rw[UInt8.le_iff_toNat_le,e];omega
 have m:[46,47,95,45,35,63,38,58,37].contains c=marksL.any (fun b=>decide (c=b)):=by
  rw[Bool.eq_iff_iff,List.contains_iff_mem,List.any_eq_true];constructor
  ·intro hm;exact⟨c,hm,by simp⟩
  ·rintro⟨x,hx,he⟩
   have e:c=x:=by simpa using he
   rw[e];exact hx
 rw[m];have a1:=(h 97 (by omega)).1;have a2:=(h 122 (by omega)).2;have a3:=(h 65 (by omega)).1;have a4:=(h 90 (by omega)).2;have a5:=(h 48 (by omega)).1;have a6:=(h 57 (by omega)).2;have o97:(UInt8.ofNat 97)=97:=rfl;have o122:(UInt8.ofNat 122)=122:=rfl;have o65:(UInt8.ofNat 65)=65:=rfl;have o90:(UInt8.ofNat 90)=90:=rfl;have o48:(UInt8.ofNat 48)=48:=rfl;have o57:(UInt8.ofNat 57)=57:=rfl;rw[o97]at a1;rw[o122]at a2;rw[o65]at a3;rw[o90]at a4;rw[o48]at a5;rw[o57]at a6;rw[a1,a2,a3,a4,a5,a6];rfl
def destOn (tw t:List UInt8):Option (List UInt8 × List UInt8):=
 match t.dropWhile destB with
 |41::r=>if tw++t.takeWhile destB=[]then none else some (tw++t.takeWhile destB,r)
 |_=>none
theorem dest_on (t:List UInt8):dest (40::t)=destOn [] t:=by
 unfold dest destOn;rfl
theorem destOn_yes (tw:List UInt8) (c:UInt8) (r:List UInt8) (h:dcB c=true):destOn tw (c::r)=destOn (tw++[c]) r:=by
 unfold destOn;rw[←dcB_eq]at h;rw[List.dropWhile_cons_of_pos h,List.takeWhile_cons_of_pos h];simp
theorem destOn_no (tw:List UInt8) (c:UInt8) (r:List UInt8) (h:dcB c=false):destOn tw (c::r)=if c=41 then(if tw=[]then none else some (tw,r))else none:=by
 unfold destOn;rw[←dcB_eq]at h;have h':¬destB c=true:=by rw[h];simp
 rw[List.dropWhile_cons_of_neg h',List.takeWhile_cons_of_neg h',List.append_nil];by_cases hc:c=41
 ·subst hc;rfl
 ·rw[if_neg hc]
  split
  ·rename_i r' he
   simp at he;exact absurd he.1 hc
  ·rfl
theorem destOn_nil (tw:List UInt8):destOn tw []=none:=rfl
theorem dest_not {t:List UInt8} (h:t.head?≠some 40):dest t=none:=by
 unfold dest;split
 ·exact absurd rfl h
 ·rfl
theorem ext_one' (x:ByteArray) (k:Nat) (h:k<x.size):(x.extract k (k+1)).data.toList=[x[k]]:=by
 rw[ext_list,at_data x k h,show k+1-k=1 by omega];rfl
theorem dsB_one (c:UInt8):dsB [c]=dcB c:=by unfold dsB;simp
end Sp
namespace Sp
variable {e l:Bool} {L:List Sp}
end Sp
namespace Sp
open Go.RowKit
open Tk (eq8 ne8 at_data)
def txB:List UInt8→Bool
 |[]=>true
 |[_]=>true
 |a::b::r=>!((decide (a=10)&&(spB b||decide (b=10)))||(decide (b=10)&&spB a))&&txB (b::r)
def ttB (s:List UInt8):Bool:=txB s&&(!s.isEmpty&&!hsB 13 s)
theorem txB_two (a b:UInt8) (r:List UInt8):txB (a::b::r)=(!((decide (a=10)&&(spB b||decide (b=10)))||(decide (b=10)&&spB a))&&txB (b::r)):=by rw[txB]
set_option maxHeartbeats 1600000 in
theorem text_any (s:ByteArray) (hs:s.size≤140737488355328) (w:World):
  Calls Tryz.prog 147 #[.string s] w fun e w'=>e=.returned (.bool (ttB s.data.toList))∧w=w':=by
 have H0:Hid (ttB s.data.toList=(txB (s.data.toList.drop 0)&&(!s.data.toList.isEmpty&&!hsB 13 s.data.toList))):=Lib.hid (by rw[List.drop_zero];rfl);have HEm:Hid ((!s.toList.isEmpty)= !s.data.toList.isEmpty):=Lib.hid (by rw[Lib.toList_data]);have HH:=Lib.hid (has_any s 13 hs w);have HS:=Lib.hid (fun c=>space_any c w);obtain⟨X,hX⟩:∃X,ttB s.data.toList=X:=⟨_,rfl⟩;obtain⟨ne,hne⟩:∃ne,(!s.data.toList.isEmpty)=ne:=⟨_,rfl⟩;obtain⟨h13,hh13⟩:∃y,hsB 13 s.data.toList=y:=⟨_,rfl⟩;rw[hX,hne,hh13]at H0;rw[hne]at HEm;rw[hh13]at HH;rw[hX];clear hX hne hh13;go_enter Tryz.func147,Tryz.ntmps147;go_wp2_with fail;go_loop [3] (fun i=>∃k:Nat,k≤s.size∧i=.int .i64 k∧Hid (X=(txB (s.data.toList.drop k)&&(ne&&!h13)))) (fun i=>s.size-(intOf i).toNat)
 case atStart=>exact⟨0,Nat.zero_le _,rfl,H0⟩
 case round=>
  clear H0;obtain⟨k,hk,rfl,HN⟩:=hrel;by_cases hlt:k+1<s.size
  ·have hk0:k<s.size:=by omega
   have hnx:=HN.out;rw[at_data s k hk0,at_data s (k+1) hlt,txB_two,←at_data s (k+1) hlt]at hnx;have d0:decide ((k:Int)+1<(s.size:Int))=true:=decide_eq_true (by omega);have HQ:=Lib.hid hnx;have HSa:=Lib.hid (HS.out s[k]);have HSb:=Lib.hid (HS.out s[k+1]);clear hnx HN;by_cases a10:s[k]=10
   ·have e1:((s[k].toNat:Int)==10)=true:=eq8 (b:=10) a10
    cases hsb:spB s[k+1]with
    |true=>
     rw[hsb]at HSb;have HR:Hid (X=false):=Lib.hid (by rw[HQ.out,hsb,decide_eq_true a10];simp);clear HQ a10 hsb HSa;go_wp2_with fail;refine HSb.out.mono ?_;rintro e w1 ⟨rfl,rfl⟩;clear HSb;go_wp2_with fail;go_ret;exact⟨ret_bool HR.out.symm,rfl⟩
    |false=>
     rw[hsb]at HSb;by_cases b10:s[k+1]=10
     ·have e2:((s[k+1].toNat:Int)==10)=true:=eq8 (b:=10) b10
      have HR:Hid (X=false):=Lib.hid (by rw[HQ.out,decide_eq_true a10,decide_eq_true b10];simp);clear HQ a10 b10 hsb HSa;go_wp2_with fail;refine HSb.out.mono ?_;rintro e w1 ⟨rfl,rfl⟩;clear HSb;go_wp2_with fail;go_ret;exact⟨ret_bool HR.out.symm,rfl⟩
     ·have e2:((s[k+1].toNat:Int)==10)=false:=ne8 (b:=10) b10
      have HR:Hid (X=(txB (s.data.toList.drop (k+1))&&(ne&&!h13))):=Lib.hid (by rw[HQ.out,hsb,decide_eq_false b10];simp);clear HQ a10 b10 hsb HSa;go_wp2_with fail;refine HSb.out.mono ?_;rintro e w1 ⟨rfl,rfl⟩;clear HSb;go_wp2_with fail;go_round
      case rel=>exact⟨k+1,by omega,by go_num,HR⟩
      case measure=>simp[intOf];omega
   ·have e1:((s[k].toNat:Int)==10)=false:=ne8 (b:=10) a10
    by_cases b10:s[k+1]=10
    ·have e2:((s[k+1].toNat:Int)==10)=true:=eq8 (b:=10) b10
     cases hsa:spB s[k]with
     |true=>
      rw[hsa]at HSa;have HR:Hid (X=false):=Lib.hid (by rw[HQ.out,hsa,decide_eq_true b10];simp);clear HQ a10 b10 hsa HSb;go_wp2_with fail;refine HSa.out.mono ?_;rintro e w1 ⟨rfl,rfl⟩;clear HSa;go_wp2_with fail;go_ret;exact⟨ret_bool HR.out.symm,rfl⟩
     |false=>
      rw[hsa]at HSa;have HR:Hid (X=(txB (s.data.toList.drop (k+1))&&(ne&&!h13))):=Lib.hid (by rw[HQ.out,hsa,decide_eq_false a10];simp);clear HQ a10 b10 hsa HSb;go_wp2_with fail;refine HSa.out.mono ?_;rintro e w1 ⟨rfl,rfl⟩;clear HSa;go_wp2_with fail;go_round
      case rel=>exact⟨k+1,by omega,by go_num,HR⟩
      case measure=>simp[intOf];omega
    ·have e2:((s[k+1].toNat:Int)==10)=false:=ne8 (b:=10) b10
     have HR:Hid (X=(txB (s.data.toList.drop (k+1))&&(ne&&!h13))):=Lib.hid (by rw[HQ.out,decide_eq_false a10,decide_eq_false b10];simp);clear HQ a10 b10 HSa HSb;go_wp2_with fail;go_round
     case rel=>exact⟨k+1,by omega,by go_num,HR⟩
     case measure=>simp[intOf];omega
  ·have d0:decide ((k:Int)+1<(s.size:Int))=false:=decide_eq_false (by omega)
   have hone:txB (s.data.toList.drop k)=true:=by
    by_cases hk0:k<s.size
    ·rw[at_data s k hk0,drop_all s (k+1) hlt];rfl
    ·rw[drop_all s k hk0];rfl
   have HQ:Hid (X=(ne&&!h13)):=Lib.hid (by rw[HN.out,hone];rfl);clear HN hone;cases hne2:(!s.toList.isEmpty)with
   |true=>
    have HR:Hid (X=!h13):=Lib.hid (by rw[HQ.out,←HEm.out,hne2];rfl);clear HQ HEm;go_wp2_with fail;refine HH.out.mono ?_;rintro e w1 ⟨rfl,rfl⟩;clear HH;go_wp2_with fail;go_ret;exact⟨ret_bool HR.out.symm,rfl⟩
   |false=>
    have HR:Hid (X=false):=Lib.hid (by rw[HQ.out,←HEm.out,hne2];rfl);clear HQ HEm;go_wp2_with fail;go_ret;exact⟨ret_bool HR.out.symm,rfl⟩
end Sp
end Go.Proofs.YtpakjdgddomdjabGreatDoor
