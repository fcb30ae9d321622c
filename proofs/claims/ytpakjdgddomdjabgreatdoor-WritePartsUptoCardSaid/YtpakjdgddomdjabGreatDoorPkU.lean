import Derived.Test.YtpakjdgddomdjabGreatDoorPkB
import Derived.Test.YtpakjdgddomdjabGreatDoorPkC
import Derived.Test.YtpakjdgddomdjabGreatDoorPkT
set_option linter.unusedVariables false
namespace Go.Proofs.YtpakjdgddomdjabGreatDoor
namespace Bt
open Go.RowKit
open Tk (S S_of eq8 ne8 at_data len_data)
open Sp (hsB spB ret_bool)
open Utf (chk)
def ckB (s:List UInt8):Bool:=decide (chk (S s)=0)
def lineB (s:List UInt8):Bool:=ckB s&&!hsB 10 s&&!hsB 13 s
def tgB (s:List UInt8):Bool:=s.isEmpty||(!spB (s.headD 0)&&!spB (s.getLastD 0))
def labB (s:List UInt8):Bool:=!s.isEmpty&&lineB s&&tgB s&&!hsB 91 s&&!hsB 93 s&&!hsB 92 s
def infB (s:List UInt8):Bool:=lineB s&&tgB s&&!hsB 96 s
theorem drop_all (s:ByteArray) (k:Nat) (h:¬k<s.size):s.data.toList.drop k=[]:=List.drop_eq_nil_of_le (by simp;omega)
theorem has_any (s:ByteArray) (c:UInt8) (hs:s.size≤140737488355328) (w:World):
  Calls Tryz.prog 57 #[.string s,.int .u8 c.toNat] w fun e w'=>e=.returned (.bool (hsB c s.data.toList))∧w=w':=by
 have H0:Hid (hsB c s.data.toList=hsB c (s.data.toList.drop 0)):=Lib.hid (by rw[List.drop_zero]);obtain⟨X,hX⟩:∃X,hsB c s.data.toList=X:=⟨_,rfl⟩;rw[hX]at H0;rw[hX];clear hX;go_enter Tryz.func57,Tryz.ntmps57;go_wp2_with fail;go_loop [5] (fun i=>∃k:Nat,k≤s.size∧i=.int .i64 k∧Hid (X=hsB c (s.data.toList.drop k))) (fun i=>s.size-(intOf i).toNat)
 case atStart=>exact⟨0,Nat.zero_le _,rfl,H0⟩
 case round=>
  clear H0;obtain⟨k,hk,rfl,HN⟩:=hrel;by_cases hlt:k<s.size
  ·have hnx:=HN.out
   rw[at_data s k hlt]at hnx;unfold hsB at hnx;rw[List.any_cons]at hnx;by_cases hc:s[k]=c
   ·have e1:((s[k].toNat:Int)==(c.toNat:Int))=true:=eq8 hc
    have HR:Hid (X=true):=Lib.hid (by rw[hnx,decide_eq_true hc];rfl);clear hnx HN hc;go_wp2_with fail;go_ret;exact⟨ret_bool HR.out.symm,rfl⟩
   ·have e1:((s[k].toNat:Int)==(c.toNat:Int))=false:=ne8 hc
    have HR:Hid (X=hsB c (s.data.toList.drop (k+1))):=Lib.hid (by rw[hnx,decide_eq_false hc];rfl);clear hnx HN hc;go_wp2_with fail;go_round
    case rel=>exact⟨k+1,by omega,by go_num,HR⟩
    case measure=>simp[intOf];omega
  ·have hnx:=HN.out
   rw[drop_all s k hlt]at hnx;have HR:Hid (X=false):=Lib.hid (by rw[hnx];rfl);clear hnx HN;go_wp2_with fail;go_ret;exact⟨ret_bool HR.out.symm,rfl⟩
theorem gap_any (c:UInt8) (w:World):
  Calls Tryz.prog 125 #[.int .u8 c.toNat] w fun e w'=>e=.returned (.bool (spB c))∧w=w':=by
 by_cases h1:c=9
 ·subst h1
  go_enter Tryz.func125,Tryz.ntmps125;go_wp2_with fail;go_ret;exact⟨rfl,rfl⟩
 ·have e1:((c.toNat:Int)==9)=false:=ne8 (b:=9) h1
  by_cases h2:c=32
  ·subst h2
   go_enter Tryz.func125,Tryz.ntmps125;go_wp2_with fail;go_ret;exact⟨rfl,rfl⟩
  ·have e2:((c.toNat:Int)==32)=false:=ne8 (b:=32) h2
   have HR:Hid (spB c=false):=Lib.hid (by unfold spB;rw[decide_eq_false h1,decide_eq_false h2];rfl);clear h1 h2;go_enter Tryz.func125,Tryz.ntmps125;go_wp2_with fail;go_ret;exact⟨ret_bool HR.out.symm,rfl⟩
theorem head_data (s:ByteArray) (h:0<s.size):s.data.toList.headD 0=s[0]:=by
 have:=at_data s 0 h;rw[List.drop_zero]at this;rw[this];rfl
theorem last_data (s:ByteArray) (h:s.size-1<s.size):s.data.toList.getLastD 0=s[s.size-1]:=by
 have hl:s.data.toList.getLast? = some s[s.size-1]:=by
  rw[List.getLast?_eq_getElem?,len_data,List.getElem?_eq_getElem (by rw[len_data];exact h)];rfl
 rw[List.getLastD_eq_getLast?,hl];rfl
theorem tight_any (s:ByteArray) (hs:s.size≤140737488355328) (w:World):
  Calls Tryz.prog 90 #[.string s] w fun e w'=>e=.returned (.bool (tgB s.data.toList))∧w=w':=by
 have emS:(s.toList==([]:List UInt8))=s.data.toList.isEmpty:=by rw[Lib.toList_data];cases s.data.toList<;>rfl
 by_cases h0:s.size=0
 ·have hn:s.data.toList=[]:=List.eq_nil_of_length_eq_zero (by rw[len_data];exact h0)
  rw[hn]at emS;have HR:Hid (tgB s.data.toList=true):=Lib.hid (by rw[hn];rfl);clear hn;obtain⟨X,hX⟩:∃X,tgB s.data.toList=X:=⟨_,rfl⟩;rw[hX]at HR ⊢;clear hX;go_enter Tryz.func90,Tryz.ntmps90;go_wp2_with fail;go_ret;exact⟨ret_bool HR.out.symm,rfl⟩
 ·have hp:0<s.size:=by omega
  have hp1:s.size-1<s.size:=by omega
  have hne:s.data.toList.isEmpty=false:=by
   rw[List.isEmpty_eq_false_iff];intro e;have:=congrArg List.length e;rw[len_data,List.length_nil]at this;exact h0 this
  rw[hne]at emS
  have HX:Hid (tgB s.data.toList=(!spB s[0]&&!spB s[s.size-1])):=Lib.hid (by
   unfold tgB;rw[hne,head_data s hp,last_data s hp1];rfl)
  obtain⟨X,hX⟩:∃X,tgB s.data.toList=X:=⟨_,rfl⟩;rw[hX]at HX ⊢;have HA:=Lib.hid (fun w=>gap_any s[0] w);have HB:=Lib.hid (fun w=>gap_any s[s.size-1] w);have z1:((s.size:Int)-1).toNat=s.size-1:=by omega
  have z2:(s.size:Int)-1=((s.size-1:Nat):Int):=by omega
  clear hX hne h0;generalize spB s[0]=a at *;generalize spB s[s.size-1]=b at *;go_enter Tryz.func90,Tryz.ntmps90;go_wp2_with fail;refine(HA.out _).mono ?_;rintro e w1 ⟨rfl,rfl⟩;clear HA;cases a with
  |true=>
   go_wp2_with fail;go_ret;exact⟨ret_bool (by rw[HX.out];simp),rfl⟩
  |false=>
   go_wp2_with fail;refine(HB.out _).mono ?_;rintro e w2 ⟨rfl,rfl⟩;clear HB;go_wp2_with fail;go_ret;exact⟨ret_bool (by rw[HX.out];simp),rfl⟩
theorem line_any (s:ByteArray) (hs:s.size≤140737488355328) (w:World):
  Calls Tryz.prog 59 #[.string s] w fun e w'=>e=.returned (.bool (lineB s.data.toList))∧w=w':=by
 have HK:=Lib.hid (fun w=>Go.Proofs.YtpakjdgddomdjabGreatDoor.Utf.rcheck_any s hs w);have H10:=Lib.hid (fun w=>has_any s 10 hs w);have H13:=Lib.hid (fun w=>has_any s 13 hs w);have HX:Hid (lineB s.data.toList=(decide (chk s=0)&&!hsB 10 s.data.toList&&!hsB 13 s.data.toList)):=Lib.hid (by unfold lineB ckB;rw[S_of]);obtain⟨X,hX⟩:∃X,lineB s.data.toList=X:=⟨_,rfl⟩;rw[hX]at HX ⊢;clear hX;generalize hsB 10 s.data.toList=a at *;generalize hsB 13 s.data.toList=b at *;generalize chk s=cv at *;go_enter Tryz.func59,Tryz.ntmps59;go_wp2_with fail;refine(HK.out _).mono ?_;rintro e w0 ⟨rfl,rfl⟩;clear HK;by_cases hc:cv=0
 ·have c1:(cv==0)=true:=by rw[hc];rfl
  rw[decide_eq_true hc]at HX;clear hc;go_wp2_with fail;refine(H10.out _).mono ?_;rintro e w1 ⟨rfl,rfl⟩;clear H10;cases a with
  |true=>
   go_wp2_with fail;go_ret;exact⟨ret_bool (by rw[HX.out];simp),rfl⟩
  |false=>
   go_wp2_with fail;refine(H13.out _).mono ?_;rintro e w2 ⟨rfl,rfl⟩;clear H13;go_wp2_with fail;go_ret;exact⟨ret_bool (by rw[HX.out];simp),rfl⟩
 ·have c1:(cv==0)=false:=beq_eq_false_iff_ne.2 hc
  rw[decide_eq_false hc]at HX;clear hc;go_wp2_with fail;go_ret;exact⟨ret_bool (by rw[HX.out];simp),rfl⟩
theorem label_any (s:ByteArray) (hs:s.size≤140737488355328) (w:World):
  Calls Tryz.prog 61 #[.string s] w fun e w'=>e=.returned (.bool (labB s.data.toList))∧w=w':=by
 have emS:(s.toList==([]:List UInt8))=s.data.toList.isEmpty:=by rw[Lib.toList_data];cases s.data.toList<;>rfl
 have HL:=Lib.hid (fun w=>line_any s hs w);have HT:=Lib.hid (fun w=>tight_any s hs w);have H91:=Lib.hid (fun w=>has_any s 91 hs w);have H93:=Lib.hid (fun w=>has_any s 93 hs w);have H92:=Lib.hid (fun w=>has_any s 92 hs w);have HX:Hid (labB s.data.toList=(!s.data.toList.isEmpty&&lineB s.data.toList&&tgB s.data.toList&&!hsB 91 s.data.toList&&!hsB 93 s.data.toList&&!hsB 92 s.data.toList)):=Lib.hid rfl;obtain⟨X,hX⟩:∃X,labB s.data.toList=X:=⟨_,rfl⟩;rw[hX]at HX ⊢;clear hX;generalize hsB 91 s.data.toList=b1 at *;generalize hsB 93 s.data.toList=b3 at *;generalize hsB 92 s.data.toList=b2 at *;generalize lineB s.data.toList=bl at *;generalize tgB s.data.toList=bt at *;generalize s.data.toList.isEmpty=be at *;cases be with
 |true=>
  go_enter Tryz.func61,Tryz.ntmps61;go_wp2_with fail;go_ret;exact⟨ret_bool (by rw[HX.out];simp),rfl⟩
 |false=>
  go_enter Tryz.func61,Tryz.ntmps61;go_wp2_with fail;refine(HL.out _).mono ?_;rintro e w1 ⟨rfl,rfl⟩;clear HL;cases bl with
  |true=>
   go_wp2_with fail;refine(HT.out _).mono ?_;rintro e w2 ⟨rfl,rfl⟩;clear HT;cases bt with
   |true=>
    go_wp2_with fail;refine(H91.out _).mono ?_;rintro e w3 ⟨rfl,rfl⟩;clear H91;cases b1 with
    |true=>
     go_wp2_with fail;go_ret;exact⟨ret_bool (by rw[HX.out];simp),rfl⟩
    |false=>
     go_wp2_with fail;refine(H93.out _).mono ?_;rintro e w4 ⟨rfl,rfl⟩;clear H93;cases b3 with
     |true=>
      go_wp2_with fail;go_ret;exact⟨ret_bool (by rw[HX.out];simp),rfl⟩
     |false=>
      go_wp2_with fail;refine(H92.out _).mono ?_;rintro e w5 ⟨rfl,rfl⟩;clear H92;go_wp2_with fail;go_ret;exact⟨ret_bool (by rw[HX.out];simp),rfl⟩
   |false=>
    go_wp2_with fail;go_ret;exact⟨ret_bool (by rw[HX.out];simp),rfl⟩
  |false=>
   go_wp2_with fail;go_ret;exact⟨ret_bool (by rw[HX.out];simp),rfl⟩
theorem info_any (s:ByteArray) (hs:s.size≤140737488355328) (w:World):
  Calls Tryz.prog 60 #[.string s] w fun e w'=>e=.returned (.bool (infB s.data.toList))∧w=w':=by
 have HL:=Lib.hid (fun w=>line_any s hs w);have HT:=Lib.hid (fun w=>tight_any s hs w);have H96:=Lib.hid (fun w=>has_any s 96 hs w);have HX:Hid (infB s.data.toList=(lineB s.data.toList&&tgB s.data.toList&&!hsB 96 s.data.toList)):=Lib.hid rfl;obtain⟨X,hX⟩:∃X,infB s.data.toList=X:=⟨_,rfl⟩;rw[hX]at HX ⊢;clear hX;generalize hsB 96 s.data.toList=b1 at *;generalize lineB s.data.toList=bl at *;generalize tgB s.data.toList=bt at *;go_enter Tryz.func60,Tryz.ntmps60;go_wp2_with fail;refine(HL.out _).mono ?_;rintro e w1 ⟨rfl,rfl⟩;clear HL;cases bl with
 |true=>
  go_wp2_with fail;refine(HT.out _).mono ?_;rintro e w2 ⟨rfl,rfl⟩;clear HT;cases bt with
  |true=>
   go_wp2_with fail;refine(H96.out _).mono ?_;rintro e w3 ⟨rfl,rfl⟩;clear H96;go_wp2_with fail;go_ret;exact⟨ret_bool (by rw[HX.out];simp),rfl⟩
  |false=>
   go_wp2_with fail;go_ret;exact⟨ret_bool (by rw[HX.out];simp),rfl⟩
 |false=>
  go_wp2_with fail;go_ret;exact⟨ret_bool (by rw[HX.out];simp),rfl⟩
end Bt
namespace Kd
open Sp (hsB spB dsB dcB destB alB marksL)
open Bt (ckB lineB tgB labB)
open Bk (Tx Env label isDest df define)
open Ln (gapB)
def E0:Env:=⟨ckB⟩
theorem hs_con (c:UInt8) (s:Tx):s.contains c=hsB c s:=by
 rw[Bool.eq_iff_iff];unfold hsB;simp
theorem gap_sp (b:UInt8):Bk.gapB b=spB b:=by
 unfold Bk.gapB spB;rw[Bool.eq_iff_iff];simp
theorem gap_ln (b:UInt8):Bk.gapB b=gapB b:=rfl
theorem tight_tg (s:Tx):Bk.tight s=tgB s:=by
 cases s with
 |nil=>rfl
 |cons b r=>
  unfold Bk.tight tgB;rw[List.isEmpty_cons,Bool.false_or,List.headD_cons,List.getLastD_eq_getLast?,List.head?_cons];cases hc:(b::r).getLast? with
  |none=>simp at hc
  |some c=>
   have ha:(r.all fun _=>true)=true:=by rw[List.all_eq_true];exact fun _ _=>rfl
   simp[gap_sp,ha]
theorem lab_eq (s:Tx):label E0 s=labB s:=by
 unfold label labB lineB;rw[tight_tg,hs_con,hs_con,hs_con,hs_con,hs_con];have e:decide (s≠[])= !s.isEmpty:=by cases s<;>simp
 rw[e];show(ckB s&&_&&_&&_&&_&&_&&_&&_)=_;generalize ckB s=a;generalize (!s.isEmpty)=b;generalize tgB s=c;generalize hsB 10 s=d;generalize hsB 13 s=f;generalize hsB 91 s=g;generalize hsB 93 s=h;generalize hsB 92 s=i
 revert a b c d f g h i
 decide
theorem dest_dc (c:UInt8):destB c=dcB c:=by
 unfold destB dcB alB
 have h:∀n:Nat,n<256→(decide (UInt8.ofNat n≤c)=decide ((n:Int)≤(c.toNat:Int)))∧(decide (c≤UInt8.ofNat n)=decide ((c.toNat:Int)≤(n:Int))):=fun n hn=>by
  have e:(UInt8.ofNat n).toNat=n:=by rw[UInt8.toNat_ofNat'];omega
  constructor
  ·apply decide_eq_decide.2
   rw[UInt8.le_iff_toNat_le,e];omega
  ·apply decide_eq_decide.2
   rw[UInt8.le_iff_toNat_le,e];omega
 have m:[46,47,95,45,35,63,38,58,37].contains c=marksL.any (fun b=>decide (c=b)):=by
  rw[Bool.eq_iff_iff,List.contains_iff_mem,List.any_eq_true];constructor
  ·intro hm;exact⟨c,hm,by simp⟩
  ·rintro⟨x,hx,he⟩
   have e:c=x:=by simpa using he
   rw[e];exact hx
 rw[m];have a1:=(h 97 (by omega)).1;have a2:=(h 122 (by omega)).2;have a3:=(h 65 (by omega)).1;have a4:=(h 90 (by omega)).2;have a5:=(h 48 (by omega)).1;have a6:=(h 57 (by omega)).2;have o97:(UInt8.ofNat 97)=97:=rfl;have o122:(UInt8.ofNat 122)=122:=rfl;have o65:(UInt8.ofNat 65)=65:=rfl;have o90:(UInt8.ofNat 90)=90:=rfl;have o48:(UInt8.ofNat 48)=48:=rfl;have o57:(UInt8.ofNat 57)=57:=rfl;rw[o97]at a1;rw[o122]at a2;rw[o65]at a3;rw[o90]at a4;rw[o48]at a5;rw[o57]at a6;rw[a1,a2,a3,a4,a5,a6];rfl
theorem dest_eq (s:Tx):isDest s=dsB s:=by
 unfold isDest dsB;have e:decide (s≠[])= !s.isEmpty:=by cases s<;>simp
 rw[e,Bool.and_comm];congr 1;have:destB=dcB:=funext dest_dc;rw[this]
theorem df_skip (acc:Tx) (c:UInt8) (t:Tx) (h:¬∃d,c=93∧t=58::32::d):df E0 acc (c::t)=df E0 (acc++[c]) t:=by
 rw[df];intro d h1 h2;exact h ⟨d,h1,h2⟩
theorem df_here (acc d:Tx):df E0 acc (93::58::32::d)=if label E0 acc&&isDest d then some (acc,d)else df E0 (acc++[93]) (58::32::d):=by rw[df]
def dfAt (s:Tx) (i:Nat):Option (Tx × Tx):=if s.head? = some 91 then df E0 ((s.drop 1).take (i-1)) (s.drop i)else none
theorem dfAt_one (s:Tx):define E0 s=dfAt s 1:=by
 unfold define dfAt;cases s with
 |nil=>rfl
 |cons c t=>
  by_cases h:c=91
  ·subst h;simp
  ·have:¬(c::t).head? = some 91:=by simpa using h
   rw[if_neg this];split
   ·rename_i he;simp at he;exact absurd he.1 h
   ·rfl
end Kd
namespace Pa
open Bk (Tx Bk Env fenceL spanK itemL dropBlank listL items blockB allB kindOf unquote unitem inner define parse joinLF)
open Ln (run trim)
open Kd (E0)
theorem fence_suf (n:Nat):∀l:List Tx,(fenceL n l).2 <:+ l
 |[]=>by simp[fenceL]
 |s::l=>by
  unfold fenceL;split
  ·exact List.suffix_cons _ _
  ·exact(fence_suf n l).trans (List.suffix_cons _ _)
theorem span_suf (E:Env) (k:Nat):∀l:List Tx,(spanK E k l).2 <:+ l
 |[]=>by simp[spanK]
 |s::l=>by
  unfold spanK;split
  ·exact(span_suf E k l).trans (List.suffix_cons _ _)
  ·exact List.suffix_refl _
theorem item_suf (E:Env):∀l:List Tx,(itemL E l).2 <:+ l
 |[]=>by simp[itemL]
 |s::l=>by
  unfold itemL;split
  ·exact List.suffix_refl _
  ·split
   ·exact List.suffix_refl _
   ·exact(item_suf E l).trans (List.suffix_cons _ _)
theorem blank_suf (E:Env):∀l:List Tx,dropBlank E l <:+ l
 |[]=>by simp[dropBlank]
 |s::l=>by
  unfold dropBlank;split
  ·exact(blank_suf E l).trans (List.suffix_cons _ _)
  ·exact List.suffix_refl _
theorem list_suf (E:Env):∀(f:Nat) (l:List Tx),(listL E f l).2 <:+ l
 |0,l=>by simp[listL]
 |f+1,[]=>by simp[listL]
 |f+1,s::l=>by
  unfold listL;have h1:(itemL E l).2 <:+ s::l:=(item_suf E l).trans (List.suffix_cons _ _);have h2:dropBlank E (itemL E l).2 <:+ s::l:=(blank_suf E _).trans h1;simp only;split
  ·exact h1
  ·rename_i t r he
   rw[he]at h2;split
   ·exact(list_suf E f (t::r)).trans h2
   ·exact h1
theorem suf_drop {r l:List Tx} (h:r <:+ l):l.drop (l.length-r.length)=r:=by
 obtain⟨p,rfl⟩:=h;rw[List.length_append,Nat.add_sub_cancel];exact List.drop_left
theorem span_len (E:Env) (k:Nat):∀l:List Tx,(spanK E k l).1.length+(spanK E k l).2.length=l.length
 |[]=>by simp[spanK]
 |s::l=>by
  unfold spanK;split
  ·have:=span_len E k l
   simp only[List.length_cons];omega
  ·simp
theorem span_fst (E:Env) (k:Nat) (l:List Tx):(spanK E k l).1=l.take (l.length-(spanK E k l).2.length):=by
 induction l with
 |nil=>simp[spanK]
 |cons s l ih=>
  unfold spanK;split
  ·have:=span_len E k l
   simp only[List.length_cons];rw[show l.length+1-(spanK E k l).2.length=(l.length-(spanK E k l).2.length)+1 by omega,List.take_succ_cons,←ih]
  ·simp
theorem item_len (E:Env):∀l:List Tx,(itemL E l).1.length≤l.length
 |[]=>by simp[itemL]
 |s::l=>by
  unfold itemL;split
  ·simp
  ·split
   ·simp
   ·simpa using item_len E l
theorem list_len (E:Env):∀(f:Nat) (l:List Tx),∀x∈(listL E f l).1,x.length≤l.length
 |0,l,x,hx=>by simp[listL]at hx
 |f+1,[],x,hx=>by simp[listL]at hx
 |f+1,s::l,x,hx=>by
  have h0:=item_len E l;have h2:=((blank_suf E (itemL E l).2).trans (item_suf E l)).length_le;unfold listL at hx;simp only at hx;split at hx
  ·rw[List.mem_singleton]at hx
   subst hx;simp only[List.length_cons];omega
  ·rename_i t r he
   rw[he]at h2;split at hx
   ·rcases List.mem_cons.1 hx with rfl |hx
    ·simp only[List.length_cons];omega
    ·have:=list_len E f (t::r) x hx
     simp only[List.length_cons]at this h2 ⊢;omega
   ·rw[List.mem_singleton]at hx
    subst hx;simp only[List.length_cons];omega
theorem list_more (E:Env):∀(f f':Nat) (l:List Tx),l.length≤f→l.length≤f'→listL E f l=listL E f' l
 |0,0,l,_,_=>rfl
 |0,f'+1,[],_,_=>rfl
 |f+1,0,[],_,_=>rfl
 |f+1,f'+1,[],_,_=>rfl
 |0,f'+1,s::l,h,_=>absurd h (by simp)
 |f+1,0,s::l,_,h=>absurd h (by simp)
 |f+1,f'+1,s::l,h,h'=>by
  have h2:=((blank_suf E (itemL E l).2).trans (item_suf E l)).length_le;unfold listL;simp only;split
  ·rfl
  ·rename_i t r he
   rw[he]at h2;simp only[List.length_cons]at h h';split
   ·rw[list_more E f f' (t::r) (by omega) (by omega)]
   ·rfl
def restB (s:Tx) (l:List Tx):List Tx:=
 if kindOf E0 s=4 then(fenceL (run 96 s) l).2
 else if kindOf E0 s=5 then(spanK E0 5 (s::l)).2
 else if kindOf E0 s=6 then(listL E0 (l.length+1) (s::l)).2
 else if kindOf E0 s=8 then(spanK E0 8 (s::l)).2
 else l
theorem kind_le (E:Env) (s:Tx):1≤kindOf E s∧kindOf E s≤8:=by
 unfold kindOf
 repeat' split
 all_goals omega
def valB (rec:Nat→List Tx→Option (List Bk)) (deep:Nat) (s:Tx) (l:List Tx):Option Bk:=
 if kindOf E0 s=2 then some (.mk 2 (run 35 s) [] [] (parse (trim (s.drop (run 35 s)))) [])
 else if kindOf E0 s=3 then some (.mk 3 0 [] [] [] [])
 else if kindOf E0 s=4 then some (.mk 4 0 (trim (s.drop (run 96 s))) (fenceL (run 96 s) l).1 [] [])
 else if kindOf E0 s=5 then(rec (deep+1) ((spanK E0 5 (s::l)).1.map unquote)).map fun k=>.mk 5 0 [] [] [] k
 else if kindOf E0 s=6 then(items (rec (deep+2)) (listL E0 (l.length+1) (s::l)).1).map fun k=>.mk 6 0 [] [] [] k
 else if kindOf E0 s=7 then(define E0 s).map fun p=>.mk 8 0 p.1 [p.2] [] []
 else some (.mk 1 0 [] [] (parse (joinLF ((spanK E0 8 (s::l)).1.map trim))) [])
theorem block_val (rec:Nat→List Tx→Option (List Bk)) (deep:Nat) (s:Tx) (l:List Tx) (h1:kindOf E0 s≠1):blockB E0 rec deep s l=(valB rec deep s l).map (fun b=>(b,restB s l)):=by
 have hk:=kind_le E0 s;unfold blockB valB restB;by_cases h2:kindOf E0 s=2
 ·simp[h2]
 by_cases h3:kindOf E0 s=3
 ·simp[h3]
 by_cases h4:kindOf E0 s=4
 ·simp[h4]
 by_cases h5:kindOf E0 s=5
 ·simp only[h5]
  cases rec (deep+1) ((spanK E0 5 (s::l)).1.map unquote)<;>simp
 by_cases h6:kindOf E0 s=6
 ·simp only[h6]
  cases items (rec (deep+2)) (listL E0 (l.length+1) (s::l)).1<;>simp
 by_cases h7:kindOf E0 s=7
 ·simp only[h7]
  cases define E0 s<;>simp
 have h8:kindOf E0 s=8:=by omega
 simp[h8]
theorem rest_suf (s:Tx) (l:List Tx):restB s l <:+ l:=by
 have hsp:∀k,kindOf E0 s=k→(spanK E0 k (s::l)).2 <:+ l:=fun k hk=>by
  rw[spanK,if_pos hk];exact span_suf E0 k l
 have hli:(listL E0 (l.length+1) (s::l)).2 <:+ l:=by
  unfold listL;simp only;have h1:(itemL E0 l).2 <:+ l:=item_suf E0 l;have h2:dropBlank E0 (itemL E0 l).2 <:+ l:=(blank_suf E0 _).trans h1;split
  ·exact h1
  ·rename_i t r he
   rw[he]at h2;split
   ·exact(list_suf E0 l.length (t::r)).trans h2
   ·exact h1
 unfold restB;split
 ·exact fence_suf _ l
 split
 ·rename_i h;exact hsp 5 h
 split
 ·exact hli
 split
 ·rename_i h;exact hsp 8 h
 ·exact List.suffix_refl _
theorem items_congr {rec rec':List Tx→Option (List Bk)}:∀xs:List (List Tx),(∀x∈xs,rec x=rec' x)→items rec xs=items rec' xs
 |[],_=>rfl
 |x::r,h=>by
  unfold items;rw[h x (List.mem_cons_self ..),items_congr r (fun y hy=>h y (List.mem_cons_of_mem _ hy))]
theorem val_congr {rec rec':Nat→List Tx→Option (List Bk)} (deep:Nat) (s:Tx) (l:List Tx) (h:∀d x,deep<d→d≤deep+2→x.length≤l.length+1→rec d x=rec' d x):valB rec deep s l=valB rec' deep s l:=by
 have h5:rec (deep+1) ((spanK E0 5 (s::l)).1.map unquote)=rec' (deep+1) ((spanK E0 5 (s::l)).1.map unquote):=h _ _ (by omega) (by omega) (by
  have:=span_len E0 5 (s::l);rw[List.length_map];simp only[List.length_cons]at this;omega)
 have h6:items (rec (deep+2)) (listL E0 (l.length+1) (s::l)).1=items (rec' (deep+2)) (listL E0 (l.length+1) (s::l)).1:=items_congr _ (fun x hx=>h _ _ (by omega) (by omega) (by
  have:=list_len E0 _ _ x hx
  simpa using this))
 unfold valB;rw[h5,h6]
theorem all_more:∀(f f' deep:Nat) (l:List Tx),l.length+(17-deep)+1≤f→l.length+(17-deep)+1≤f'→allB E0 f deep l=allB E0 f' deep l
 |0,_,_,_,h,_=>absurd h (by omega)
 |_+1,0,_,_,_,h=>absurd h (by omega)
 |f+1,f'+1,deep,l,h,h'=>by
  unfold allB;split
  ·rfl
  ·rename_i hd
   cases l with
   |nil=>rfl
   |cons s l=>
    simp only[List.length_cons]at h h';simp only;split
    ·exact all_more f f' deep l (by omega) (by omega)
    ·rename_i hk
     rw[block_val _ _ _ _ hk,block_val _ _ _ _ hk,val_congr deep s l (rec:=allB E0 f) (rec':=allB E0 f') (fun d x h1 h2 h3=>all_more f f' d x (by omega) (by omega))];cases valB (allB E0 f') deep s l with
     |none=>rfl
     |some b=>
      simp only[Option.map_some];rw[all_more f f' deep (restB s l) (by have:=(rest_suf s l).length_le;omega) (by have:=(rest_suf s l).length_le;omega)]
def allE (deep:Nat) (l:List Tx):Option (List Bk):=allB E0 (l.length+18) deep l
theorem allE_of {f deep:Nat} {l:List Tx} (h:l.length+(17-deep)+1≤f):allB E0 f deep l=allE deep l:=all_more _ _ _ _ h (by omega)
theorem allE_deep {deep:Nat} (h:16<deep) (l:List Tx):allE deep l=none:=by
 unfold allE;unfold allB;rw[if_pos h]
theorem allE_nil {deep:Nat} (h:deep≤16):allE deep []=some []:=by
 unfold allE;unfold allB;rw[if_neg (by omega)]
theorem allE_blank {deep:Nat} {s:Tx} {l:List Tx} (h:kindOf E0 s=1):allE deep (s::l)=allE deep l:=by
 by_cases hd:16<deep
 ·rw[allE_deep hd,allE_deep hd]
 ·unfold allE
  rw[List.length_cons,show l.length+1+18=(l.length+18)+1 by omega,allB,if_neg hd,if_pos h]
theorem allE_block {deep:Nat} {s:Tx} {l:List Tx} (hd:deep≤16) (h:kindOf E0 s≠1):allE deep (s::l)=match valB allE deep s l with |none=>none |some b=>(allE deep (restB s l)).map (b::·):=by
 have hr:=(rest_suf s l).length_le;have e:allE deep (s::l)=allB E0 ((l.length+18)+1) deep (s::l):=(allE_of (by simp only[List.length_cons];omega)).symm;rw[e,allB,if_neg (by omega),if_neg h,block_val _ _ _ _ h,val_congr deep s l (rec:=allB E0 (l.length+18)) (rec':=allE) (fun d x h1 h2 h3=>allE_of (by omega))];cases valB allE deep s l with
 |none=>rfl
 |some b=>
  simp only[Option.map_some];rw[allE_of (by omega)]
def tot:List Tx→Nat
 |[]=>0
 |s::l=>1+s.length+tot l
theorem tot_len:∀l:List Tx,l.length≤tot l
 |[]=>Nat.le_refl _
 |s::l=>by have:=tot_len l;simp only[tot,List.length_cons];omega
theorem tot_app:∀a b:List Tx,tot (a++b)=tot a+tot b
 |[],b=>by simp[tot]
 |s::a,b=>by rw[List.cons_append,tot,tot_app a b,tot];omega
theorem tot_mem:∀(l:List Tx) (s:Tx),s∈l→1+s.length≤tot l
 |[],_,h=>by cases h
 |x::l,s,h=>by
  rcases List.mem_cons.1 h with rfl |h
  ·rw[tot];omega
  ·have:=tot_mem l s h;rw[tot];omega
theorem tot_suf {r l:List Tx} (h:r <:+ l):tot r≤tot l:=by
 obtain⟨p,rfl⟩:=h;rw[tot_app];omega
theorem tot_drop (l:List Tx) (i:Nat):tot (l.drop i)≤tot l:=tot_suf (List.drop_suffix i l)
theorem tot_map (f:Tx→Tx) (h:∀s,(f s).length≤s.length):∀l:List Tx,tot (l.map f)≤tot l
 |[]=>Nat.le_refl _
 |s::l=>by have:=tot_map f h l;have:=h s;simp only[List.map_cons,tot];omega
theorem unq_len (s:Tx):(unquote s).length≤s.length:=by
 unfold unquote;split<;>simp
theorem inner_len {s x:Tx} (h:inner s=some x):x.length≤s.length:=by
 unfold inner at h;split at h
 ·injection h with h;subst h;simp
 ·split at h
  ·injection h with h;subst h;simp
  ·cases h
theorem item_tot:∀l:List Tx,tot (itemL E0 l).1+tot (itemL E0 l).2≤tot l
 |[]=>by simp[itemL,tot]
 |s::l=>by
  unfold itemL;split
  ·simp[tot]
  ·rename_i x hx
   split
   ·simp[tot]
   ·have:=item_tot l
    have:=inner_len hx;simp only[tot];omega
theorem list_tot:∀(f:Nat) (l:List Tx),∀x∈(listL E0 f l).1,tot x≤tot l
 |0,l,x,hx=>by simp[listL]at hx
 |f+1,[],x,hx=>by simp[listL]at hx
 |f+1,s::l,x,hx=>by
  have h0:=item_tot l;have h2:=tot_suf ((blank_suf E0 (itemL E0 l).2).trans (item_suf E0 l));have hu:(unitem s).length≤s.length:=by unfold unitem;simp
  unfold listL at hx;simp only at hx;split at hx
  ·rw[List.mem_singleton]at hx
   subst hx;simp only[tot];omega
  ·rename_i t r he
   rw[he]at h2;split at hx
   ·rcases List.mem_cons.1 hx with rfl |hx
    ·simp only[tot];omega
    ·have:=list_tot f (t::r) x hx
     simp only[tot]at this h2 ⊢;omega
   ·rw[List.mem_singleton]at hx
    subst hx;simp only[tot];omega
theorem strip_len (l:Tx):(Ln.strip l).length≤l.length:=by
 unfold Ln.strip;split
 ·simp
 ·exact Nat.le_refl _
theorem split_tot:∀(r cur:Tx),tot (Ln.ls cur r).1≤cur.length+r.length+1
 |[],cur=>by
  unfold Ln.ls;split
  ·simp[tot]
  ·simp only[tot,List.length_nil];omega
 |b::r,cur=>by
  have h1:=split_tot r [];have h2:=split_tot r (cur++[b]);have h3:=strip_len cur;unfold Ln.ls;split
  ·simp only[tot,List.length_cons,List.length_nil]at h1 ⊢;omega
  ·split
   ·simp only[tot,List.length_cons,List.length_nil]at h1 ⊢;omega
   ·simp only[List.length_append,List.length_cons,List.length_nil]at h2 ⊢;omega
end Pa
end Go.Proofs.YtpakjdgddomdjabGreatDoor
