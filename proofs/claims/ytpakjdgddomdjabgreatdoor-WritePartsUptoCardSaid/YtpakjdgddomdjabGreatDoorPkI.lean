import Derived.Test.YtpakjdgddomdjabGreatDoorPkE
import Derived.Test.YtpakjdgddomdjabGreatDoorPkD
import Derived.Test.YtpakjdgddomdjabGreatDoorShelf
import Derived.Test.YtpakjdgddomdjabGreatDoorPkF
import Derived.Lib.IndexAny
set_option linter.unusedVariables false
namespace Go.Proofs.YtpakjdgddomdjabGreatDoor
namespace Sp
open Go.RowKit
open Tk (S)
open Cm (alloc_new cell_at)
structure Sink (kf:Nat) (pv:Value) (B N:Nat) (I:List UInt8→World→Prop):Prop where
 enters:∀args w,(callFunc kf args).run Tryz.prog w=.ok (.enter kf args) w
 alloc:∀p w o,I p w→I p (w.alloc o)
 call:∀p s w,I p w→B≤w.heap.size→p.length+s.length≤N→Calls Tryz.prog kf #[.string (S s),pv] w fun e w'=>e=.returned (.tuple #[])∧Below B w w'∧I (p++s) w'∧∀(k:Nat) (c:Array Value),w.heap[k]? = some (Obj.cells c 71 (0,0))→w'.heap[k]? = some (Obj.cells c 71 (0,0))
def ReadAns (w0:World) (I:List UInt8→World→Prop) (p:List UInt8) (e:Ending) (w':World):Prop:=e=.returned (.tuple #[])∧Below w0.heap.size w0 w'∧I p w'
set_option maxHeartbeats 6400000 in
set_option maxRecDepth 100000 in
theorem read_any (kf:Nat) (pv:Value) (N:Nat) (I:List UInt8→World→Prop) (w0:World) (K:Sink kf pv w0.heap.size N I) (m:Nat):∀(l:List Sp) (v:Value) (w:World) (p:List UInt8),totAll l≤m→Tr w0 v l→Below w0.heap.size w0 w→I p w→p.length+(plAll l).length≤N→
  Calls Tryz.prog 157 #[v,.func (.func kf) #[] #[pv]] w (ReadAns w0 I (p++plAll l)):=by
 induction m using Nat.strongRecOn with
 |ind m ih=>
  intro l v w p hm ht hbw hi hN;have T:=Lib.hid ht;obtain⟨ao,ca,rfl⟩:=ht.len;have hlen:=ht.short;have e1f:=K.enters;have HK:=Lib.hid K
  have HIH:Hid (∀k (hk:k<l.length) (v':Value) (w':World) (q:List UInt8),Tr w0 v' l[k].kids→Below w0.heap.size w0 w'→I q w'→q.length+(plAll l[k].kids).length≤N→Calls Tryz.prog 157 #[v',.func (.func kf) #[] #[pv]] w' (ReadAns w0 I (q++plAll l[k].kids))):=Lib.hid (fun k hk v' w' q t b i n=>
   ih (totAll l[k].kids) (Nat.lt_of_lt_of_le (totAll_kids (List.getElem_mem hk)) hm) l[k].kids v' w' q (Nat.le_refl _) t b i n)
  have H0:Hid (p++plAll l=p++plAll (l.drop 0)):=Lib.hid (by rw[List.drop_zero]);have HN0:Hid ((p++plAll l).length≤N):=Lib.hid (by rw[List.length_append];exact hN);obtain⟨X,hX⟩:∃X,p++plAll l=X:=⟨_,rfl⟩;rw[hX]at H0 HN0;rw[hX];have HB0:=Lib.hid hbw;have HI0:=Lib.hid hi;clear ih ht hm hX hbw hi hN K;go_enter Tryz.func157,Tryz.ntmps157;go_wp2_with fail;go_loopw [8] (fun i wr=>∃(k:Nat) (q:List UInt8),k≤l.length∧i=.int .i64 k∧Hid (Below w0.heap.size w0 wr)∧Hid (I q wr)∧Hid (X=q++plAll (l.drop k))) (fun i _=>l.length-(intOf i).toNat)
  case atStart=>exact⟨0,p,Nat.zero_le _,rfl,HB0,HI0,H0⟩
  case round=>
   clear H0 HB0 HI0;obtain⟨k,q,hk,rfl,HB,HI,HN⟩:=hrel;by_cases hlt:k<l.length
   ·have hnx:=HN.out
    rw[drop_cons l k hlt,plAll_cons,plOne_eq]at hnx;have hi1:(k:Int)<(l.length:Int):=by omega
    obtain⟨b,o,ak,ck,rfl,hb,hC⟩:=T.out.at k hlt;have c0:=(HB.out.cell (p:=⟨b,o+k*3,none⟩) hb).trans hC.kind;have c1:=(HB.out.cell (p:=⟨b,o+k*3+1,none⟩) hb).trans hC.s;have c2:=(HB.out.cell (p:=⟨b,o+k*3+2,none⟩) hb).trans hC.kids;have HC:=Lib.hid (fun w' q'=>HIH.out k hlt _ w' q' hC.tr);have HQ:=Lib.hid hnx;have hall:=congrArg List.length hnx;have hxn:=HN0.out;simp only[List.length_append]at hall;clear hnx HN hC;generalize l[k].kids.length=kn at *;generalize plAll l[k].kids=y at *;generalize l[k].kind=z at *;generalize l[k].s=s at *;have B1:Below w0.heap.size w0 (wr.alloc (.cells #[.int .i64 z,.string (S s),.slice ak kn ck] 71)):=HB.out.alloc HB.out.size _;have HB1:=Lib.hid B1;have HI1:=Lib.hid (HK.out.alloc q wr (.cells #[.int .i64 z,.string (S s),.slice ak kn ck] 71) HI.out);have HA:=Lib.hid (alloc_new wr (.cells #[.int .i64 z,.string (S s),.slice ak kn ck] 71));clear B1 HB HI;by_cases hz:z=1∨z=2
    ·rw[if_pos hz]at hall
     have HQ2:Hid (X=((q++s)++y)++plAll (l.drop (k+1))):=Lib.hid (by rw[HQ.out,if_pos hz];simp);have HW:=Lib.hid (HK.out.call q s _ HI1.out HB1.out.size (by omega));have hlen2:(q++s).length+y.length≤N:=by rw[List.length_append];omega
     clear HQ hall hxn;go_upto_region 3 with fail;generalize wr.alloc (.cells #[.int .i64 z,.string (S s),.slice ak kn ck] 71)=w1 at *;have a0:w1.cell? ⟨wr.heap.size,0,none⟩=some (.int .i64 z):=cell_at HA.out 0;have a1:w1.cell? ⟨wr.heap.size,1,none⟩=some (.string (S s)):=cell_at HA.out 1;have a2:w1.cell? ⟨wr.heap.size,2,none⟩=some (.slice ak kn ck):=cell_at HA.out 2;rcases hz with hz |hz
     ·have e1:(z==1)=true:=by rw[hz];rfl
      clear hz;go_wp2_with fail;refine HW.out.mono ?_;rintro e w2 ⟨rfl,hb2,hi2,hk2⟩;have n2:w2.cell? ⟨wr.heap.size,2,none⟩=some (.slice ak kn ck):=cell_at (hk2 _ _ HA.out) 2;have HB2:=Lib.hid (HB1.out.trans hb2);have HC1:=Lib.hid (HC.out w2 (q++s) HB2.out hi2 hlen2);clear hb2 hi2 hk2 HW HC;go_wp2_with fail;refine HC1.out.mono ?_;rintro e w3 ⟨rfl,hb3,hi3⟩;have HB3:=Lib.hid hb3;have HI3:=Lib.hid hi3;clear hb3 hi3 HC1;go_wp2_with fail;go_roundw
      case rel=>exact⟨k+1,(q++s)++y,by omega,by go_num,HB3,HI3,HQ2⟩
      case measure=>simp[intOf]<;>omega
     ·have e1:(z==1)=false:=by rw[hz];rfl
      have e2:(z==2)=true:=by rw[hz];rfl
      clear hz;go_wp2_with fail;refine HW.out.mono ?_;rintro e w2 ⟨rfl,hb2,hi2,hk2⟩;have n2:w2.cell? ⟨wr.heap.size,2,none⟩=some (.slice ak kn ck):=cell_at (hk2 _ _ HA.out) 2;have HB2:=Lib.hid (HB1.out.trans hb2);have HC1:=Lib.hid (HC.out w2 (q++s) HB2.out hi2 hlen2);clear hb2 hi2 hk2 HW HC;go_wp2_with fail;refine HC1.out.mono ?_;rintro e w3 ⟨rfl,hb3,hi3⟩;have HB3:=Lib.hid hb3;have HI3:=Lib.hid hi3;clear hb3 hi3 HC1;go_wp2_with fail;go_roundw
      case rel=>exact⟨k+1,(q++s)++y,by omega,by go_num,HB3,HI3,HQ2⟩
      case measure=>simp[intOf]<;>omega
    ·rw[if_neg hz]at hall
     have HQ2:Hid (X=(q++y)++plAll (l.drop (k+1))):=Lib.hid (by rw[HQ.out,if_neg hz];simp);have e1:(z==1)=false:=by rw[beq_eq_false_iff_ne];omega
     have e2:(z==2)=false:=by rw[beq_eq_false_iff_ne];omega
     have HC1:=Lib.hid (HC.out _ q HB1.out HI1.out (by omega));clear HQ hall hxn hz HC;go_upto_region 3 with fail;generalize wr.alloc (.cells #[.int .i64 z,.string (S s),.slice ak kn ck] 71)=w1 at *;have a0:w1.cell? ⟨wr.heap.size,0,none⟩=some (.int .i64 z):=cell_at HA.out 0;have a1:w1.cell? ⟨wr.heap.size,1,none⟩=some (.string (S s)):=cell_at HA.out 1;have a2:w1.cell? ⟨wr.heap.size,2,none⟩=some (.slice ak kn ck):=cell_at HA.out 2;go_wp2_with fail;refine HC1.out.mono ?_;rintro e w2 ⟨rfl,hb2,hi2⟩;have HB2:=Lib.hid hb2;have HI2:=Lib.hid hi2;clear hb2 hi2 HC1;go_wp2_with fail;go_roundw
     case rel=>exact⟨k+1,q++y,by omega,by go_num,HB2,HI2,HQ2⟩
     case measure=>simp[intOf]<;>omega
   ·obtain rfl:k=l.length:=by omega
    have hnx:=HN.out;rw[List.drop_length]at hnx;have HR:Hid (X=q):=Lib.hid (by rw[hnx];unfold plAll;simp);clear hnx HN hlt;go_wp2_with fail;go_end0;exact⟨rfl,HB.out,by rw[HR.out];exact HI.out⟩
end Sp
namespace Sp
open Go.RowKit
open Tk (ret_int eq8 ne8 at_data len_data)
theorem ticks_yes {b:UInt8} {r:List UInt8} (h:b=96):ticks (b::r)=ticks r+1:=if_pos h
theorem ticks_no {b:UInt8} {r:List UInt8} (h:¬b=96):ticks (b::r)=0:=if_neg h
theorem lrun_any (s:ByteArray) (hs:s.size≤9223372036854775806) (w:World):
  Calls Tryz.prog 74 #[.string s,.int .u8 96] w fun e w'=>e=.returned (.int .i64 (ticks s.data.toList))∧w=w':=by
 have H0:=Lib.hid (show ticks s.data.toList=0+ticks (s.data.toList.drop 0)by simp);go_enter Tryz.func74,Tryz.ntmps74;go_wp2_with fail;go_loop [8] (fun i=>∃k:Nat,k≤s.size∧i=.int .i64 k∧ticks s.data.toList=k+ticks (s.data.toList.drop k)) (fun i=>s.size-(intOf i).toNat)
 case atStart=>exact⟨0,Nat.zero_le _,rfl,H0.out⟩
 case round=>
  clear H0;obtain⟨k,hk,rfl,hr⟩:=hrel;by_cases hlt:k<s.size
  ·rw[at_data s k hlt]at hr
   by_cases hc:s[k]=96
   ·rw[ticks_yes hc]at hr
    have e1:((s[k].toNat:Int)==96)=true:=eq8 (b:=96) hc;have Hr:=Lib.hid hr;clear hr hc;go_wp2_with fail;go_round
    case rel=>exact⟨k+1,by omega,by go_num,by rw[Hr.out];omega⟩
    case measure=>simp[intOf];omega
   ·rw[ticks_no hc]at hr
    have e1:((s[k].toNat:Int)==96)=false:=ne8 (b:=96) hc;have Hr:=Lib.hid hr;clear hr hc;go_wp2_with fail;go_ret;exact⟨ret_int (by rw[Hr.out];omega),rfl⟩
  ·rw[drop_all s k hlt]at hr
   have Hr:=Lib.hid (show ticks s.data.toList=s.size by rw[hr];show k+0=_;omega);clear hr;go_wp2_with fail;go_ret;exact⟨ret_int (by rw[Hr.out]),rfl⟩
theorem slice_fromS (x:ByteArray) (m:Nat) (h1:m≤x.size) (hx:x.size≤140737488355328) (w:World):
  (Instr.slice 9 (.string x) (some (.int .i64 (m:Int))) none none).run Tryz.prog w=.ok (.string (x.extract m x.size)) w:=by
 have h4:(m:Int)≤(x.size:Int):=by omega
 have h5:0≤(m:Int):=by omega
 go_simp
theorem ext_from (s:ByteArray) (k:Nat):(s.extract k s.size).data.toList=s.data.toList.drop k:=by
 rw[ext_list];exact List.take_of_length_le (by rw[List.length_drop,len_data];exact Nat.le_refl _)
theorem ticksP_any (s:ByteArray) (at':Int) (hs:s.size≤140737488355328) (h0:-9223372036854775808≤at') (ha:at'≤9223372036854775807) (w:World):
  Calls Tryz.prog 198 #[.string s,.int .i64 at'] w fun e w'=>e=.returned (.int .i64 (ticksAt s.data.toList at':Nat))∧w=w':=by
 by_cases h1:at'<0
 ·have HR:Hid (ticksAt s.data.toList at'=0):=Lib.hid (by unfold ticksAt;rw[if_pos h1])
  rw[HR.out];have e1:decide (at'<0)=true:=decide_eq_true h1;go_enter Tryz.func198,Tryz.ntmps198;go_wp2_with fail;go_ret;exact⟨rfl,rfl⟩
 ·obtain⟨k,rfl⟩:∃k:Nat,at'=k:=⟨at'.toNat,by omega⟩
  have e0:ticksAt s.data.toList (k:Int)=ticks (s.data.toList.drop k):=by unfold ticksAt;rw[if_neg h1];simp
  rw[e0];by_cases h2:k<s.size
  ·have hr:=lrun_any (s.extract k s.size) (by simp;omega) w
   rw[ext_from]at hr;have HR:=Lib.hid hr;have e3:¬(s.size:Int)≤(k:Int):=by omega
   clear hr e0;generalize ticks (s.data.toList.drop k)=n at *;go_enter Tryz.func198,Tryz.ntmps198;go_wp2_with fail;refine HR.out.mono ?_;rintro e w' ⟨rfl,rfl⟩;go_wp2_with fail;go_ret;exact⟨rfl,rfl⟩
  ·have HR:Hid (ticks (s.data.toList.drop k)=0):=Lib.hid (by rw[drop_all s k h2];rfl)
   rw[HR.out];have e3:(s.size:Int)≤(k:Int):=by omega
   go_enter Tryz.func198,Tryz.ntmps198;go_wp2_with fail;go_ret;exact⟨rfl,rfl⟩
def oneS (c:UInt8):ByteArray:=⟨#[c]⟩
theorem one_list (c:UInt8):(oneS c).toList=[c]:=by rw[Lib.toList_data];rfl
theorem beq_one (s:ByteArray) (c:UInt8):(s.toList==(oneS c).toList)=decide (s.data.toList=[c]):=by
 rw[one_list,Lib.toList_data,Bool.eq_iff_iff,beq_iff_eq,decide_eq_true_iff]
theorem prefix0_any (s:ByteArray) (c:UInt8) (hs:s.size≤140737488355328) (w:World):
  Calls Tryz.prog 111 #[.string s,.string (oneS c)] w fun e w'=>e=.returned (.bool (decide (s.data.toList.head? = some c)))∧w=w':=by
 have hz:(oneS c).size=1:=rfl;by_cases h1:1≤s.size
 ·have e1:=beq_one (s.extract 0 1) c
  have e2:decide ((s.extract 0 1).data.toList=[c])=decide (s.data.toList.head? = some c):=by
   have:=at_data s 0 h1;rw[List.drop_zero]at this;rw[ext_list,List.drop_zero,this];simp
  rw[e2]at e1;generalize decide (s.data.toList.head? = some c)=B at *;have g1:(1:Int)≤(s.size:Int):=by omega
  generalize oneS c=p at *;go_enter Tryz.func111,Tryz.ntmps111;go_wp2_with fail;go_ret;exact⟨by first |rfl |rw[e1],rfl⟩
 ·have HR:Hid (decide (s.data.toList.head? = some c)=false):=Lib.hid (by
   have:=drop_all s 0 (by omega);rw[List.drop_zero]at this;rw[this];rfl)
  rw[HR.out];have g1:¬(1:Int)≤(s.size:Int):=by omega
  generalize oneS c=p at *;go_enter Tryz.func111,Tryz.ntmps111;go_wp2_with fail;go_ret;exact⟨rfl,rfl⟩
theorem prefix_any (s:ByteArray) (c:UInt8) (hs:s.size≤140737488355328) (w:World):
  Calls Tryz.prog 77 #[.string s,.string (oneS c)] w fun e w'=>e=.returned (.bool (decide (s.data.toList.head? = some c)))∧w=w':=by
 have H:=Lib.hid (prefix0_any s c hs w);generalize decide (s.data.toList.head? = some c)=B at *;generalize oneS c=p at *;go_enter Tryz.func77,Tryz.ntmps77;go_wp2_with fail;refine H.out.mono ?_;rintro e w' ⟨rfl,rfl⟩;go_wp2_with fail;go_ret;exact⟨rfl,rfl⟩
theorem suffix0_any (s:ByteArray) (c:UInt8) (hs:s.size≤140737488355328) (w:World):
  Calls Tryz.prog 233 #[.string s,.string (oneS c)] w fun e w'=>e=.returned (.bool (decide (s.data.toList.getLast? = some c)))∧w=w':=by
 have hz:(oneS c).size=1:=rfl;by_cases h1:1≤s.size
 ·have e1:=beq_one (s.extract (s.size-1) s.size) c
  have e2:decide ((s.extract (s.size-1) s.size).data.toList=[c])=decide (s.data.toList.getLast? = some c):=by
   rw[last_data s (by omega),ext_from,at_data s (s.size-1) (by omega),drop_all s (s.size-1+1) (by omega)];simp
  rw[e2]at e1;generalize decide (s.data.toList.getLast? = some c)=B at *;have g1:(1:Int)≤(s.size:Int):=by omega
  have g2:(s.size:Int)-1=((s.size-1:Nat):Int):=by omega
  have hsl:=fun w=>slice_fromS s (s.size-1) (by omega) hs w
  rw[←g2]at hsl;generalize oneS c=p at *;go_enter Tryz.func233,Tryz.ntmps233;go_wp2_with fail;go_ret;exact⟨by first |rfl |rw[e1],rfl⟩
 ·have HR:Hid (decide (s.data.toList.getLast? = some c)=false):=Lib.hid (by
   have:=drop_all s 0 (by omega);rw[List.drop_zero]at this;rw[this];rfl)
  rw[HR.out];have g1:¬(1:Int)≤(s.size:Int):=by omega
  generalize oneS c=p at *;go_enter Tryz.func233,Tryz.ntmps233;go_wp2_with fail;go_ret;exact⟨rfl,rfl⟩
theorem suffix_any (s:ByteArray) (c:UInt8) (hs:s.size≤140737488355328) (w:World):
  Calls Tryz.prog 220 #[.string s,.string (oneS c)] w fun e w'=>e=.returned (.bool (decide (s.data.toList.getLast? = some c)))∧w=w':=by
 have H:=Lib.hid (suffix0_any s c hs w);generalize decide (s.data.toList.getLast? = some c)=B at *;generalize oneS c=p at *;go_enter Tryz.func220,Tryz.ntmps220;go_wp2_with fail;refine H.out.mono ?_;rintro e w' ⟨rfl,rfl⟩;go_wp2_with fail;go_ret;exact⟨rfl,rfl⟩
end Sp
namespace Sp
open Go.RowKit
open Utf (chk goesAt goesAt_end goesAt_step nxt nx bt bt_eq ln zeroB)
theorem nxt_ascii (t:ByteArray) (k:Nat) (h:k<t.size) (hb:t[k].toNat≤127):(nxt t k).2=1:=by
 have h0:bt t (k+0)≤127:=by rw[Nat.add_zero,bt_eq t k h];exact hb
 have hl:ln (bt t (k+0))=1:=by unfold ln;rw[if_pos h0]
 unfold nxt nx;simp only[];rw[hl];rw[if_neg (by omega),if_pos ⟨rfl,rfl⟩]
theorem goes_ascii (t:ByteArray) (h:∀k (hk:k<t.size),t[k].toNat≤127):∀n k,t.size-k≤n→goesAt t k=true
 |0,k,hn=>goesAt_end t k (by omega)
 |n+1,k,hn=>by
  by_cases hk:k<t.size
  ·have h1:=nxt_ascii t k hk (h k hk)
   have h2:=goesAt_step t k hk (by omega);rw[h1]at h2;rw[←h2];exact goes_ascii t h n (k+1) (by omega)
  ·exact goesAt_end t k (by omega)
theorem chk_ascii (t:ByteArray) (hs:t.size≤1048576) (h:∀k (hk:k<t.size),1≤t[k].toNat∧t[k].toNat≤127):chk t=0:=by
 have hz:zeroB t=false:=by
  unfold zeroB;apply decide_eq_false;intro hm;obtain⟨i,hi,he⟩:=List.getElem_of_mem hm;have hi':i<t.size:=by simpa using hi
  have e1:t.data.toList[i]=t[i]:=rfl;have:=(h i hi').1;rw[←e1,he]at this;simp at this
 unfold chk;rw[if_neg (by omega),hz,goes_ascii t (fun k hk=>(h k hk).2) t.size 0 (by omega)];rfl
theorem dc_range {c:UInt8} (h:dcB c=true):1≤c.toNat∧c.toNat≤127:=by
 unfold dcB at h;rw[Bool.or_eq_true]at h;rcases h with h |h
 ·unfold alB at h
  simp only[Bool.or_eq_true,Bool.and_eq_true,decide_eq_true_eq]at h;omega
 ·simp only[marksL,List.any_cons,List.any_nil,Bool.or_eq_true,decide_eq_true_eq,Bool.or_false]at h
  rcases h with rfl |rfl |rfl |rfl |rfl |rfl |rfl |rfl |rfl<;>decide
theorem ck_nil:ckB []=true:=by decide +kernel
end Sp
namespace Sp
open Go.RowKit
open Tk (S S_of S_list S_size ne8 at_data len_data)
open Utf (chk)
theorem beq_dec (x y:Int):(x==y)=decide (x=y):=by rw[Bool.eq_iff_iff,beq_iff_eq,decide_eq_true_iff]
theorem check_row (t:ByteArray) (w:World) (hs:t.size≤140737488355328):
  Calls Tryz.prog 20 #[.slice (some ⟨w.heap.size,0,none⟩) t.size (grownCap w t.size 0 5)] (w.alloc (Obj.cells (bytesRow t (grownCap w t.size 0 5)) 5 ((bytesRow t (grownCap w t.size 0 5)).size,(bytesRow t (grownCap w t.size 0 5)).size+1))).drew
   fun e w'=>e=.returned (.int .i64 (chk t))∧Below w.heap.size w w':=by
 have hB:Lib.Bytes (w.alloc (Obj.cells (bytesRow t (grownCap w t.size 0 5)) 5 ((bytesRow t (grownCap w t.size 0 5)).size,(bytesRow t (grownCap w t.size 0 5)).size+1))).drew w.heap.size 0 t:=Go.Proofs.YtpakjdgddomdjabGreatDoor.Utf.bytes_row w t _ _ _;refine(Go.Proofs.YtpakjdgddomdjabGreatDoor.Utf.check_any t _ _ _ hB (by unfold maxLen;omega)).mono ?_;rintro e w3 ⟨rfl,rfl⟩;exact⟨rfl,((Below.refl _ _).alloc (Nat.le_refl _) _).drew⟩
def ctB (s:ByteArray):Bool:=decide (chk s=0)
theorem ckB_S (s:List UInt8):ckB s=ctB (S s):=rfl
theorem isText_any (s:ByteArray) (hs:s.size≤140737488355328) (w:World):
  Calls Tryz.prog 117 #[.string s] w (OkAns w (ctB s)):=by
 have hca:=fun(w:World) (t:ByteArray)=>run_bytes_of_string (P:=Tryz.prog) w 9 49 5 t Tryz.underlying9 Tryz.underlying49 Tryz.underlying5
 have HC:=Lib.hid (check_row s w hs);have HR:Hid ((chk s==0)=ctB s):=Lib.hid (beq_dec _ _);generalize chk s=c at *;go_enter Tryz.func117,Tryz.ntmps117;go_wp2_with fail;refine HC.out.mono ?_;rintro e w2 ⟨rfl,hb⟩;have HB:=Lib.hid hb;clear hb HC hca;go_wp2_with fail;go_ret;exact⟨ret_bool HR.out,HB.out⟩
theorem cls_two (b:UInt8) (h:b≠10):(Tk.clsI (b.toNat:Int)==2)=edB b:=by
 rw[beq_dec,Bool.eq_iff_iff,decide_eq_true_iff];unfold edB spB Tk.clsI;have h10:(b.toNat:Int)≠10:=fun e=>h (UInt8.toNat_inj.1 (by simpa using (by omega:b.toNat=10)))
 by_cases h32:b=32
 ·subst h32;decide
 ·by_cases h9:b=9
  ·subst h9;decide
  ·have e32:(b.toNat:Int)≠32:=fun e=>h32 (UInt8.toNat_inj.1 (by simpa using (by omega:b.toNat=32)))
   have e9:(b.toNat:Int)≠9:=fun e=>h9 (UInt8.toNat_inj.1 (by simpa using (by omega:b.toNat=9)))
   rw[decide_eq_false h32,decide_eq_false h9,decide_eq_false h];constructor
   ·intro hx
    split at hx
    ·omega
    ·split at hx
     ·omega
     ·split at hx<;>omega
   ·intro hx;simp at hx
theorem gap_any (b:UInt8) (w:World):
  Calls Tryz.prog 154 #[.int .u8 b.toNat] w fun e w'=>e=.returned (.bool (edB b))∧w=w':=by
 by_cases h:b=10
 ·subst h
  go_enter Tryz.func154,Tryz.ntmps154;go_wp2_with fail;go_ret;exact⟨rfl,rfl⟩
 ·have e1:((b.toNat:Int)==10)=false:=ne8 (b:=10) h
  have HC:=Lib.hid (Tk.class_any b.toNat w);have HR:=Lib.hid (cls_two b h);have h256:b.toNat<256:=b.toNat_lt;clear h;generalize Tk.clsI (b.toNat:Int)=c at *;go_enter Tryz.func154,Tryz.ntmps154;go_wp2_with fail;refine HC.out.mono ?_;rintro e w2 ⟨rfl,rfl⟩;clear HC;go_wp2_with fail;go_ret;exact⟨ret_bool HR.out,rfl⟩
theorem marks_find (c:UInt8):decide (0≤Lib.indexByte marksL c)=marksL.any (fun b=>decide (c=b)):=by
 rw[←Lib.contains_iff_indexByte,Bool.eq_iff_iff,List.contains_iff_mem,List.any_eq_true];constructor
 ·intro h;exact⟨c,h,by simp⟩
 ·rintro⟨x,hx,he⟩
  have e:c=x:=by simpa using he
  rw[e];exact hx
set_option maxHeartbeats 1600000 in
theorem inDest_any (c:UInt8) (w:World):
  Calls Tryz.prog 118 #[.int .u8 c.toNat] w fun e w'=>e=.returned (.bool (dcB c))∧w=w':=by
 have HI:=Lib.hid (Tryz.strings_IndexByte ⟨#[46,47,95,45,35,63,38,58,37]⟩ (c.toNat:Int) w);have hback:((c.toNat:Int)).toNat.toUInt8=c:=by simp
 have hm:(⟨#[46,47,95,45,35,63,38,58,37]⟩:ByteArray).data.toList=marksL:=rfl;rw[hback,hm]at HI;have HX:Hid (dcB c=(alB c||decide (0≤Lib.indexByte marksL c))):=Lib.hid (by rw[marks_find];rfl);have HA:Hid (alB c=((decide (97≤(c.toNat:Int))&&decide ((c.toNat:Int)≤122))||(decide (65≤(c.toNat:Int))&&decide ((c.toNat:Int)≤90))||(decide (48≤(c.toNat:Int))&&decide ((c.toNat:Int)≤57)))):=Lib.hid rfl;obtain⟨X,hX⟩:∃X,dcB c=X:=⟨_,rfl⟩;rw[hX]at HX;rw[hX];clear hX hback hm;generalize alB c=al at *;generalize Lib.indexByte marksL c=ix at *;generalize (c.toNat:Int)=n at *;rcases(show n<48∨(48≤n∧n≤57)∨(57<n∧n<65)∨(65≤n∧n≤90)∨(90<n∧n<97)∨(97≤n∧n≤122)∨122<n by omega)with h |h |h |h |h |h |h
 ·have HR:Hid (X=decide (0≤ix)):=Lib.hid (by rw[HX.out,HA.out,decide_eq_false (show ¬97≤n by omega),decide_eq_false (show ¬65≤n by omega),decide_eq_false (show ¬48≤n by omega)];simp)
  clear HX HA;go_enter Tryz.func118,Tryz.ntmps118;go_wp2_with fail;refine HI.out.mono ?_;rintro e w2 ⟨rfl,rfl⟩;clear HI;go_wp2_with fail;go_ret;exact⟨ret_bool HR.out.symm,rfl⟩
 ·have HR:Hid (X=true):=Lib.hid (by rw[HX.out,HA.out,decide_eq_true h.1,decide_eq_true h.2];simp)
  clear HX HA;go_enter Tryz.func118,Tryz.ntmps118;go_wp2_with fail;go_ret;exact⟨ret_bool HR.out.symm,rfl⟩
 ·have HR:Hid (X=decide (0≤ix)):=Lib.hid (by rw[HX.out,HA.out,decide_eq_false (show ¬97≤n by omega),decide_eq_false (show ¬65≤n by omega),decide_eq_false (show ¬n≤57 by omega)];simp)
  clear HX HA;go_enter Tryz.func118,Tryz.ntmps118;go_wp2_with fail;refine HI.out.mono ?_;rintro e w2 ⟨rfl,rfl⟩;clear HI;go_wp2_with fail;go_ret;exact⟨ret_bool HR.out.symm,rfl⟩
 ·have HR:Hid (X=true):=Lib.hid (by rw[HX.out,HA.out,decide_eq_true h.1,decide_eq_true h.2];simp)
  clear HX HA;go_enter Tryz.func118,Tryz.ntmps118;go_wp2_with fail;go_ret;exact⟨ret_bool HR.out.symm,rfl⟩
 ·have HR:Hid (X=decide (0≤ix)):=Lib.hid (by rw[HX.out,HA.out,decide_eq_false (show ¬97≤n by omega),decide_eq_false (show ¬n≤90 by omega),decide_eq_false (show ¬n≤57 by omega)];simp)
  clear HX HA;go_enter Tryz.func118,Tryz.ntmps118;go_wp2_with fail;refine HI.out.mono ?_;rintro e w2 ⟨rfl,rfl⟩;clear HI;go_wp2_with fail;go_ret;exact⟨ret_bool HR.out.symm,rfl⟩
 ·have HR:Hid (X=true):=Lib.hid (by rw[HX.out,HA.out,decide_eq_true h.1,decide_eq_true h.2];simp)
  clear HX HA;go_enter Tryz.func118,Tryz.ntmps118;go_wp2_with fail;go_ret;exact⟨ret_bool HR.out.symm,rfl⟩
 ·have HR:Hid (X=decide (0≤ix)):=Lib.hid (by rw[HX.out,HA.out,decide_eq_false (show ¬n≤122 by omega),decide_eq_false (show ¬n≤90 by omega),decide_eq_false (show ¬n≤57 by omega)];simp)
  clear HX HA;go_enter Tryz.func118,Tryz.ntmps118;go_wp2_with fail;refine HI.out.mono ?_;rintro e w2 ⟨rfl,rfl⟩;clear HI;go_wp2_with fail;go_ret;exact⟨ret_bool HR.out.symm,rfl⟩
theorem destP_any (s:ByteArray) (hs:s.size≤140737488355328) (w:World):
  Calls Tryz.prog 81 #[.string s] w (OkAns w (ctB s&&dsB s.data.toList)):=by
 have HT:=Lib.hid (isText_any s hs w);have HI:=Lib.hid (fun c w=>inDest_any c w);have HEm:Hid ((s.toList==([]:List UInt8))=s.data.toList.isEmpty):=Lib.hid (by rw[Lib.toList_data];cases s.data.toList<;>rfl);have HX:Hid ((ctB s&&dsB s.data.toList)=(ctB s&&((s.data.toList.drop 0).all dcB&&!s.data.toList.isEmpty))):=Lib.hid (by rw[List.drop_zero];rfl);obtain⟨X,hX⟩:∃X,(ctB s&&dsB s.data.toList)=X:=⟨_,rfl⟩;obtain⟨ne,hne⟩:∃ne,s.data.toList.isEmpty=ne:=⟨_,rfl⟩;rw[hX,hne]at HX;rw[hne]at HEm;rw[hX];clear hX hne;cases ne with
 |true=>
  have em:=HEm.out;have HR:Hid (X=false):=Lib.hid (by rw[HX.out];simp);clear HX HEm HT HI;go_enter Tryz.func81,Tryz.ntmps81;go_wp2_with fail;go_ret;exact⟨ret_bool HR.out.symm,Below.refl _ _⟩
 |false=>
  have em:=HEm.out;clear HEm;cases hct:ctB s with
  |false=>
   rw[hct]at HT HX;have HR:Hid (X=false):=Lib.hid (by rw[HX.out];simp);clear HX HI hct;go_enter Tryz.func81,Tryz.ntmps81;go_wp2_with fail;refine HT.out.mono ?_;rintro e w2 ⟨rfl,hb⟩;have HB:=Lib.hid hb;clear hb HT;go_wp2_with fail;go_ret;exact⟨ret_bool HR.out.symm,HB.out⟩
  |true=>
   rw[hct]at HT HX;have H0:Hid (X=(s.data.toList.drop 0).all dcB):=Lib.hid (by rw[HX.out];simp);clear HX hct;go_enter Tryz.func81,Tryz.ntmps81;go_wp2_with fail;refine HT.out.mono ?_;rintro e w2 ⟨rfl,hb⟩;have HB:=Lib.hid hb;clear hb HT;go_wp2_with fail;go_loop [13] (fun i=>∃k:Nat,k≤s.size∧i=.int .i64 k∧Hid (X=(s.data.toList.drop k).all dcB)) (fun i=>s.size-(intOf i).toNat)
   case atStart=>exact⟨0,Nat.zero_le _,rfl,H0⟩
   case round=>
    clear H0;obtain⟨k,hk,rfl,HN⟩:=hrel;by_cases hlt:k<s.size
    ·have hnx:=HN.out
     rw[at_data s k hlt,List.all_cons]at hnx;have hi1:(k:Int)<(s.size:Int):=by omega
     have HD:=Lib.hid (HI.out s[k] w2);cases hd:dcB s[k]with
     |true=>
      rw[hd]at HD hnx;have HR:Hid (X=(s.data.toList.drop (k+1)).all dcB):=Lib.hid (by rw[hnx];rfl);clear hnx HN hd;go_wp2_with fail;refine HD.out.mono ?_;rintro e w3 ⟨rfl,rfl⟩;clear HD;go_wp2_with fail;go_round
      case rel=>exact⟨k+1,by omega,by go_num,HR⟩
      case measure=>simp[intOf];omega
     |false=>
      rw[hd]at HD hnx;have HR:Hid (X=false):=Lib.hid (by rw[hnx];rfl);clear hnx HN hd;go_wp2_with fail;refine HD.out.mono ?_;rintro e w3 ⟨rfl,rfl⟩;clear HD;go_wp2_with fail;go_ret;exact⟨ret_bool HR.out.symm,HB.out⟩
    ·obtain rfl:k=s.size:=by omega
     have hnx:=HN.out;rw[drop_all s _ hlt]at hnx;have HR:Hid (X=true):=Lib.hid (by rw[hnx];rfl);clear hnx HN hlt;go_wp2_with fail;go_ret;exact⟨ret_bool HR.out.symm,HB.out⟩
theorem dest_text {s:List UInt8} (h:dsB s=true) (hs:s.length≤1000000):ckB s=true:=by
 unfold ckB;refine decide_eq_true (chk_ascii (S s) (by rw[S_size];omega) (fun k hk=>?_));unfold dsB at h;rw[Bool.and_eq_true,List.all_eq_true]at h;apply dc_range;apply h.1;have:=at_data (S s) k hk;rw[S_list]at this;have hm:(S s)[k]∈s.drop k:=by rw[this];exact List.mem_cons_self ..
 exact List.mem_of_mem_drop hm
theorem destP_short (s:ByteArray) (hs:s.size≤1000000) (w:World):
  Calls Tryz.prog 81 #[.string s] w (OkAns w (dsB s.data.toList)):=by
 have h:=destP_any s (by omega) w
 have e:(ctB s&&dsB s.data.toList)=dsB s.data.toList:=by
  cases hd:dsB s.data.toList with
  |false=>rw[Bool.and_false]
  |true=>
   have:=dest_text hd (by rw[len_data];exact hs);rw[ckB_S,S_of]at this;rw[this];rfl
 rwa[e]at h
end Sp
namespace Sp
open Go.RowKit
open Tk (S S_of)
theorem dw_nil_iff {α:Type} (p:α→Bool):∀l:List α,l.dropWhile p=[]↔∀x∈l,p x=true
 |[]=>by simp
 |x::r=>by
  rw[List.dropWhile_cons];by_cases h:p x=true
  ·rw[if_pos h,dw_nil_iff p r]
   simp[h]
  ·rw[if_neg h]
   simp[h]
theorem trimB_nil (l:List UInt8):(Lib.trimB l 32=[])↔onlySp l=true:=by
 unfold Lib.trimB Lib.trimLeftB Lib.trimRightB onlySp;rw[dw_nil_iff,List.all_eq_true];constructor
 ·intro h
  by_cases hn:l.reverse.dropWhile (·==32)=[]
  ·rw[dw_nil_iff]at hn
   intro x hx;exact hn x (List.mem_reverse.2 hx)
  ·exfalso
   have:=List.head_dropWhile_not (p:=(·==(32:UInt8))) (l:=l.reverse) hn;have hm:=h _ (List.mem_reverse.2 (List.head_mem hn));rw[hm]at this;cases this
 ·intro h x hx
  have hx:=List.mem_reverse.1 hx;exact h x (List.mem_reverse.1 ((List.dropWhile_sublist _).subset hx))
theorem trim_bne (s:ByteArray):((⟨(Lib.trimB s.data.toList 32).toArray⟩:ByteArray).toList != ([]:List UInt8)) = !onlySp s.data.toList:=by
 rw [Lib.toList_data];have e:(⟨(Lib.trimB s.data.toList 32).toArray⟩:ByteArray).data.toList=Lib.trimB s.data.toList 32:=rfl;rw [e,Bool.eq_iff_iff,bne_iff_ne,ne_eq,trimB_nil];simp
set_option maxHeartbeats 1600000 in
theorem inner_any (s:ByteArray) (hs:s.size≤140737488355328) (w:World) :
   Calls Tryz.prog 217 #[.string s] w fun e w'=>e = .returned (.string (S (strip s.data.toList)))∧∃ n,w'=w.drewN n:=by
 have HP:=Lib.hid (fun w=>prefix_any s 32 hs w);have HQ:=Lib.hid (fun w=>suffix_any s 32 hs w);have HT:=Lib.hid (fun w=>Tryz.strings_Trim_one s 32 (by decide) w (by omega));have HB:=Lib.hid (trim_bne s);have HX:Hid (strip s.data.toList=if onlySp s.data.toList=false∧s.data.toList.head? = some 32∧s.data.toList.getLast? = some 32 then s.data.toList.tail.dropLast else s.data.toList):=Lib.hid rfl
 have HTwo:Hid (onlySp s.data.toList=false→s.data.toList.head? = some 32→2≤s.size):=Lib.hid (fun h h32=>by
   have h0:0 < s.size:=by
     rcases Nat.eq_zero_or_pos s.size with h0 | h0
     · have:=drop_all s 0 (by omega)
       rw [List.drop_zero] at this;rw [this] at h32;cases h32
     · exact h0
   refine only_two h h0 ?_;rw [head_data s h0] at h32;exact Option.some.inj h32)
 have HC:=Lib.hid (fun h=>cut_data s h);have hz:(oneS 32)=(⟨#[32]⟩:ByteArray):=rfl;rw [hz] at HP HQ;generalize (⟨(Lib.trimB s.data.toList 32).toArray⟩:ByteArray)=t at *;cases h1:decide (s.data.toList.head? = some 32) with
 | false =>
   have HR:Hid (strip s.data.toList=s.data.toList):=Lib.hid (by rw [HX.out,if_neg];intro h;exact absurd h.2.1 (of_decide_eq_false h1));rw [h1] at HP;rw [HR.out,S_of];clear h1 HX HTwo HC HB HT HQ;go_enter Tryz.func217,Tryz.ntmps217;go_wp2_with fail;refine (HP.out _).mono ?_;rintro e w2 ⟨rfl,rfl⟩;go_wp2_with fail;go_ret;exact ⟨rfl,0,rfl⟩
 | true =>
   rw [h1] at HP;cases h2:decide (s.data.toList.getLast? = some 32) with
   | false =>
     have HR:Hid (strip s.data.toList=s.data.toList):=Lib.hid (by rw [HX.out,if_neg];intro h;exact absurd h.2.2 (of_decide_eq_false h2));rw [h2] at HQ;rw [HR.out,S_of];clear h1 h2 HX HTwo HC HB HT;go_enter Tryz.func217,Tryz.ntmps217;go_wp2_with fail;refine (HP.out _).mono ?_;rintro e w2 ⟨rfl,rfl⟩;go_wp2_with fail;refine (HQ.out _).mono ?_;rintro e w2 ⟨rfl,rfl⟩;go_wp2_with fail;go_ret;exact ⟨rfl,0,rfl⟩
   | true =>
     rw [h2] at HQ;cases h3:onlySp s.data.toList with
     | true =>
       have HR:Hid (strip s.data.toList=s.data.toList):=Lib.hid (by rw [HX.out,if_neg];intro h;rw [h3] at h;exact absurd h.1 (by simp));rw [HR.out,S_of];have hb:=HB.out;rw [h3] at hb;have hb':(t.toList != ([]:List UInt8))=false:=hb
       have hb2:(t.toList == ([]:List UInt8))=true:=by
         rw [bne] at hb';cases h:(t.toList == ([]:List UInt8)) <;> simp_all
       clear h1 h2 h3 HX HTwo HC HB hb;go_enter Tryz.func217,Tryz.ntmps217;go_wp2_with fail;refine (HP.out _).mono ?_;rintro e w2 ⟨rfl,rfl⟩;go_wp2_with fail;refine (HQ.out _).mono ?_;rintro e w2 ⟨rfl,rfl⟩;go_wp2_with fail;refine (HT.out _).mono ?_;rintro e w2 ⟨rfl,hw⟩;have HW:Hid (∃ n,w2=w.drewN n):=Lib.hid (by rcases hw with rfl | rfl;exact ⟨0,rfl⟩;exact ⟨1,rfl⟩);clear hw;go_wp2_with fail;go_ret;exact ⟨rfl,HW.out⟩
     | false =>
       have h2s:=HTwo.out h3 (of_decide_eq_true h1);have HR:Hid (strip s.data.toList=s.data.toList.tail.dropLast):=Lib.hid (by rw [HX.out,if_pos ⟨h3,of_decide_eq_true h1,of_decide_eq_true h2⟩]);rw [HR.out,← HC.out h2s];have hb:=HB.out;rw [h3] at hb;have hb':(t.toList != ([]:List UInt8))=true:=hb
       have hb2:(t.toList == ([]:List UInt8))=false:=by
         rw [bne] at hb';cases h:(t.toList == ([]:List UInt8)) <;> simp_all
       have hsl:=fun w=>sliceS s 1 (s.size - 1) (by omega) (by omega) w
       have g2:(s.size:Int) - 1=((s.size - 1:Nat):Int):=by omega
       rw [← g2] at hsl;clear h1 h2 h3 HX HTwo HC HB hb HR;go_enter Tryz.func217,Tryz.ntmps217;go_wp2_with fail;refine (HP.out _).mono ?_;rintro e w2 ⟨rfl,rfl⟩;go_wp2_with fail;refine (HQ.out _).mono ?_;rintro e w2 ⟨rfl,rfl⟩;go_wp2_with fail;refine (HT.out _).mono ?_;rintro e w2 ⟨rfl,hw⟩;have HW:Hid (∃ n,w2=w.drewN n):=Lib.hid (by rcases hw with rfl | rfl;exact ⟨0,rfl⟩;exact ⟨1,rfl⟩);clear hw;go_wp2_with fail;go_ret;exact ⟨rfl,HW.out⟩
end Sp
namespace Sp
open Go.RowKit
open Tk (ret_int at_data len_data)
def tlAns (t:List UInt8):Int:=match dest t with
 |some (x,_)=>(x.length:Int)+2
 |none=>0
set_option maxHeartbeats 3200000 in
theorem tailLength_any (s:ByteArray) (hs:s.size≤1000000) (w:World):
  Calls Tryz.prog 218 #[.string s] w fun e w'=>e=.returned (.int .i64 (tlAns s.data.toList))∧Below w.heap.size w w':=by
 have HP:=Lib.hid (fun w=>prefix_any s 40 (by omega) w);have hz:(oneS 40)=(⟨#[40]⟩:ByteArray):=rfl;have hz2:(oneS 41)=(⟨#[41]⟩:ByteArray):=rfl;rw[hz]at HP;cases h1:decide (s.data.toList.head? = some 40)with
 |false=>
  have HR:Hid (tlAns s.data.toList=0):=Lib.hid (by unfold tlAns;rw[dest_not (of_decide_eq_false h1)]);rw[h1]at HP;rw[HR.out];clear h1;go_enter Tryz.func218,Tryz.ntmps218;go_wp2_with fail;refine(HP.out _).mono ?_;rintro e w2 ⟨rfl,rfl⟩;go_wp2_with fail;go_ret;exact⟨rfl,Below.refl _ _⟩
 |true=>
  rw[h1]at HP
  have h0:0<s.size:=by
   rcases Nat.eq_zero_or_pos s.size with h |h
   ·have:=drop_all s 0 (by omega)
    rw[List.drop_zero]at this;rw[this]at h1;cases h1
   ·exact h
  have h40:s[0]=40:=by
   have:=of_decide_eq_true h1;rw[head_data s h0]at this;exact Option.some.inj this
  have H0:Hid (dest s.data.toList=destOn ((s.data.toList.drop 1).take (1-1)) (s.data.toList.drop 1)):=Lib.hid (by
   have:=at_data s 0 h0;rw[List.drop_zero]at this;rw[this,h40,dest_on];rfl)
  have HQ:=Lib.hid (fun(j:Nat) w=>prefix_any (s.extract j s.size) 41 (by simp;omega) w);rw[hz2]at HQ;have HD:=Lib.hid (fun(j k:Nat) w=>destP_short (s.extract j k) (by simp;omega) w);have HE1:=Lib.hid (ext_one' s)
  have HX:Hid (tlAns s.data.toList=match dest s.data.toList with
   |some (x,_)=>(x.length:Int)+2
   |none=>0):=Lib.hid rfl
  have HFr:=Lib.hid (ext_from s);have HTk:=Lib.hid (ext_list s);have HAt:=Lib.hid (at_data s);have HDr:=Lib.hid (drop_all s);have HLen:=Lib.hid (len_data s);generalize tlAns s.data.toList=X at *;generalize dest s.data.toList=Y at *;clear h1 h40 hz hz2;go_enter Tryz.func218,Tryz.ntmps218;go_wp2_with fail;refine(HP.out _).mono ?_;rintro e w2 ⟨rfl,rfl⟩;go_wp2_with fail;go_loopw [3] (fun i wr=>∃j:Nat,1≤j∧j≤s.size∧i=.int .i64 j∧Hid (Y=destOn ((s.data.toList.drop 1).take (j-1)) (s.data.toList.drop j))∧Hid (∀c∈(s.data.toList.drop 1).take (j-1),dcB c=true)∧Hid (Below w.heap.size w wr)) (fun i _=>s.size-(intOf i).toNat)
  case atStart=>exact⟨1,Nat.le_refl _,h0,rfl,H0,Lib.hid (fun c hc=>by simp at hc),Lib.hid (Below.refl _ _)⟩
  case round=>
   clear H0;obtain⟨j,hj1,hj2,rfl,HN,HAll,Hb⟩:=hrel;have hsl1:=sliceS s 1 j hj1 hj2
   have hdB:Hid (dsB ((s.data.toList.drop 1).take (j-1))=decide (1<j)):=Lib.hid (by
    unfold dsB;rw[show((s.data.toList.drop 1).take (j-1)).all dcB=true from List.all_eq_true.2 HAll.out,Bool.true_and];have hl:((s.data.toList.drop 1).take (j-1)).length=j-1:=by rw[List.length_take,List.length_drop,HLen.out];omega
    by_cases h:1<j
    ·rw[decide_eq_true h]
     cases hx:(s.data.toList.drop 1).take (j-1)with
     |nil=>rw[hx]at hl;simp at hl;omega
     |cons a b=>rfl
    ·rw[decide_eq_false h]
     have:(s.data.toList.drop 1).take (j-1)=[]:=List.eq_nil_of_length_eq_zero (by omega);rw[this];rfl)
   have HDall:=Lib.hid (HD.out 1 j);rw[HTk.out,hdB.out]at HDall;have HQj:=Lib.hid (HQ.out j);rw[HFr.out]at HQj
   have hne:1<j→(s.data.toList.drop 1).take (j-1)≠[]:=fun h e=>by
    have:=congrArg List.length e;rw[List.length_take,List.length_drop,HLen.out]at this;simp at this;omega
   have hlen:((s.data.toList.drop 1).take (j-1)).length=j-1:=by rw[List.length_take,List.length_drop,HLen.out];omega
   have HEnd:Hid ((∀h:j<s.size,dcB s[j]=false)→∀b:Bool,b=decide (1<j)→(decide ((s.data.toList.drop j).head? = some 41))=true→X=if b=true then(j:Int)+1 else 0):=Lib.hid (fun hno b hb h41=>by
    have h41:=of_decide_eq_true h41
    have hjs:j<s.size:=by
     rcases Nat.lt_or_ge j s.size with h |h
     ·exact h
     ·rw[HDr.out j (by omega)]at h41;cases h41
    have hd:=HAt.out j hjs;rw[hd]at h41;have e41:s[j]=41:=by simpa using h41
    have hY:=HN.out;rw[hd,destOn_no _ _ _ (hno hjs),if_pos e41]at hY;by_cases h:1<j
    ·rw[if_neg (hne h)]at hY
     rw[HX.out,hY,hb,decide_eq_true h,if_pos rfl];simp only[hlen];omega
    ·have:(s.data.toList.drop 1).take (j-1)=[]:=List.eq_nil_of_length_eq_zero (by omega)
     rw[if_pos this]at hY;rw[HX.out,hY,hb,decide_eq_false h];rfl)
   have HEnd2:Hid ((∀h:j<s.size,dcB s[j]=false)→(decide ((s.data.toList.drop j).head? = some 41))=false→X=0):=Lib.hid (fun hno h41=>by
    have h41:=of_decide_eq_false h41;have hY:=HN.out;rcases Nat.lt_or_ge j s.size with hjs |hjs
    ·have hd:=HAt.out j hjs
     rw[hd]at h41;rw[hd,destOn_no _ _ _ (hno hjs),if_neg (fun e=>h41 (by rw[e];rfl))]at hY;rw[HX.out,hY]
    ·rw[HDr.out j (by omega),destOn_nil]at hY
     rw[HX.out,hY])
   have HEnd3:Hid ((∀h:j<s.size,dcB s[j]=false)→¬1<j→X=0):=Lib.hid (fun hno hj=>by
    cases h41:decide ((s.data.toList.drop j).head? = some 41)with
    |false=>exact HEnd2.out hno h41
    |true=>rw[HEnd.out hno _ rfl h41,decide_eq_false hj];rfl)
   have hdec:(1<j)∨¬(1<j):=Classical.em _;by_cases hlt:j<s.size
   ·have hi1:(j:Int)<(s.size:Int):=by omega
    have hsl:=sliceS s j (j+1) (Nat.le_succ _) hlt;rw[show((j+1:Nat):Int)=(j:Int)+1 by omega]at hsl;have HDj:=Lib.hid (HD.out j (j+1));rw[HE1.out j hlt,dsB_one]at HDj;cases hc:dcB s[j]with
    |true=>
     rw[hc]at HDj;have hY:=HN.out;rw[HAt.out j hlt,destOn_yes _ _ _ hc]at hY
     have htk:(s.data.toList.drop 1).take (j-1)++[s[j]]=(s.data.toList.drop 1).take (j+1-1):=by
      rw[←take_more _ _ _ _ hj1,HAt.out j hlt];rfl
     rw[htk]at hY;have HY:=Lib.hid hY
     have HAll2:Hid (∀c∈(s.data.toList.drop 1).take (j+1-1),dcB c=true):=Lib.hid (fun c hm=>by
      rw[←htk]at hm;rcases List.mem_append.1 hm with hm |hm
      ·exact HAll.out c hm
      ·rw[List.mem_singleton]at hm;rw[hm];exact hc)
     clear hY htk HEnd HEnd2 HEnd3 HN HAll hc hne hlen hdB HDall HQj hsl1 HD HQ HE1 HX HFr HTk HAt HDr HLen hdec;go_wp2_with fail;refine(HDj.out _).mono ?_;rintro e w5 ⟨rfl,hb5⟩;have Hb5:=Lib.hid (Hb.out.trans (hb5.mono Hb.out.size));clear hb5 HDj Hb;go_wp2_with fail;go_roundw
     case rel=>exact⟨j+1,by omega,by omega,by go_num,HY,HAll2,Hb5⟩
     case measure=>simp[intOf];omega
    |false=>
     rw[hc]at HDj;have hno:∀h:j<s.size,dcB s[j]=false:=fun _=>hc
     by_cases hj:1<j
     ·rw[decide_eq_true hj]at HDall
      cases h41:decide ((s.data.toList.drop j).head? = some 41)with
      |true=>
       rw[h41]at HQj;have HR:Hid (X=(j:Int)+1):=Lib.hid (by rw[HEnd.out hno _ (decide_eq_true hj).symm h41,if_pos rfl]);have hsj:=fun w=>slice_fromS s j hj2 (by omega) w
       clear HEnd HEnd2 HEnd3 HN HAll hne hlen hdB HD HQ HE1 HX HFr HTk HAt HDr HLen hdec hno h41 hc;go_wp2_with fail;refine(HDj.out _).mono ?_;rintro e w5 ⟨rfl,hb5⟩;have Hb5:=Lib.hid (Hb.out.trans (hb5.mono Hb.out.size));clear hb5 HDj Hb;go_wp2_with fail;refine(HDall.out _).mono ?_;rintro e w6 ⟨rfl,hb6⟩;have Hb6:=Lib.hid (Hb5.out.trans (hb6.mono Hb5.out.size));clear hb6;go_wp2_with fail;refine(HQj.out _).mono ?_;rintro e w7 ⟨rfl,rfl⟩;go_wp2_with fail;go_ret;exact⟨ret_int HR.out.symm,Hb6.out⟩
      |false=>
       rw[h41]at HQj;have HR:Hid (X=0):=Lib.hid (HEnd2.out hno h41);have hsj:=fun w=>slice_fromS s j hj2 (by omega) w
       clear HEnd HEnd2 HEnd3 HN HAll hne hlen hdB HD HQ HE1 HX HFr HTk HAt HDr HLen hdec hno h41 hc;go_wp2_with fail;refine(HDj.out _).mono ?_;rintro e w5 ⟨rfl,hb5⟩;have Hb5:=Lib.hid (Hb.out.trans (hb5.mono Hb.out.size));clear hb5 HDj Hb;go_wp2_with fail;refine(HDall.out _).mono ?_;rintro e w6 ⟨rfl,hb6⟩;have Hb6:=Lib.hid (Hb5.out.trans (hb6.mono Hb5.out.size));clear hb6;go_wp2_with fail;refine(HQj.out _).mono ?_;rintro e w7 ⟨rfl,rfl⟩;go_wp2_with fail;go_ret;exact⟨ret_int HR.out.symm,Hb6.out⟩
     ·rw[decide_eq_false hj]at HDall
      have HR:Hid (X=0):=Lib.hid (HEnd3.out hno hj);clear HEnd HEnd2 HEnd3 HN HAll hne hlen hdB HD HQ HE1 HX HFr HTk HAt HDr HLen hdec hno hc;go_wp2_with fail;refine(HDj.out _).mono ?_;rintro e w5 ⟨rfl,hb5⟩;have Hb5:=Lib.hid (Hb.out.trans (hb5.mono Hb.out.size));clear hb5 HDj Hb;go_wp2_with fail;refine(HDall.out _).mono ?_;rintro e w6 ⟨rfl,hb6⟩;have Hb6:=Lib.hid (Hb5.out.trans (hb6.mono Hb5.out.size));clear hb6;go_wp2_with fail;go_ret;exact⟨ret_int HR.out.symm,Hb6.out⟩
   ·have hi1:¬(j:Int)<(s.size:Int):=by omega
    have hno:∀h:j<s.size,dcB s[j]=false:=fun h=>absurd h hlt
    by_cases hj:1<j
    ·rw[decide_eq_true hj]at HDall
     cases h41:decide ((s.data.toList.drop j).head? = some 41)with
     |true=>
      rw[h41]at HQj;have HR:Hid (X=(j:Int)+1):=Lib.hid (by rw[HEnd.out hno _ (decide_eq_true hj).symm h41,if_pos rfl]);have hsj:=fun w=>slice_fromS s j hj2 (by omega) w
      clear HEnd HEnd2 HEnd3 HN HAll hne hlen hdB HD HQ HE1 HX HFr HTk HAt HDr HLen hdec hno h41;go_wp2_with fail;refine(HDall.out _).mono ?_;rintro e w6 ⟨rfl,hb6⟩;have Hb6:=Lib.hid (Hb.out.trans (hb6.mono Hb.out.size));clear hb6;go_wp2_with fail;refine(HQj.out _).mono ?_;rintro e w7 ⟨rfl,rfl⟩;go_wp2_with fail;go_ret;exact⟨ret_int HR.out.symm,Hb6.out⟩
     |false=>
      rw[h41]at HQj;have HR:Hid (X=0):=Lib.hid (HEnd2.out hno h41);have hsj:=fun w=>slice_fromS s j hj2 (by omega) w
      clear HEnd HEnd2 HEnd3 HN HAll hne hlen hdB HD HQ HE1 HX HFr HTk HAt HDr HLen hdec hno h41;go_wp2_with fail;refine(HDall.out _).mono ?_;rintro e w6 ⟨rfl,hb6⟩;have Hb6:=Lib.hid (Hb.out.trans (hb6.mono Hb.out.size));clear hb6;go_wp2_with fail;refine(HQj.out _).mono ?_;rintro e w7 ⟨rfl,rfl⟩;go_wp2_with fail;go_ret;exact⟨ret_int HR.out.symm,Hb6.out⟩
    ·rw[decide_eq_false hj]at HDall
     have HR:Hid (X=0):=Lib.hid (HEnd3.out hno hj);clear HEnd HEnd2 HEnd3 HN HAll hne hlen hdB HD HQ HE1 HX HFr HTk HAt HDr HLen hdec hno;go_wp2_with fail;refine(HDall.out _).mono ?_;rintro e w6 ⟨rfl,hb6⟩;have Hb6:=Lib.hid (Hb.out.trans (hb6.mono Hb.out.size));clear hb6;go_wp2_with fail;go_ret;exact⟨ret_int HR.out.symm,Hb6.out⟩
end Sp
end Go.Proofs.YtpakjdgddomdjabGreatDoor
