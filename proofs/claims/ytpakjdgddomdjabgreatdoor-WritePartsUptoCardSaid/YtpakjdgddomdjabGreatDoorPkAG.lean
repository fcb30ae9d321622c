import Derived.Test.YtpakjdgddomdjabGreatDoorPkU
import Derived.Test.YtpakjdgddomdjabGreatDoorPkW
import Derived.Test.YtpakjdgddomdjabGreatDoorPkAI
import Derived.Lib.IndexLaws
import Derived.Lib.Strings
import Derived.Test.YtpakjdgddomdjabGreatDoorPkE
import Derived.Test.YtpakjdgddomdjabGreatDoorPkI
import Derived.Test.YtpakjdgddomdjabGreatDoorPkL
import Derived.BigQuiet
import Derived.Deep.QuietTactic
set_option linter.unusedVariables false
namespace Go.Proofs.YtpakjdgddomdjabGreatDoor
namespace Kd
open Sp (hsB dsB)
open Bt (labB)
open Bk (Tx df define)
open Ln (run)
def cuB (t:Tx):Tx × Tx × Bool:=if 0≤Lib.indexByte t 93 then(t.take (Lib.indexByte t 93).toNat,t.drop ((Lib.indexByte t 93).toNat+1),true)else(t,[],false)
def halB (l:Tx):Tx × Tx:=if Lib.hasPrefix l [91]then(if Lib.hasPrefix (cuB (l.drop 1)).2.1 [58,32]then((cuB (l.drop 1)).1,(cuB (l.drop 1)).2.1.drop 2)else([],[]))else([],[])
theorem pre_one (l:Tx) (c:UInt8):Lib.hasPrefix l [c]=decide (l.head? = some c):=by
 cases l with
 |nil=>rfl
 |cons b r=>
  show((c==b)&&true)=_;rw[Bool.and_true,List.head?_cons,Bool.eq_iff_iff,beq_iff_eq,decide_eq_true_iff,Option.some.injEq];exact eq_comm
theorem pre_two (l:Tx) (c d:UInt8):Lib.hasPrefix l [c,d]=decide (l.take 2=[c,d]):=by
 cases l with
 |nil=>rfl
 |cons b r=>
  cases r with
  |nil=>
   show((c==b)&&false)=_;rw[Bool.and_false];exact(decide_eq_false (by simp)).symm
  |cons b2 r=>
   show((c==b)&&((d==b2)&&true))=_;rw[Bool.and_true,Bool.eq_iff_iff,Bool.and_eq_true,beq_iff_eq,beq_iff_eq,decide_eq_true_iff];constructor
   ·rintro⟨rfl,rfl⟩;rfl
   ·intro h
    have h':b::b2::[]=[c,d]:=h;injection h' with h1 h2;injection h2 with h2 h3;exact⟨h1.symm,h2.symm⟩
theorem lab_has (a:Tx) (h:93∈a):labB a=false:=by
 unfold labB;have:hsB 93 a=true:=by unfold hsB;rw[List.any_eq_true];exact⟨93,h,by decide⟩
 rw[this];simp
theorem df_has:∀(t acc:Tx),93∈acc→df E0 acc t=none
 |[],acc,_=>by rw[df]
 |c::t,acc,h=>by
  have ih:=df_has t (acc++[c]) (List.mem_append_left _ h);by_cases hx:∃d,c=93∧t=58::32::d
  ·obtain⟨d,rfl,rfl⟩:=hx
   rw[df_here,lab_eq,lab_has acc h,Bool.false_and,if_neg (by decide)];exact ih
  ·rw[df_skip acc c t hx]
   exact ih
theorem df_go:∀(a acc r:Tx),93∉a→df E0 acc (a++r)=df E0 (acc++a) r
 |[],acc,r,_=>by rw[List.nil_append,List.append_nil]
 |c::a,acc,r,h=>by
  have hc:c≠93:=fun e=>h (by rw[e];exact List.mem_cons_self)
  have ha:93∉a:=fun e=>h (List.mem_cons_of_mem _ e)
  rw[List.cons_append,df_skip acc c (a++r) (by rintro⟨d,e,_⟩;exact hc e),df_go a _ r ha,List.append_assoc];rfl
theorem idx_split (t:Tx) (h:0≤Lib.indexByte t 93):t=t.take (Lib.indexByte t 93).toNat++93::t.drop ((Lib.indexByte t 93).toNat+1)∧93∉t.take (Lib.indexByte t 93).toNat:=by
 obtain⟨o,ho⟩:∃o:Nat,Lib.indexByte t 93=o:=⟨(Lib.indexByte t 93).toNat,by omega⟩;obtain⟨h1,h2⟩:=Lib.indexByte_some ho;rw[ho,Int.toNat_natCast]
 have hl:o<t.length:=by
  rcases Nat.lt_or_ge o t.length with h |h
  ·exact h
  ·rw[List.getElem?_eq_none h]at h1;exact absurd h1 (by simp)
 have hg:t[o]=93:=by rw[List.getElem?_eq_getElem hl]at h1;exact Option.some.inj h1
 refine⟨?_,?_⟩
 ·conv=>lhs;rw[←List.take_append_drop o t,List.drop_eq_getElem_cons hl,hg]
 ·intro hm
  obtain⟨k,hk,he⟩:=List.mem_iff_getElem.1 hm;rw[List.length_take]at hk;rw[List.getElem_take]at he;exact h2 k (by omega) (by rw[List.getElem?_eq_getElem (by omega),he])
theorem idx_none (t:Tx) (h:¬0≤Lib.indexByte t 93):93∉t:=by
 have h0:=Lib.indexByte_ge t 93;have h1:Lib.indexByte t 93=-1:=by omega
 intro hm;obtain⟨k,hk,he⟩:=List.mem_iff_getElem.1 hm;exact Lib.indexByte_none h1 k (by rw[List.getElem?_eq_getElem hk,he])
theorem lab_nil:labB []=false:=rfl
theorem hal_yes (t:Tx):halB (91::t)=if(cuB t).2.1.take 2=[58,32]then((cuB t).1,(cuB t).2.1.drop 2)else([],[]):=by
 unfold halB;rw[pre_one,pre_two,List.drop_one,List.tail_cons];have h:decide ((91::t:Tx).head? = some 91)=true:=decide_eq_true rfl;rw[if_pos h];simp only[decide_eq_true_eq]
theorem hal_no (l:Tx) (h:l.head?≠some 91):halB l=([],[]):=by
 unfold halB;rw[pre_one,decide_eq_false h];rfl
theorem define_hal (l:Tx):define E0 l=if labB (halB l).1&&dsB (halB l).2 then some (halB l)else none:=by
 have hno:∀l:Tx,halB l=([],[])→(if labB (halB l).1&&dsB (halB l).2 then some (halB l)else none)=none:=fun l h=>by
  rw[h,if_neg];rw[lab_nil];simp
 by_cases hc:l.head? = some 91
 ·obtain⟨t,rfl⟩:∃t,l=91::t:=by
   cases l with
   |nil=>simp at hc
   |cons c t=>exact⟨t,by rw[List.head?_cons,Option.some.injEq]at hc;rw[hc]⟩
  show df E0 [] t=_;by_cases hi:0≤Lib.indexByte t 93
  ·obtain⟨h1,h2⟩:=idx_split t hi
   have hcu:cuB t=(t.take (Lib.indexByte t 93).toNat,t.drop ((Lib.indexByte t 93).toNat+1),true):=by unfold cuB;rw[if_pos hi]
   have hy:=hal_yes t;rw[hcu]at hy;generalize t.take (Lib.indexByte t 93).toNat=a at *;generalize t.drop ((Lib.indexByte t 93).toNat+1)=r at *;have hd:df E0 [] t=df E0 a (93::r):=by rw[h1,df_go a [] _ h2,List.nil_append]
   rw[hd];by_cases hr:r.take 2=[58,32]
   ·have hy':halB (91::t)=(a,r.drop 2):=by rw[hy];exact if_pos hr
    rw[hy']
    have hr2:r=58::32::r.drop 2:=by
     conv=>lhs;rw[←List.take_append_drop 2 r,hr]
     rfl
    generalize r.drop 2=d at *;rw[hr2,df_here,lab_eq,dest_eq,df_has _ _ (by simp)]
   ·have hy':halB (91::t)=([],[]):=by rw[hy];exact if_neg hr
    rw[hno _ hy',df_skip,df_has _ _ (by simp)];rintro⟨d,_,rfl⟩;exact hr rfl
  ·have hcu:cuB t=(t,[],false):=by unfold cuB;rw[if_neg hi]
   have hy':halB (91::t)=([],[]):=by rw[hal_yes,hcu];rfl
   rw[hno _ hy'];have:=df_go t [] [] (idx_none t hi);rw[List.append_nil]at this;rw[this];show df E0 _ []=_;rw[df]
 ·rw[hno _ (hal_no l hc),dfAt_one]
  unfold dfAt;rw[if_neg hc]
theorem define_some (l:Tx):(define E0 l).isSome=(labB (halB l).1&&dsB (halB l).2):=by
 rw[define_hal];cases labB (halB l).1&&dsB (halB l).2<;>rfl
def esB (l:Tx):Bool:=l.isEmpty||decide (l.head? = some 32)
theorem es_T2 (l:Tx):T2 l=(decide (1≤run 35 l)&&decide (run 35 l≤6)&&esB (l.drop (run 35 l))):=by
 unfold T2 esB;have h:=Go.Proofs.YtpakjdgddomdjabGreatDoor.Ln.run_le 35 l;rw[Bool.eq_iff_iff,decide_eq_true_iff,Bool.and_eq_true,Bool.and_eq_true,Bool.or_eq_true,decide_eq_true_iff,decide_eq_true_iff,decide_eq_true_iff,List.head?_drop,List.isEmpty_iff,List.drop_eq_nil_iff];constructor
 ·rintro⟨⟨h1,h2⟩,h3⟩
  exact⟨⟨h1,h2⟩,h3.imp (fun e=>by omega) id⟩
 ·rintro⟨⟨h1,h2⟩,h3⟩
  exact⟨⟨h1,h2⟩,h3.imp (fun e=>by omega) id⟩
theorem es_T3 (l:Tx):T3 l=(decide (3≤l.length)&&decide (run 45 l=l.length)):=by
 unfold T3;rw[Bool.eq_iff_iff,decide_eq_true_iff,Bool.and_eq_true,decide_eq_true_iff,decide_eq_true_iff];constructor
 ·rintro⟨h1,h2⟩;exact⟨by omega,h2⟩
 ·rintro⟨h1,h2⟩;exact⟨by omega,h2⟩
theorem es_T4 (l:Tx):T4 l=(decide (3≤run 96 l)&&decide (Lib.indexByte (l.drop (run 96 l)) 96<0)):=by
 unfold T4;rw[Bt.idx_has,Bool.eq_iff_iff,decide_eq_true_iff,Bool.and_eq_true,decide_eq_true_iff,Bool.not_eq_true',←Bool.not_eq_true,Sp.has_mem];exact and_congr_right fun _=>⟨Go.Proofs.YtpakjdgddomdjabGreatDoor.Ln.mx_zero 96 _,Go.Proofs.YtpakjdgddomdjabGreatDoor.Ln.mx_none 96 _⟩
theorem es_T6 (l:Tx):T6 l=(Lib.hasPrefix l [45]&&esB (l.drop 1)):=by
 unfold T6 esB;rw[pre_one];cases l with
 |nil=>decide
 |cons c t=>
  cases t with
  |nil=>
   rw[Bool.eq_iff_iff,decide_eq_true_iff,Bool.and_eq_true,decide_eq_true_iff];simp
  |cons d r=>
   rw[Bool.eq_iff_iff,decide_eq_true_iff,Bool.and_eq_true,decide_eq_true_iff];simp
end Kd
namespace Kd
open Go.RowKit
open Tk (S)
open Sp (OkAns)
open Bk (Tx Bk kindOf inner unquote)
def NumK (w:World) (n:Nat) (e:Ending) (w':World):Prop:=e=.returned (.int .i64 (n:Nat))∧Below w.heap.size w w'
def LevK (w:World) (n:Nat) (t:Tx) (e:Ending) (w':World):Prop:=e=.returned (.tuple #[.int .i64 (n:Nat),.string (S t)])∧Below w.heap.size w w'
def StrK (w:World) (t:Tx) (e:Ending) (w':World):Prop:=e=.returned (.string (S t))∧Below w.heap.size w w'
def InK (w:World) (o:Option Tx) (e:Ending) (w':World):Prop:=e=.returned (inV o)∧Below w.heap.size w w'
structure Told11:Prop where
 of:∀(s:ByteArray) (w:World),s.size≤260000→Calls Tryz.prog 27 #[.string s] w (NumK w (kindOf E0 s.data.toList))
 head:∀(s:ByteArray) (w:World),s.size≤260000→Calls Tryz.prog 126 #[.string s] w (LevK w (hdN s.data.toList) (hdT s.data.toList))
 opens:∀(s:ByteArray) (w:World),s.size≤260000→Calls Tryz.prog 49 #[.string s] w (LevK w (opN s.data.toList) (opT s.data.toList))
 closes:∀(s:ByteArray) (n:Int) (w:World),s.size≤260000→-9223372036854775808≤n→n≤9223372036854775807→Calls Tryz.prog 50 #[.string s,.int .i64 n] w (OkAns w (clB s.data.toList n))
 unquote:∀(s:ByteArray) (w:World),s.size≤260000→Calls Tryz.prog 129 #[.string s] w (StrK w (uqT s.data.toList))
 unitem:∀(s:ByteArray) (w:World),s.size≤260000→Calls Tryz.prog 153 #[.string s] w (StrK w (uiT s.data.toList))
 inner:∀(s:ByteArray) (w:World),s.size≤260000→Calls Tryz.prog 119 #[.string s] w (InK w (Bk.inner s.data.toList))
 defines:∀(s:ByteArray) (w:World),s.size≤260000→Calls Tryz.prog 96 #[.string s] w (BlkAns w (dfB s.data.toList))
end Kd
namespace Kd
open Go.RowKit
open Tk (S S_of S_list S_size ret_int len_data)
open Sp (OkAns)
open Bk (Tx)
open Ln (trim)
theorem lib_S (l:List UInt8):(⟨l.toArray⟩:ByteArray)=S l:=rfl
theorem blankP_any (s:ByteArray) (hs:s.size≤140737488355328) (w:World):
  Calls Tryz.prog 42 #[.string s] w (OkAns w (decide (trim s.data.toList=[]))):=by
 have h:=Go.Proofs.YtpakjdgddomdjabGreatDoor.Ln.blank_any s (by omega) w;have e:(trim s.data.toList).isEmpty=decide (trim s.data.toList=[]):=by cases trim s.data.toList<;>simp
 rw[e]at h;exact h
theorem trimP_any (s:ByteArray) (hs:s.size≤140737488355328) (w:World):
 Calls Tryz.prog 73 #[.string s] w (StrK w (trim s.data.toList)):=Go.Proofs.YtpakjdgddomdjabGreatDoor.Ln.trim_any s (by omega) w
theorem cutPre_any (s p:ByteArray) (w:World):
 Calls Tryz.prog 78 #[.string s,.string p] w fun e w'=>e=.returned (.tuple #[.string (S (Lib.trimPrefix s.data.toList p.data.toList)),.bool (Lib.hasPrefix s.data.toList p.data.toList)])∧w'=w:=Tryz.strings_CutPrefix s p w
theorem idx_self (c:UInt8):Lib.indexByte [c] c=0:=by
 unfold Lib.indexByte;simp
theorem index1_any (s:ByteArray) (hs:s.size≤140737488355328) (c:UInt8) (w:World):
  Calls Tryz.prog 167 #[.string s,.string ⟨#[c]⟩] w fun e w'=>e=.returned (.int .i64 (Lib.indexByte s.data.toList c))∧w'=w:=by
 have HI:=Lib.hid (Tryz.stringslite_IndexByte s (c.toNat:Int) w);have hc:((c.toNat:Int)).toNat.toUInt8=c:=by rw[Int.toNat_natCast];exact UInt8.ofNat_toNat
 rw[hc]at HI;obtain⟨X,hX⟩:∃X,Lib.indexByte s.data.toList c=X:=⟨_,rfl⟩
 have hx0:Hid (((⟨#[c]⟩:ByteArray).toList==s.toList)=true→X=0):=Lib.hid (fun h=>by
  have h':(⟨#[c]⟩:ByteArray).data.toList=s.data.toList:=by
   have:=eq_of_beq h;rwa[Lib.toList_data,Lib.toList_data]at this
  rw[←hX,←h'];exact idx_self c)
 rw[hX]at HI ⊢;clear hX hc;have hl:(⟨#[c]⟩:ByteArray).toList=[c]:=by rw[Lib.toList_data]
 rw[hl]at hx0;clear hl;have hg:(⟨#[c]⟩:ByteArray)[0]'(Nat.zero_lt_one)=c:=rfl;obtain⟨y,hy⟩:∃y,([c]==s.toList)=y:=⟨_,rfl⟩;rw[hy]at hx0;cases y with
 |true=>
  have HR:=Lib.hid (hx0.out rfl);clear hx0 HI;go_enter Tryz.func167,Tryz.ntmps167;go_wp2_with fail;go_ret;exact⟨ret_int HR.out.symm,rfl⟩
 |false=>
  clear hx0;go_enter Tryz.func167,Tryz.ntmps167;go_wp2_with fail;refine HI.out.mono ?_;rintro e w2 ⟨rfl,rfl⟩;go_wp2_with fail;go_ret;exact⟨rfl,rfl⟩
def CutAns (w:World) (p:Tx × Tx × Bool) (e:Ending) (w':World):Prop:=e=.returned (.tuple #[.string (S p.1),.string (S p.2.1),.bool p.2.2])∧∃q,w'=w.drewN q
theorem idx_lt (t:Tx) (h:0≤Lib.indexByte t 93):(Lib.indexByte t 93).toNat<t.length:=by
 obtain⟨h1,_⟩:=idx_split t h;have:=congrArg List.length h1;rw[List.length_append,List.length_cons,List.length_take,List.length_drop]at this;omega
theorem cutL_any (s:ByteArray) (hs:s.size≤140737488355328) (w:World):
  Calls Tryz.prog 145 #[.string s,.string ⟨#[93]⟩] w (CutAns w (cuB s.data.toList)):=by
 have HI:=Lib.hid (index1_any s hs 93 w);have HX:Hid (cuB s.data.toList=if 0≤Lib.indexByte s.data.toList 93 then(s.data.toList.take (Lib.indexByte s.data.toList 93).toNat,s.data.toList.drop ((Lib.indexByte s.data.toList 93).toNat+1),true)else(s.data.toList,[],false)):=Lib.hid rfl;have hlt:=idx_lt s.data.toList;rw[len_data]at hlt;generalize cuB s.data.toList=X at *;generalize Lib.indexByte s.data.toList 93=ix at *;by_cases hi:0≤ix
 ·obtain⟨k,rfl⟩:∃k:Nat,ix=k:=⟨ix.toNat,by omega⟩
  have hk:=hlt hi;rw[Int.toNat_natCast]at hk;rw[if_pos hi,Int.toNat_natCast]at HX;obtain⟨k1,hk1⟩:∃q,q=k+1:=⟨_,rfl⟩;rw[←hk1]at HX;have HS1:=Lib.hid (fun w'=>slice_to s k (by omega) w');have HS2:=Lib.hid (fun w'=>slice_end s k1 (by omega) w');have e1:s.extract 0 k=S (s.data.toList.take k):=by rw[mid_S];rfl
  rw[e1]at HS1;rw[end_S]at HS2;have hw1:IntKind.i64.wrap ((k:Int)+1)=(k1:Int):=by rw[IntKind.wrap_i64];omega
  have hg1:decide ((k:Int)≥0)=true:=decide_eq_true (by omega);have hg2:decide ((0:Int)≤(k:Int))=true:=decide_eq_true (by omega);have s1:=HS1.out;have s2:=HS2.out;clear hk1 hk hlt e1 HS1 HS2 hi;generalize s.data.toList.take k=a1 at *;generalize s.data.toList.drop k1=a2 at *;go_enter Tryz.func145,Tryz.ntmps145;go_wp2_with fail;refine HI.out.mono ?_;rintro e w2 ⟨rfl,rfl⟩;go_wp2_with fail;go_quiet (fail);go_wp2_with fail;go_ret3;exact⟨by rw[HX.out];rfl,_,rfl⟩
 ·have hg1:decide (ix≥0)=false:=decide_eq_false (by omega)
  have hg2:decide ((0:Int)≤ix)=false:=decide_eq_false (by omega);rw[if_neg hi]at HX;have HSs:Hid (S s.data.toList=s):=Lib.hid (S_of s);clear hi hlt;go_enter Tryz.func145,Tryz.ntmps145;go_wp2_with fail;refine HI.out.mono ?_;rintro e w2 ⟨rfl,rfl⟩;go_wp2_with fail;go_ret3;exact⟨by rw[HX.out];show Ending.returned (.tuple #[.string (S s.data.toList),_,_])=_;rw[HSs.out];rfl,0,rfl⟩
theorem cut1_any (s:ByteArray) (hs:s.size≤140737488355328) (w:World):
  Calls Tryz.prog 113 #[.string s,.string ⟨#[93]⟩] w (CutAns w (cuB s.data.toList)):=by
 have HC:=Lib.hid (cutL_any s hs w);unfold CutAns at HC;go_enter Tryz.func113,Tryz.ntmps113;go_wp2_with fail;refine HC.out.mono ?_;rintro e w2 ⟨rfl,q,hq⟩;have HQ:=Lib.hid hq;clear hq;go_wp2_with fail;go_ret3;exact⟨rfl,q,HQ.out⟩
def HalAns (w:World) (p:Tx × Tx) (e:Ending) (w':World):Prop:=e=.returned (.tuple #[.string (S p.1),.string (S p.2)])∧∃q,w'=w.drewN q
theorem trim_pre1 (l:Tx) (c:UInt8):Lib.trimPrefix l [c]=if Lib.hasPrefix l [c]then l.drop 1 else l:=rfl
theorem trim_pre2 (l:Tx) (c d:UInt8):Lib.trimPrefix l [c,d]=if Lib.hasPrefix l [c,d]then l.drop 2 else l:=rfl
theorem halves_any (s:ByteArray) (hs:s.size≤140737488355328) (w:World):
  Calls Tryz.prog 79 #[.string s] w (HalAns w (halB s.data.toList)):=by
 have H1:=Lib.hid (cutPre_any s ⟨#[91]⟩ w);have l1:(⟨#[91]⟩:ByteArray).data.toList=[91]:=rfl;have l2:(⟨#[58,32]⟩:ByteArray).data.toList=[58,32]:=rfl;have H2:=Lib.hid (fun w'=>cut1_any (S (s.data.toList.drop 1)) (by rw[S_size,List.length_drop,len_data];omega) w');simp only[S_list]at H2;have H3:=Lib.hid (fun w'=>cutPre_any (S (cuB (s.data.toList.drop 1)).2.1) ⟨#[58,32]⟩ w');simp only[S_list,trim_pre2]at H3;rw[l1,trim_pre1]at H1;have HX:Hid (halB s.data.toList=if Lib.hasPrefix s.data.toList [91]then(if Lib.hasPrefix (cuB (s.data.toList.drop 1)).2.1 [58,32]then((cuB (s.data.toList.drop 1)).1,(cuB (s.data.toList.drop 1)).2.1.drop 2)else([],[]))else([],[])):=Lib.hid rfl;clear l1 l2;generalize halB s.data.toList=X at *;generalize cuB (s.data.toList.drop 1)=C at *;obtain⟨c1,c2,c3⟩:=C;unfold CutAns at H2;simp only at H2 H3 HX;obtain⟨y1,hy1⟩:∃y,Lib.hasPrefix s.data.toList [91]=y:=⟨_,rfl⟩;obtain⟨y2,hy2⟩:∃y,Lib.hasPrefix c2 [58,32]=y:=⟨_,rfl⟩;rw[hy1]at H1 HX;rw[hy2]at HX;rw[hy2]at H3;clear hy1 hy2;cases y1 with
 |false=>
  have HR:Hid (X=([],[])):=HX;clear HX H2 H3;go_enter Tryz.func79,Tryz.ntmps79;go_wp2_with fail;refine H1.out.mono ?_;rintro e w2 ⟨rfl,rfl⟩;go_wp2_with fail;go_ret2;exact⟨by rw[HR.out];rfl,0,rfl⟩
 |true=>
  rw[if_pos rfl]at H1 HX;generalize S (List.drop 1 s.data.toList)=s1 at *;go_enter Tryz.func79,Tryz.ntmps79;go_wp2_with fail;refine H1.out.mono ?_;rintro e w2 ⟨rfl,rfl⟩;clear H1;go_wp2_with fail;refine(H2.out _).mono ?_;rintro e w3 ⟨rfl,q,hq⟩;have HQ:=Lib.hid hq;clear hq H2;go_wp2_with fail;refine(H3.out _).mono ?_;rintro e w4 ⟨rfl,rfl⟩;clear H3;cases y2 with
  |false=>
   have HR:Hid (X=([],[])):=HX;clear HX;go_wp2_with fail;go_ret2;exact⟨by rw[HR.out];rfl,q,HQ.out⟩
  |true=>
   have HR:Hid (X=(c1,c2.drop 2)):=HX;clear HX;go_wp2_with fail;go_ret2;exact⟨by rw[HR.out];rfl,q,HQ.out⟩
end Kd
namespace Kd
open Go.RowKit
open Tk (S S_list S_size eq8 ne8 len_data)
open Sp (dsB ctB ret_bool OkAns destP_any ckB_S)
open Bt (labB labelP_any)
open Bk (Tx define kindOf)
open Ln (run trim run_le run_any)
theorem endsOr_any (s:ByteArray) (w:World):
  Calls Tryz.prog 75 #[.string s] w fun e w'=>e=.returned (.bool (esB s.data.toList))∧w'=w:=by
 have HX:Hid (esB s.data.toList=(s.data.toList.isEmpty||decide (s.data.toList.head? = some 32))):=Lib.hid rfl;have HEm:Hid ((s.toList==([]:List UInt8))=s.data.toList.isEmpty):=Lib.hid (by rw[Lib.toList_data];cases s.data.toList<;>rfl);generalize esB s.data.toList=X at *;rcases Nat.eq_zero_or_pos s.size with h0 |h0
 ·have hn:s.data.toList=[]:=List.eq_nil_of_length_eq_zero (by rw[len_data];exact h0)
  have em:=HEm.out;have HR:Hid (X=true):=Lib.hid (by rw[HX.out,hn];rfl);rw[hn]at em;have em':(s.toList==([]:List UInt8))=true:=em;clear HX HEm hn em h0;go_enter Tryz.func75,Tryz.ntmps75;go_wp2_with fail;go_ret;exact⟨ret_bool HR.out.symm,rfl⟩
 ·have hh:s.data.toList.head? = some s[0]:=by rw[List.head?_eq_getElem?,data_get s 0 h0]
  have hne:s.data.toList.isEmpty=false:=by
   cases hd:s.data.toList with
   |nil=>rw[hd]at hh;simp at hh
   |cons b r=>rfl
  have em:=HEm.out;rw[hne]at em;have HR:Hid (X=decide (s[0]=32)):=Lib.hid (by rw[HX.out,hne,hh];simp);have hi:(0:Int)<(s.size:Int):=by omega
  clear HX HEm hh hne;obtain⟨x,hx⟩:∃x,s[0]=x:=⟨_,rfl⟩;rw[hx]at HR
  have e1:((x.toNat:Int)==32)=decide (x=32):=by
   by_cases h:x=32
   ·rw[decide_eq_true h];exact eq8 (b:=32) h
   ·rw[decide_eq_false h];exact ne8 (b:=32) h
  generalize decide (x=32)=y at *;go_enter Tryz.func75,Tryz.ntmps75;go_wp2_with fail;go_ret;exact⟨ret_bool HR.out.symm,rfl⟩
theorem isHeading_any (s:ByteArray) (hs:s.size≤140737488355328) (w:World):
  Calls Tryz.prog 43 #[.string s] w fun e w'=>e=.returned (.bool (T2 s.data.toList))∧w'=w:=by
 have HR0:=Lib.hid (run_any s (by omega) 35 w);have HX:=Lib.hid (es_T2 s.data.toList);have hl:=run_le 35 s.data.toList;rw[len_data]at hl;have HE:=Lib.hid (endsOr_any (S (s.data.toList.drop (run 35 s.data.toList))) w);rw[S_list]at HE;have HS:=Lib.hid (fun w'=>slice_end s (run 35 s.data.toList) hl w');rw[end_S]at HS;have s1:=HS.out;clear HS;generalize T2 s.data.toList=X at *;generalize esB (s.data.toList.drop (run 35 s.data.toList))=y at *;generalize S (s.data.toList.drop (run 35 s.data.toList))=sr at *;generalize run 35 s.data.toList=n at *;by_cases a1:1≤n
 ·have g1:decide ((n:Int)≥1)=true:=decide_eq_true (by omega)
  have g1b:decide ((1:Int)≤(n:Int))=true:=decide_eq_true (by omega);have g1c:decide (1≤n)=true:=decide_eq_true a1;by_cases a2:n≤6
  ·have g2:decide ((n:Int)≤6)=true:=decide_eq_true (by omega)
   have g2c:decide (n≤6)=true:=decide_eq_true a2;have HR:Hid (X=y):=Lib.hid (by rw[HX.out,g1c,g2c];rfl);clear HX a1 a2 hl;go_enter Tryz.func43,Tryz.ntmps43;go_wp2_with fail;refine HR0.out.mono ?_;rintro e w2 ⟨rfl,rfl⟩;go_wp2_with fail;refine HE.out.mono ?_;rintro e w2 ⟨rfl,rfl⟩;go_wp2_with fail;go_ret;exact⟨ret_bool HR.out.symm,rfl⟩
  ·have g2:decide ((n:Int)≤6)=false:=decide_eq_false (by omega)
   have g2c:decide (n≤6)=false:=decide_eq_false a2;have HR:Hid (X=false):=Lib.hid (by rw[HX.out,g2c];simp);clear HX a1 a2 hl HE;go_enter Tryz.func43,Tryz.ntmps43;go_wp2_with fail;refine HR0.out.mono ?_;rintro e w2 ⟨rfl,rfl⟩;go_wp2_with fail;go_ret;exact⟨ret_bool HR.out.symm,rfl⟩
 ·have g1:decide ((n:Int)≥1)=false:=decide_eq_false (by omega)
  have g1b:decide ((1:Int)≤(n:Int))=false:=decide_eq_false (by omega);have g1c:decide (1≤n)=false:=decide_eq_false a1;have HR:Hid (X=false):=Lib.hid (by rw[HX.out,g1c];simp);clear HX a1 hl HE;go_enter Tryz.func43,Tryz.ntmps43;go_wp2_with fail;refine HR0.out.mono ?_;rintro e w2 ⟨rfl,rfl⟩;go_wp2_with fail;go_ret;exact⟨ret_bool HR.out.symm,rfl⟩
theorem isRule_any (s:ByteArray) (hs:s.size≤140737488355328) (w:World):
  Calls Tryz.prog 44 #[.string s] w fun e w'=>e=.returned (.bool (T3 s.data.toList))∧w'=w:=by
 have HR0:=Lib.hid (run_any s (by omega) 45 w);have HX:=Lib.hid (es_T3 s.data.toList);rw[len_data]at HX;generalize T3 s.data.toList=X at *;generalize run 45 s.data.toList=n at *;by_cases a1:3≤s.size
 ·have g1:decide ((s.size:Int)≥3)=true:=decide_eq_true (by omega)
  have g1b:decide ((3:Int)≤(s.size:Int))=true:=decide_eq_true (by omega);have g1c:decide (3≤s.size)=true:=decide_eq_true a1;have HR:Hid (X=decide (n=s.size)):=Lib.hid (by rw[HX.out,g1c,Bool.true_and])
  have e1:((n:Int)==(s.size:Int))=decide (n=s.size):=by
   rw[Bool.eq_iff_iff,beq_iff_eq,decide_eq_true_iff];omega
  clear HX a1;generalize decide (n=s.size)=y at *;go_enter Tryz.func44,Tryz.ntmps44;go_wp2_with fail;refine HR0.out.mono ?_;rintro e w2 ⟨rfl,rfl⟩;go_wp2_with fail;go_ret;exact⟨ret_bool HR.out.symm,rfl⟩
 ·have g1:decide ((s.size:Int)≥3)=false:=decide_eq_false (by omega)
  have g1b:decide ((3:Int)≤(s.size:Int))=false:=decide_eq_false (by omega);have g1c:decide (3≤s.size)=false:=decide_eq_false a1;have HR:Hid (X=false):=Lib.hid (by rw[HX.out,g1c];simp);clear HX a1 HR0;go_enter Tryz.func44,Tryz.ntmps44;go_wp2_with fail;go_ret;exact⟨ret_bool HR.out.symm,rfl⟩
theorem isFence_any (s:ByteArray) (hs:s.size≤140737488355328) (w:World):
  Calls Tryz.prog 45 #[.string s] w fun e w'=>e=.returned (.bool (T4 s.data.toList))∧w'=w:=by
 have HR0:=Lib.hid (run_any s (by omega) 96 w);have HX:=Lib.hid (es_T4 s.data.toList);have hl:=run_le 96 s.data.toList;rw[len_data]at hl;have HI:=Lib.hid (Tryz.strings_IndexByte (S (s.data.toList.drop (run 96 s.data.toList))) 96 w);have h96:(96:Int).toNat.toUInt8=96:=rfl;rw[S_list,h96]at HI;have HS:=Lib.hid (fun w'=>slice_end s (run 96 s.data.toList) hl w');rw[end_S]at HS;have s1:=HS.out;clear HS h96;generalize T4 s.data.toList=X at *;generalize Lib.indexByte (s.data.toList.drop (run 96 s.data.toList)) 96=ix at *;generalize S (s.data.toList.drop (run 96 s.data.toList))=sr at *;generalize run 96 s.data.toList=n at *;by_cases a1:3≤n
 ·have g1:decide ((n:Int)≥3)=true:=decide_eq_true (by omega)
  have g1b:decide ((3:Int)≤(n:Int))=true:=decide_eq_true (by omega);have g1c:decide (3≤n)=true:=decide_eq_true a1;have HR:Hid (X=decide (ix<0)):=Lib.hid (by rw[HX.out,g1c,Bool.true_and]);clear HX a1 hl;go_enter Tryz.func45,Tryz.ntmps45;go_wp2_with fail;refine HR0.out.mono ?_;rintro e w2 ⟨rfl,rfl⟩;go_wp2_with fail;refine HI.out.mono ?_;rintro e w2 ⟨rfl,rfl⟩;go_wp2_with fail;go_ret;exact⟨ret_bool HR.out.symm,rfl⟩
 ·have g1:decide ((n:Int)≥3)=false:=decide_eq_false (by omega)
  have g1b:decide ((3:Int)≤(n:Int))=false:=decide_eq_false (by omega);have g1c:decide (3≤n)=false:=decide_eq_false a1;have HR:Hid (X=false):=Lib.hid (by rw[HX.out,g1c];simp);clear HX a1 hl HI;go_enter Tryz.func45,Tryz.ntmps45;go_wp2_with fail;refine HR0.out.mono ?_;rintro e w2 ⟨rfl,rfl⟩;go_wp2_with fail;go_ret;exact⟨ret_bool HR.out.symm,rfl⟩
theorem isQuote_any (s:ByteArray) (w:World):
  Calls Tryz.prog 46 #[.string s] w fun e w'=>e=.returned (.bool (decide (s.data.toList.head? = some 62)))∧w'=w:=by
 have HP:=Lib.hid (Tryz.strings_HasPrefix s ⟨#[62]⟩ w);have l1:(⟨#[62]⟩:ByteArray).data.toList=[62]:=rfl;rw[l1,pre_one]at HP;clear l1;generalize decide (s.data.toList.head? = some 62)=y at *;go_enter Tryz.func46,Tryz.ntmps46;go_wp2_with fail;refine HP.out.mono ?_;rintro e w2 ⟨rfl,rfl⟩;go_wp2_with fail;go_ret;exact⟨rfl,rfl⟩
theorem isItem_any (s:ByteArray) (w:World):
  Calls Tryz.prog 47 #[.string s] w fun e w'=>e=.returned (.bool (T6 s.data.toList))∧w'=w:=by
 have H1:=Lib.hid (cutPre_any s ⟨#[45]⟩ w);have l1:(⟨#[45]⟩:ByteArray).data.toList=[45]:=rfl;rw[l1,trim_pre1]at H1;have HE:=Lib.hid (endsOr_any (S (s.data.toList.drop 1)) w);rw[S_list]at HE;have HX:=Lib.hid (es_T6 s.data.toList);clear l1;generalize T6 s.data.toList=X at *;generalize esB (s.data.toList.drop 1)=y at *;obtain⟨y1,hy1⟩:∃y,Lib.hasPrefix s.data.toList [45]=y:=⟨_,rfl⟩;rw[hy1]at H1 HX;clear hy1;cases y1 with
 |false=>
  have HR:Hid (X=false):=HX;clear HX HE;go_enter Tryz.func47,Tryz.ntmps47;go_wp2_with fail;refine H1.out.mono ?_;rintro e w2 ⟨rfl,rfl⟩;go_wp2_with fail;go_ret;exact⟨ret_bool HR.out.symm,rfl⟩
 |true=>
  have HR:Hid (X=y):=Lib.hid (by rw[HX.out,Bool.true_and]);rw[if_pos rfl]at H1;clear HX;generalize S (List.drop 1 s.data.toList)=s1 at *;go_enter Tryz.func47,Tryz.ntmps47;go_wp2_with fail;refine H1.out.mono ?_;rintro e w2 ⟨rfl,rfl⟩;go_wp2_with fail;refine HE.out.mono ?_;rintro e w2 ⟨rfl,rfl⟩;go_wp2_with fail;go_ret;exact⟨ret_bool HR.out.symm,rfl⟩
theorem hal_len (l:Tx):(halB l).1.length≤l.length∧(halB l).2.length≤l.length:=by
 unfold halB cuB;split
 ·split
  ·split
   ·simp only[List.length_take,List.length_drop];omega
   ·simp only[List.length_nil];omega
  ·exact⟨Nat.zero_le _,Nat.zero_le _⟩
 ·exact⟨Nat.zero_le _,Nat.zero_le _⟩
theorem isDef_any (s:ByteArray) (hs:s.size≤1000000) (w:World):
  Calls Tryz.prog 48 #[.string s] w (OkAns w (define E0 s.data.toList).isSome):=by
 have HH:=Lib.hid (halves_any s (by omega) w);have hl:=hal_len s.data.toList;rw[len_data]at hl;have HL:=Lib.hid (fun w'=>labelP_any (S (halB s.data.toList).1) (by rw[S_size];omega) w');have HD:=Lib.hid (fun w'=>destP_any (S (halB s.data.toList).2) (by rw[S_size];omega) w')
 have hdt:(ctB (S (halB s.data.toList).2)&&dsB (halB s.data.toList).2)=dsB (halB s.data.toList).2:=by
  cases h:dsB (halB s.data.toList).2 with
  |false=>rw[Bool.and_false]
  |true=>rw[←ckB_S,Go.Proofs.YtpakjdgddomdjabGreatDoor.Sp.dest_text h (by omega)];rfl
 simp only[S_list,hdt]at HL HD;have HX:=Lib.hid (define_some s.data.toList);clear hdt hl;generalize (define E0 s.data.toList).isSome=X at *;generalize halB s.data.toList=P at *;obtain⟨p1,p2⟩:=P;simp only at HL HD HX;unfold HalAns at HH;generalize labB p1=y1 at *;generalize dsB p2=y2 at *;generalize hs1:S p1=s1 at *;generalize hs2:S p2=s2 at *;clear hs1 hs2;go_enter Tryz.func48,Tryz.ntmps48;go_wp2_with fail;refine HH.out.mono ?_;rintro e w2 ⟨rfl,q,hq⟩;have HB2:=Lib.hid (show Below w.heap.size w w2 from by rw[hq];exact below_drewN (Below.refl _ _) q);clear hq HH;go_wp2_with fail;refine(HL.out _).mono ?_;rintro e w3 ⟨rfl,b3⟩;have HB3:=Lib.hid (HB2.out.trans (b3.mono HB2.out.size));clear HL b3 HB2;cases y1 with
 |false=>
  have HR:Hid (X=false):=HX;clear HX HD;go_wp2_with fail;go_ret;exact⟨ret_bool HR.out.symm,HB3.out⟩
 |true=>
  have HR:Hid (X=y2):=Lib.hid (by rw[HX.out,Bool.true_and]);clear HX;go_wp2_with fail;refine(HD.out _).mono ?_;rintro e w4 ⟨rfl,b4⟩;have HB4:=Lib.hid (HB3.out.trans (b4.mono HB3.out.size));clear HD b4;go_wp2_with fail;go_ret;exact⟨ret_bool HR.out.symm,HB4.out⟩
theorem ofP_any (s:ByteArray) (hs:s.size≤1000000) (w:World):
  Calls Tryz.prog 27 #[.string s] w (NumK w (kindOf E0 s.data.toList)):=by
 have h1:=Lib.hid (blankP_any s (by omega) w);have h2:=Lib.hid (fun w'=>isHeading_any s (by omega) w');have h3:=Lib.hid (fun w'=>isRule_any s (by omega) w');have h4:=Lib.hid (fun w'=>isFence_any s (by omega) w');have h5:=Lib.hid (fun w'=>isQuote_any s w');have h6:=Lib.hid (fun w'=>isItem_any s w');have h7:=Lib.hid (fun w'=>isDef_any s hs w');have HK:=Lib.hid (kd_eq s.data.toList);generalize kindOf E0 s.data.toList=K at *;generalize decide (trim s.data.toList=[])=t1 at *;generalize T2 s.data.toList=t2 at *;generalize T3 s.data.toList=t3 at *;generalize T4 s.data.toList=t4 at *;generalize decide (s.data.toList.head? = some 62)=t5 at *;generalize T6 s.data.toList=t6 at *;generalize (define E0 s.data.toList).isSome=t7 at *;go_enter Tryz.func27,Tryz.ntmps27;go_wp2_with fail;refine h1.out.mono ?_;rintro e w2 ⟨rfl,b2⟩;have HB:=Lib.hid b2;clear b2 h1;cases t1 with
 |true=>
  go_wp2_with fail;go_ret;exact⟨by rw[HK.out];rfl,HB.out⟩
 |false=>
 go_wp2_with fail;refine(h2.out _).mono ?_;rintro e w3 ⟨rfl,rfl⟩;clear h2;cases t2 with
 |true=>
  go_wp2_with fail;go_ret;exact⟨by rw[HK.out];rfl,HB.out⟩
 |false=>
 go_wp2_with fail;refine(h3.out _).mono ?_;rintro e w3 ⟨rfl,rfl⟩;clear h3;cases t3 with
 |true=>
  go_wp2_with fail;go_ret;exact⟨by rw[HK.out];rfl,HB.out⟩
 |false=>
 go_wp2_with fail;refine(h4.out _).mono ?_;rintro e w3 ⟨rfl,rfl⟩;clear h4;cases t4 with
 |true=>
  go_wp2_with fail;go_ret;exact⟨by rw[HK.out];rfl,HB.out⟩
 |false=>
 go_wp2_with fail;refine(h5.out _).mono ?_;rintro e w3 ⟨rfl,rfl⟩;clear h5;cases t5 with
 |true=>
  go_wp2_with fail;go_ret;exact⟨by rw[HK.out];rfl,HB.out⟩
 |false=>
 go_wp2_with fail;refine(h6.out _).mono ?_;rintro e w3 ⟨rfl,rfl⟩;clear h6;cases t6 with
 |true=>
  go_wp2_with fail;go_ret;exact⟨by rw[HK.out];rfl,HB.out⟩
 |false=>
 go_wp2_with fail;refine(h7.out _).mono ?_;rintro e w4 ⟨rfl,b4⟩;have HB4:=Lib.hid (HB.out.trans (b4.mono HB.out.size));clear b4 h7;cases t7 with
 |true=>
  go_wp2_with fail;go_ret;exact⟨by rw[HK.out];rfl,HB4.out⟩
 |false=>
  go_wp2_with fail;go_ret;exact⟨by rw[HK.out];rfl,HB4.out⟩
end Kd
namespace Kd
open Go.RowKit
open Tk (S S_list S_size len_data)
open Sp (ret_bool OkAns)
open Cm (alloc_new alloc_at cell_at frozen_at lt_of_at)
open Bk (Tx define kindOf inner unquote)
open Ln (run trim run_le run_any)
theorem kdB6:∀t1 t2 t3 t4 t5 t6 t7,kdB t1 t2 t3 t4 t5 t6 t7=6→t6=true:=by decide
theorem kdB7:∀t1 t2 t3 t4 t5 t6 t7,kdB t1 t2 t3 t4 t5 t6 t7=7→t7=true:=by decide
theorem kd6 {l:Tx} (h:kindOf E0 l=6):T6 l=true:=kdB6 _ _ _ _ _ _ _ ((kd_eq l).symm.trans h)
theorem kd7 {l:Tx} (h:kindOf E0 l=7):define E0 l=some (halB l):=by
 have h1:(define E0 l).isSome=true:=kdB7 _ _ _ _ _ _ _ ((kd_eq l).symm.trans h);rw[define_some]at h1;rw[define_hal,if_pos h1]
theorem kd_nil:kindOf E0 []=1:=by decide
theorem kd_pos {l:Tx} (h:kindOf E0 l≠1):1≤l.length:=by
 cases l with
 |nil=>exact absurd kd_nil h
 |cons b r=>simp
theorem unq_eq (l:Tx):Lib.trimPrefix (l.drop 1) [32]=unquote l:=by
 unfold unquote;rw[trim_pre1,pre_one,List.head?_drop,List.drop_drop];by_cases h:l[1]? = some 32
 ·rw[if_pos (decide_eq_true h),if_pos h]
 ·rw[if_neg (by rw[decide_eq_true_iff];exact h),if_neg h]
theorem uni_eq {l:Tx} (h:T6 l=true):Lib.trimPrefix (l.drop 1) [32]=l.drop 2:=by
 unfold T6 at h;rw[trim_pre1,pre_one,List.drop_drop];rcases of_decide_eq_true h with h |h
 ·subst h;rfl
 ·have:(l.drop 1).head? = some 32:=by
   cases l with
   |nil=>simp at h
   |cons a r=>
    cases r with
    |nil=>simp at h
    |cons b r=>
     simp at h;simp[h.2]
  rw[if_pos (decide_eq_true this)]
theorem runRest_any (s:ByteArray) (hs:s.size≤140737488355328) (c:UInt8) (w:World):
  Calls Tryz.prog 82 #[.string s,.int .u8 c.toNat] w (LevK w (run c s.data.toList) (trim (s.data.toList.drop (run c s.data.toList)))):=by
 have HR:=Lib.hid (run_any s (by omega) c w);have hl:=run_le c s.data.toList;rw[len_data]at hl;have HS:=slice_end s (run c s.data.toList) hl;rw[end_S]at HS;have HT:=Lib.hid (trimP_any (S (s.data.toList.drop (run c s.data.toList))) (by rw[S_size,List.length_drop,len_data];omega) w);rw[S_list]at HT;unfold StrK at HT;generalize S (s.data.toList.drop (run c s.data.toList))=sr at *;generalize trim (s.data.toList.drop (run c s.data.toList))=tr at *;generalize run c s.data.toList=n at *;clear hl;go_enter Tryz.func82,Tryz.ntmps82;go_wp2_with fail;refine HR.out.mono ?_;rintro e w2 ⟨rfl,rfl⟩;go_wp2_with fail;refine HT.out.mono ?_;rintro e w3 ⟨rfl,b3⟩;have HB3:=Lib.hid b3;clear b3;go_wp2_with fail;go_ret2;exact⟨rfl,HB3.out⟩
theorem unmarked_any (s:ByteArray) (h1:1≤s.size) (w:World):
  Calls Tryz.prog 152 #[.string s] w (StrK w (Lib.trimPrefix (s.data.toList.drop 1) [32])):=by
 have HS:=slice_end s 1 h1;rw[end_S]at HS;have hone:((1:Nat):Int)=1:=rfl;rw[hone]at HS;have HT:=Lib.hid (Tryz.strings_TrimPrefix (S (s.data.toList.drop 1)) ⟨#[32]⟩ w);have l1:(⟨#[32]⟩:ByteArray).data.toList=[32]:=rfl;rw[S_list,l1,lib_S]at HT;clear l1 hone;generalize Lib.trimPrefix (s.data.toList.drop 1) [32]=tr at *;generalize S (s.data.toList.drop 1)=sr at *;go_enter Tryz.func152,Tryz.ntmps152;go_wp2_with fail;refine HT.out.mono ?_;rintro e w2 ⟨rfl,rfl⟩;go_wp2_with fail;go_ret;exact⟨rfl,Below.refl _ _⟩
theorem headP_any (s:ByteArray) (hs:s.size≤1000000) (w:World):
  Calls Tryz.prog 126 #[.string s] w (LevK w (hdN s.data.toList) (hdT s.data.toList)):=by
 have HO:=Lib.hid (ofP_any s hs w);have HR:=Lib.hid (fun w'=>runRest_any s (by omega) 35 w');have hc:((35:UInt8).toNat:Int)=35:=rfl;have hN:Hid (hdN s.data.toList=if kindOf E0 s.data.toList=2 then run 35 s.data.toList else 0):=Lib.hid rfl;have hT:Hid (hdT s.data.toList=if kindOf E0 s.data.toList=2 then trim (s.data.toList.drop (run 35 s.data.toList))else []):=Lib.hid rfl;rw[hc]at HR;clear hc;unfold LevK at HR;unfold NumK at HO;generalize hdN s.data.toList=rn at *;generalize hdT s.data.toList=rt at *;generalize kindOf E0 s.data.toList=K at *;generalize trim (s.data.toList.drop (run 35 s.data.toList))=tt at *;generalize run 35 s.data.toList=n at *;by_cases hk:K=2
 ·have e1:((K:Int)!=2)=false:=by rw[hk];rfl
  rw[if_pos hk]at hN hT;clear hk;go_enter Tryz.func126,Tryz.ntmps126;go_wp2_with fail;refine HO.out.mono ?_;rintro e w2 ⟨rfl,b2⟩;have HB2:=Lib.hid b2;clear b2 HO;go_wp2_with fail;refine(HR.out _).mono ?_;rintro e w3 ⟨rfl,b3⟩;have HB3:=Lib.hid (HB2.out.trans (b3.mono HB2.out.size));clear b3 HR;go_wp2_with fail;go_ret2;exact⟨by rw[hN.out,hT.out];rfl,HB3.out⟩
 ·have e1:((K:Int)!=2)=true:=by rw[bne_iff_ne];omega
  rw[if_neg hk]at hN hT;clear hk HR;go_enter Tryz.func126,Tryz.ntmps126;go_wp2_with fail;refine HO.out.mono ?_;rintro e w2 ⟨rfl,b2⟩;have HB2:=Lib.hid b2;clear b2 HO;go_wp2_with fail;go_ret2;exact⟨by rw[hN.out,hT.out];rfl,HB2.out⟩
theorem openP_any (s:ByteArray) (hs:s.size≤1000000) (w:World):
  Calls Tryz.prog 49 #[.string s] w (LevK w (opN s.data.toList) (opT s.data.toList)):=by
 have HO:=Lib.hid (ofP_any s hs w);have HR:=Lib.hid (fun w'=>runRest_any s (by omega) 96 w');have hc:((96:UInt8).toNat:Int)=96:=rfl;have hN:Hid (opN s.data.toList=if kindOf E0 s.data.toList=4 then run 96 s.data.toList else 0):=Lib.hid rfl;have hT:Hid (opT s.data.toList=if kindOf E0 s.data.toList=4 then trim (s.data.toList.drop (run 96 s.data.toList))else []):=Lib.hid rfl;rw[hc]at HR;clear hc;unfold LevK at HR;unfold NumK at HO;generalize opN s.data.toList=rn at *;generalize opT s.data.toList=rt at *;generalize kindOf E0 s.data.toList=K at *;generalize trim (s.data.toList.drop (run 96 s.data.toList))=tt at *;generalize run 96 s.data.toList=n at *;by_cases hk:K=4
 ·have e1:((K:Int)!=4)=false:=by rw[hk];rfl
  rw[if_pos hk]at hN hT;clear hk;go_enter Tryz.func49,Tryz.ntmps49;go_wp2_with fail;refine HO.out.mono ?_;rintro e w2 ⟨rfl,b2⟩;have HB2:=Lib.hid b2;clear b2 HO;go_wp2_with fail;refine(HR.out _).mono ?_;rintro e w3 ⟨rfl,b3⟩;have HB3:=Lib.hid (HB2.out.trans (b3.mono HB2.out.size));clear b3 HR;go_wp2_with fail;go_ret2;exact⟨by rw[hN.out,hT.out];rfl,HB3.out⟩
 ·have e1:((K:Int)!=4)=true:=by rw[bne_iff_ne];omega
  rw[if_neg hk]at hN hT;clear hk HR;go_enter Tryz.func49,Tryz.ntmps49;go_wp2_with fail;refine HO.out.mono ?_;rintro e w2 ⟨rfl,b2⟩;have HB2:=Lib.hid b2;clear b2 HO;go_wp2_with fail;go_ret2;exact⟨by rw[hN.out,hT.out];rfl,HB2.out⟩
theorem unquoteP_any (s:ByteArray) (hs:s.size≤1000000) (w:World):
  Calls Tryz.prog 129 #[.string s] w (StrK w (uqT s.data.toList)):=by
 have HO:=Lib.hid (ofP_any s hs w);have hT:Hid (uqT s.data.toList=if kindOf E0 s.data.toList=5 then unquote s.data.toList else []):=Lib.hid rfl;by_cases hk:kindOf E0 s.data.toList=5
 ·have HU:=Lib.hid (fun w'=>unmarked_any s (by have:=kd_pos (l:=s.data.toList) (by rw[hk];decide);rw[len_data]at this;exact this) w')
  have HE:=Lib.hid (unq_eq _:Lib.trimPrefix (s.data.toList.drop 1) [32]=unquote s.data.toList);rw[if_pos hk]at hT;have e1:((kindOf E0 s.data.toList:Int)!=5)=false:=by rw[hk];rfl
  clear hk;unfold StrK at HU;unfold NumK at HO;generalize kindOf E0 s.data.toList=K at *;generalize uqT s.data.toList=rt at *;generalize Lib.trimPrefix (s.data.toList.drop 1) [32]=tt at *;go_enter Tryz.func129,Tryz.ntmps129;go_wp2_with fail;refine HO.out.mono ?_;rintro e w2 ⟨rfl,b2⟩;have HB2:=Lib.hid b2;clear b2 HO;go_wp2_with fail;refine(HU.out _).mono ?_;rintro e w3 ⟨rfl,b3⟩;have HB3:=Lib.hid (HB2.out.trans (b3.mono HB2.out.size));clear b3 HU;go_wp2_with fail;go_ret;exact⟨by rw[hT.out,HE.out];rfl,HB3.out⟩
 ·rw[if_neg hk]at hT
  have e1:((kindOf E0 s.data.toList:Int)!=5)=true:=by rw[bne_iff_ne];omega
  clear hk;unfold NumK at HO;generalize kindOf E0 s.data.toList=K at *;generalize uqT s.data.toList=rt at *;go_enter Tryz.func129,Tryz.ntmps129;go_wp2_with fail;refine HO.out.mono ?_;rintro e w2 ⟨rfl,b2⟩;have HB2:=Lib.hid b2;clear b2 HO;go_wp2_with fail;go_ret;exact⟨by rw[hT.out];rfl,HB2.out⟩
theorem unitemP_any (s:ByteArray) (hs:s.size≤1000000) (w:World):
  Calls Tryz.prog 153 #[.string s] w (StrK w (uiT s.data.toList)):=by
 have HO:=Lib.hid (ofP_any s hs w);have hT:Hid (uiT s.data.toList=if kindOf E0 s.data.toList=6 then s.data.toList.drop 2 else []):=Lib.hid rfl;by_cases hk:kindOf E0 s.data.toList=6
 ·have HU:=Lib.hid (fun w'=>unmarked_any s (by have:=kd_pos (l:=s.data.toList) (by rw[hk];decide);rw[len_data]at this;exact this) w')
  have HE:=Lib.hid (uni_eq (kd6 hk):Lib.trimPrefix (s.data.toList.drop 1) [32]=s.data.toList.drop 2);rw[if_pos hk]at hT;have e1:((kindOf E0 s.data.toList:Int)!=6)=false:=by rw[hk];rfl
  clear hk;unfold StrK at HU;unfold NumK at HO;generalize kindOf E0 s.data.toList=K at *;generalize uiT s.data.toList=rt at *;generalize Lib.trimPrefix (s.data.toList.drop 1) [32]=tt at *;go_enter Tryz.func153,Tryz.ntmps153;go_wp2_with fail;refine HO.out.mono ?_;rintro e w2 ⟨rfl,b2⟩;have HB2:=Lib.hid b2;clear b2 HO;go_wp2_with fail;refine(HU.out _).mono ?_;rintro e w3 ⟨rfl,b3⟩;have HB3:=Lib.hid (HB2.out.trans (b3.mono HB2.out.size));clear b3 HU;go_wp2_with fail;go_ret;exact⟨by rw[hT.out,HE.out];rfl,HB3.out⟩
 ·rw[if_neg hk]at hT
  have e1:((kindOf E0 s.data.toList:Int)!=6)=true:=by rw[bne_iff_ne];omega
  clear hk;unfold NumK at HO;generalize kindOf E0 s.data.toList=K at *;generalize uiT s.data.toList=rt at *;go_enter Tryz.func153,Tryz.ntmps153;go_wp2_with fail;refine HO.out.mono ?_;rintro e w2 ⟨rfl,b2⟩;have HB2:=Lib.hid b2;clear b2 HO;go_wp2_with fail;go_ret;exact⟨by rw[hT.out];rfl,HB2.out⟩
theorem max2 (w:World) (x y:Int):(Builtin.max_ #[3,3] 3 #[.int .i64 x,.int .i64 y]).run Tryz.prog w=.ok (.int .i64 (max x y)) w:=by
 have e:∀x y:Int,(if y>x then y else x)=max x y:=fun x y=>by
  rw[Int.max_def];split<;>split<;>omega
 simp[Builtin.max_,Builtin.max2,e]
theorem closesP_any (s:ByteArray) (n:Int) (hs:s.size≤140737488355328) (w:World):
  Calls Tryz.prog 50 #[.string s,.int .i64 n] w (OkAns w (clB s.data.toList n)):=by
 have HR:=Lib.hid (run_any s (by omega) 96 w)
 have HX:Hid (clB s.data.toList n=(decide (max n 1≤(s.size:Int))&&decide (run 96 s.data.toList=s.size))):=Lib.hid (by
  unfold clB;rw[len_data,←Bool.decide_and];congr 1;rw[decide_eq_decide];omega)
 have hm:=fun w'=>max2 w' n 1
 generalize clB s.data.toList n=X at *;generalize run 96 s.data.toList=r at *;generalize max n 1=m at *;by_cases h1:m≤(s.size:Int)
 ·have g1:decide ((s.size:Int)≥m)=true:=decide_eq_true h1
  have g1b:decide (m≤(s.size:Int))=true:=decide_eq_true h1;have HX':Hid (X=decide (r=s.size)):=Lib.hid (by rw[HX.out,g1b,Bool.true_and])
  have e1:((r:Int)==(s.size:Int))=decide (r=s.size):=by
   rw[Bool.eq_iff_iff,beq_iff_eq,decide_eq_true_iff];omega
  clear HX;generalize decide (r=s.size)=y at *;go_enter Tryz.func50,Tryz.ntmps50;go_wp2_with fail;refine HR.out.mono ?_;rintro e w2 ⟨rfl,rfl⟩;go_wp2_with fail;go_ret;exact⟨ret_bool HX'.out.symm,Below.refl _ _⟩
 ·have g1:decide ((s.size:Int)≥m)=false:=decide_eq_false (by omega)
  have g1b:decide (m≤(s.size:Int))=false:=decide_eq_false h1;have HX':Hid (X=false):=Lib.hid (by rw[HX.out,g1b,Bool.false_and]);clear HX HR;go_enter Tryz.func50,Tryz.ntmps50;go_wp2_with fail;go_ret;exact⟨ret_bool HX'.out.symm,Below.refl _ _⟩
theorem innerP_any (s:ByteArray) (hs:s.size≤140737488355328) (w:World):
  Calls Tryz.prog 119 #[.string s] w (InK w (inner s.data.toList)):=by
 have H1:=Lib.hid (cutPre_any s ⟨#[32,32]⟩ w);have l1:(⟨#[32,32]⟩:ByteArray).data.toList=[32,32]:=rfl;rw[l1,trim_pre2,pre_two]at H1;have HB:=Lib.hid (fun w'=>blankP_any s hs w');have HX:Hid (inner s.data.toList=if s.data.toList.take 2=[32,32]then some (s.data.toList.drop 2)else if trim s.data.toList=[]then some []else none):=Lib.hid rfl;clear l1;generalize inner s.data.toList=X at *;by_cases hp:s.data.toList.take 2=[32,32]
 ·rw[if_pos hp]at HX
  rw[decide_eq_true hp,if_pos rfl]at H1;clear hp HB;generalize s.data.toList.drop 2=dd at *;generalize hsd:S dd=sd at *;have HSd:=Lib.hid hsd;clear hsd;go_enter Tryz.func119,Tryz.ntmps119;go_wp2_with fail;refine H1.out.mono ?_;rintro e w2 ⟨rfl,rfl⟩;go_wp2_with fail;go_ret2;exact⟨by rw[HX.out,←HSd.out];rfl,Below.refl _ _⟩
 ·rw[if_neg hp]at HX
  rw[decide_eq_false hp,if_neg (by decide)]at H1
  have HR:Hid (inV X=.tuple #[.string ⟨#[]⟩,.bool (decide (trim s.data.toList=[]))]):=Lib.hid (by
   rw[HX.out];by_cases h:trim s.data.toList=[]
   ·rw[if_pos h,decide_eq_true h];rfl
   ·rw[if_neg h,decide_eq_false h];rfl)
  clear hp HX;generalize decide (trim s.data.toList=[])=y at *;generalize S s.data.toList=sd at *;go_enter Tryz.func119,Tryz.ntmps119;go_wp2_with fail;refine H1.out.mono ?_;rintro e w2 ⟨rfl,rfl⟩;go_wp2_with fail;refine(HB.out _).mono ?_;rintro e w3 ⟨rfl,b3⟩;have HB3:=Lib.hid b3;clear b3;go_wp2_with fail;go_ret2;exact⟨by rw[HR.out];rfl,HB3.out⟩
set_option maxHeartbeats 3200000 in
theorem defineP_any (s:ByteArray) (hs:s.size≤1000000) (w:World):
  Calls Tryz.prog 96 #[.string s] w (BlkAns w (dfB s.data.toList)):=by
 have HH:=Lib.hid (fun w'=>halves_any s (by omega) w');have HO:=Lib.hid (fun w'=>ofP_any s hs w');have HX1:Hid (kindOf E0 s.data.toList=7→dfB s.data.toList=.mk 8 0 (halB s.data.toList).1 [(halB s.data.toList).2] [] []):=Lib.hid (fun h=>by unfold dfB;rw[if_pos h,kd7 h]);have HX0:Hid (kindOf E0 s.data.toList≠7→dfB s.data.toList=.mk 0 0 [] [] [] []):=Lib.hid (fun h=>by unfold dfB;rw[if_neg h]);obtain⟨X,hX⟩:∃X,dfB s.data.toList=X:=⟨_,rfl⟩;rw[hX]at HX1 HX0 ⊢;clear hX;unfold HalAns at HH;unfold NumK at HO;generalize kindOf E0 s.data.toList=K at *;generalize halB s.data.toList=P at *;obtain⟨a,d⟩:=P;simp only at HH HX1;go_enter Tryz.func96,Tryz.ntmps96;have HA1:=Lib.hid (alloc_new w (.cells #[.int .i64 0,.int .i64 0,.string ⟨#[]⟩,.slice none 0 0,.slice none 0 0,.slice none 0 0] 40));have HB1:=Lib.hid ((Below.refl w.heap.size w).alloc (Nat.le_refl _) (.cells #[.int .i64 0,.int .i64 0,.string ⟨#[]⟩,.slice none 0 0,.slice none 0 0,.slice none 0 0] 40));go_wp2_with fail;generalize w.alloc (.cells #[.int .i64 0,.int .i64 0,.string ⟨#[]⟩,.slice none 0 0,.slice none 0 0,.slice none 0 0] 40)=w1 at *;refine(HO.out _).mono ?_;rintro e w2 ⟨rfl,b2⟩;have HA2:Hid (w2.heap[w.heap.size]? = some (Obj.cells #[.int .i64 0,.int .i64 0,.string ⟨#[]⟩,.slice none 0 0,.slice none 0 0,.slice none 0 0] 40 (0,0))):=Lib.hid (by rw[b2.block _ (lt_of_at HA1.out)];exact HA1.out);have HB2:=Lib.hid (HB1.out.trans (b2.mono HB1.out.size));clear b2 HA1 HB1 HO;by_cases hk:K=7
 ·have HR:=Lib.hid (HX1.out hk)
  have e1:((K:Int)!=7)=false:=by rw[hk];rfl
  clear HX1 HX0 hk;generalize hsa:S a=sa at *;have HSa:Hid (S a=sa):=Lib.hid hsa;clear hsa;go_wp2_with fail;refine(HH.out _).mono ?_;rintro e w3 ⟨rfl,q2,hq2⟩;have HA3:Hid (w3.heap[w.heap.size]? = some (Obj.cells #[.int .i64 0,.int .i64 0,.string ⟨#[]⟩,.slice none 0 0,.slice none 0 0,.slice none 0 0] 40 (0,0))):=Lib.hid (by rw[hq2];exact HA2.out);have HB3:=Lib.hid (show Below w.heap.size w w3 from by rw[hq2];exact below_drewN HB2.out q2);clear hq2 HA2 HB2 HH;have k0:w3.cell? ⟨w.heap.size,0,none⟩=some (.int .i64 0):=cell_at HA3.out 0;have f0:w3.frozen? ⟨w.heap.size,0,none⟩=false:=frozen_at HA3.out 0;have K0:∀o,(w3.alloc o).cell? ⟨w.heap.size,0,none⟩=some (.int .i64 0):=fun o=>cell_at (alloc_at HA3.out o) 0
  have F0:∀o,(w3.alloc o).frozen? ⟨w.heap.size,0,none⟩=false:=fun o=>frozen_at (alloc_at HA3.out o) 0
  have k1:w3.cell? ⟨w.heap.size,1,none⟩=some (.int .i64 0):=cell_at HA3.out 1;have f1:w3.frozen? ⟨w.heap.size,1,none⟩=false:=frozen_at HA3.out 1;have K1:∀o,(w3.alloc o).cell? ⟨w.heap.size,1,none⟩=some (.int .i64 0):=fun o=>cell_at (alloc_at HA3.out o) 1
  have F1:∀o,(w3.alloc o).frozen? ⟨w.heap.size,1,none⟩=false:=fun o=>frozen_at (alloc_at HA3.out o) 1
  have k2:w3.cell? ⟨w.heap.size,2,none⟩=some (.string ⟨#[]⟩):=cell_at HA3.out 2;have f2:w3.frozen? ⟨w.heap.size,2,none⟩=false:=frozen_at HA3.out 2;have K2:∀o,(w3.alloc o).cell? ⟨w.heap.size,2,none⟩=some (.string ⟨#[]⟩):=fun o=>cell_at (alloc_at HA3.out o) 2
  have F2:∀o,(w3.alloc o).frozen? ⟨w.heap.size,2,none⟩=false:=fun o=>frozen_at (alloc_at HA3.out o) 2
  have k3:w3.cell? ⟨w.heap.size,3,none⟩=some (.slice none 0 0):=cell_at HA3.out 3;have f3:w3.frozen? ⟨w.heap.size,3,none⟩=false:=frozen_at HA3.out 3;have K3:∀o,(w3.alloc o).cell? ⟨w.heap.size,3,none⟩=some (.slice none 0 0):=fun o=>cell_at (alloc_at HA3.out o) 3
  have F3:∀o,(w3.alloc o).frozen? ⟨w.heap.size,3,none⟩=false:=fun o=>frozen_at (alloc_at HA3.out o) 3
  have k4:w3.cell? ⟨w.heap.size,4,none⟩=some (.slice none 0 0):=cell_at HA3.out 4;have f4:w3.frozen? ⟨w.heap.size,4,none⟩=false:=frozen_at HA3.out 4;have K4:∀o,(w3.alloc o).cell? ⟨w.heap.size,4,none⟩=some (.slice none 0 0):=fun o=>cell_at (alloc_at HA3.out o) 4
  have F4:∀o,(w3.alloc o).frozen? ⟨w.heap.size,4,none⟩=false:=fun o=>frozen_at (alloc_at HA3.out o) 4
  have k5:w3.cell? ⟨w.heap.size,5,none⟩=some (.slice none 0 0):=cell_at HA3.out 5;have f5:w3.frozen? ⟨w.heap.size,5,none⟩=false:=frozen_at HA3.out 5;have K5:∀o,(w3.alloc o).cell? ⟨w.heap.size,5,none⟩=some (.slice none 0 0):=fun o=>cell_at (alloc_at HA3.out o) 5
  have F5:∀o,(w3.alloc o).frozen? ⟨w.heap.size,5,none⟩=false:=fun o=>frozen_at (alloc_at HA3.out o) 5
  go_wp2_with fail;have HS:=Lib.hid (set6 (u0:=.int .i64 8) (u1:=.int .i64 0) (u2:=.string sa) (u3:=.slice (some ⟨w3.heap.size,0,none⟩) 1 1) (u4:=.slice none 0 0) (u5:=.slice none 0 0) (alloc_at HA3.out (.cells #[.string (S d)] 9)));have HB:=Lib.hid (set6_below (HB3.out.alloc HB3.out.size (.cells #[.string (S d)] 9)) (Nat.le_refl _) (.int .i64 8) (.int .i64 0) (.string sa) (.slice (some ⟨w3.heap.size,0,none⟩) 1 1) (.slice none 0 0) (.slice none 0 0));have hne:w3.heap.size≠w.heap.size:=by have:=lt_of_at HA3.out;omega
  have HR5:=Lib.hid (set6_other (w:=w3.alloc (.cells #[.string (S d)] 9)) hne (.int .i64 8) (.int .i64 0) (.string sa) (.slice (some ⟨w3.heap.size,0,none⟩) 1 1) (.slice none 0 0) (.slice none 0 0));have HN:=Lib.hid (alloc_new w3 (.cells #[.string (S d)] 9));have HR6:=Lib.hid (HR5.out.trans HN.out);clear HR5 HN;generalize (((((((w3.alloc (.cells #[.string (S d)] 9)).setCell ⟨w.heap.size,0,none⟩ (.int .i64 8)).setCell ⟨w.heap.size,1,none⟩ (.int .i64 0)).setCell ⟨w.heap.size,2,none⟩ (.string sa)).setCell ⟨w.heap.size,3,none⟩ (.slice (some ⟨w3.heap.size,0,none⟩) 1 1)).setCell ⟨w.heap.size,4,none⟩ (.slice none 0 0)).setCell ⟨w.heap.size,5,none⟩ (.slice none 0 0))=w5 at *;have r0:w5.cell? ⟨w.heap.size,0,none⟩=some (.int .i64 8):=cell_at HS.out 0;have r1:w5.cell? ⟨w.heap.size,1,none⟩=some (.int .i64 0):=cell_at HS.out 1;have r2:w5.cell? ⟨w.heap.size,2,none⟩=some (.string sa):=cell_at HS.out 2;have r3:w5.cell? ⟨w.heap.size,3,none⟩=some (.slice (some ⟨w3.heap.size,0,none⟩) 1 1):=cell_at HS.out 3;have r4:w5.cell? ⟨w.heap.size,4,none⟩=some (.slice none 0 0):=cell_at HS.out 4;have r5:w5.cell? ⟨w.heap.size,5,none⟩=some (.slice none 0 0):=cell_at HS.out 5;exact bodyPost_ret (v:=.agg #[.int .i64 8,.int .i64 0,.string sa,.slice (some ⟨w3.heap.size,0,none⟩) 1 1,.slice none 0 0,.slice none 0 0]) (by simp[results,Tryz.results96,go_sem,r0,r1,r2,r3,r4,r5]) rfl (blk_one HSa.out HB.out HR6.out HR.out)
 ·have HR:=Lib.hid (HX0.out hk)
  have e1:((K:Int)!=7)=true:=by rw[bne_iff_ne];omega
  clear HX1 HX0 hk HH;have HA3:=HA2;have HB3:=HB2;have k0:w2.cell? ⟨w.heap.size,0,none⟩=some (.int .i64 0):=cell_at HA3.out 0;have f0:w2.frozen? ⟨w.heap.size,0,none⟩=false:=frozen_at HA3.out 0;have K0:∀o,(w2.alloc o).cell? ⟨w.heap.size,0,none⟩=some (.int .i64 0):=fun o=>cell_at (alloc_at HA3.out o) 0
  have F0:∀o,(w2.alloc o).frozen? ⟨w.heap.size,0,none⟩=false:=fun o=>frozen_at (alloc_at HA3.out o) 0
  have k1:w2.cell? ⟨w.heap.size,1,none⟩=some (.int .i64 0):=cell_at HA3.out 1;have f1:w2.frozen? ⟨w.heap.size,1,none⟩=false:=frozen_at HA3.out 1;have K1:∀o,(w2.alloc o).cell? ⟨w.heap.size,1,none⟩=some (.int .i64 0):=fun o=>cell_at (alloc_at HA3.out o) 1
  have F1:∀o,(w2.alloc o).frozen? ⟨w.heap.size,1,none⟩=false:=fun o=>frozen_at (alloc_at HA3.out o) 1
  have k2:w2.cell? ⟨w.heap.size,2,none⟩=some (.string ⟨#[]⟩):=cell_at HA3.out 2;have f2:w2.frozen? ⟨w.heap.size,2,none⟩=false:=frozen_at HA3.out 2;have K2:∀o,(w2.alloc o).cell? ⟨w.heap.size,2,none⟩=some (.string ⟨#[]⟩):=fun o=>cell_at (alloc_at HA3.out o) 2
  have F2:∀o,(w2.alloc o).frozen? ⟨w.heap.size,2,none⟩=false:=fun o=>frozen_at (alloc_at HA3.out o) 2
  have k3:w2.cell? ⟨w.heap.size,3,none⟩=some (.slice none 0 0):=cell_at HA3.out 3;have f3:w2.frozen? ⟨w.heap.size,3,none⟩=false:=frozen_at HA3.out 3;have K3:∀o,(w2.alloc o).cell? ⟨w.heap.size,3,none⟩=some (.slice none 0 0):=fun o=>cell_at (alloc_at HA3.out o) 3
  have F3:∀o,(w2.alloc o).frozen? ⟨w.heap.size,3,none⟩=false:=fun o=>frozen_at (alloc_at HA3.out o) 3
  have k4:w2.cell? ⟨w.heap.size,4,none⟩=some (.slice none 0 0):=cell_at HA3.out 4;have f4:w2.frozen? ⟨w.heap.size,4,none⟩=false:=frozen_at HA3.out 4;have K4:∀o,(w2.alloc o).cell? ⟨w.heap.size,4,none⟩=some (.slice none 0 0):=fun o=>cell_at (alloc_at HA3.out o) 4
  have F4:∀o,(w2.alloc o).frozen? ⟨w.heap.size,4,none⟩=false:=fun o=>frozen_at (alloc_at HA3.out o) 4
  have k5:w2.cell? ⟨w.heap.size,5,none⟩=some (.slice none 0 0):=cell_at HA3.out 5;have f5:w2.frozen? ⟨w.heap.size,5,none⟩=false:=frozen_at HA3.out 5;have K5:∀o,(w2.alloc o).cell? ⟨w.heap.size,5,none⟩=some (.slice none 0 0):=fun o=>cell_at (alloc_at HA3.out o) 5
  have F5:∀o,(w2.alloc o).frozen? ⟨w.heap.size,5,none⟩=false:=fun o=>frozen_at (alloc_at HA3.out o) 5
  go_wp2_with fail;have HS:=Lib.hid (set6 (u0:=.int .i64 0) (u1:=.int .i64 0) (u2:=.string ⟨#[]⟩) (u3:=.slice none 0 0) (u4:=.slice none 0 0) (u5:=.slice none 0 0) HA3.out);have HB:=Lib.hid (set6_below HB3.out (Nat.le_refl _) (.int .i64 0) (.int .i64 0) (.string ⟨#[]⟩) (.slice none 0 0) (.slice none 0 0) (.slice none 0 0));generalize ((((((w2.setCell ⟨w.heap.size,0,none⟩ (.int .i64 0)).setCell ⟨w.heap.size,1,none⟩ (.int .i64 0)).setCell ⟨w.heap.size,2,none⟩ (.string ⟨#[]⟩)).setCell ⟨w.heap.size,3,none⟩ (.slice none 0 0)).setCell ⟨w.heap.size,4,none⟩ (.slice none 0 0)).setCell ⟨w.heap.size,5,none⟩ (.slice none 0 0))=w5 at *;have r0:w5.cell? ⟨w.heap.size,0,none⟩=some (.int .i64 0):=cell_at HS.out 0;have r1:w5.cell? ⟨w.heap.size,1,none⟩=some (.int .i64 0):=cell_at HS.out 1;have r2:w5.cell? ⟨w.heap.size,2,none⟩=some (.string ⟨#[]⟩):=cell_at HS.out 2;have r3:w5.cell? ⟨w.heap.size,3,none⟩=some (.slice none 0 0):=cell_at HS.out 3;have r4:w5.cell? ⟨w.heap.size,4,none⟩=some (.slice none 0 0):=cell_at HS.out 4;have r5:w5.cell? ⟨w.heap.size,5,none⟩=some (.slice none 0 0):=cell_at HS.out 5;exact bodyPost_ret (v:=.agg #[.int .i64 0,.int .i64 0,.string ⟨#[]⟩,.slice none 0 0,.slice none 0 0,.slice none 0 0]) (by simp[results,Tryz.results96,go_sem,r0,r1,r2,r3,r4,r5]) rfl (blk_zero HB.out HR.out)
theorem told11:Told11 where
 of:=fun s w h=>ofP_any s (by omega) w
 head:=fun s w h=>headP_any s (by omega) w
 opens:=fun s w h=>openP_any s (by omega) w
 closes:=fun s n w h _ _=>closesP_any s n (by omega) w
 unquote:=fun s w h=>unquoteP_any s (by omega) w
 unitem:=fun s w h=>unitemP_any s (by omega) w
 inner:=fun s w h=>innerP_any s (by omega) w
 defines:=fun s w h=>defineP_any s (by omega) w
end Kd
end Go.Proofs.YtpakjdgddomdjabGreatDoor
