import Derived.Lib.SlTrimSet
import Derived.Lib.Join
import Derived.Lib.Strings
import Derived.Lib.Hide
import Derived.Test.YtpakjdgddomdjabGreatDoorShelf
import Derived.Shelf.Strings.SlTrimAscii
import Derived.WalkKit
import Derived.Laws.IdiomStrings
import Derived.Deep.QuietTactic
import Derived.Lib.MinMax
import Derived.Sort.EncStr
import Derived.WalkMore
import Derived.BigQuiet
import Derived.WalkSmall
import Derived.Lib.SlBytesRow
set_option linter.unusedVariables false
namespace Go.Proofs.YtpakjdgddomdjabGreatDoor
namespace Ln
def S (l:List UInt8):ByteArray:=⟨l.toArray⟩
theorem S_list (l:List UInt8):(S l).data.toList=l:=by simp[S]
theorem S_toList (l:List UInt8):(S l).toList=l:=by rw[Lib.toList_data,S_list]
theorem S_of (s:ByteArray):S s.data.toList=s:=by
 apply ByteArray.ext;simp[S]
theorem drop_cons (l:List UInt8) (k:Nat) (h:k<l.length):l.drop k=l[k]::l.drop (k+1):=List.drop_eq_getElem_cons h
def run (c:UInt8):List UInt8→Nat
 |[]=>0
 |b::r=>if b=c then run c r+1 else 0
theorem run_le (c:UInt8):∀l,run c l≤l.length
 |[]=>Nat.le_refl _
 |b::r=>by
  have:=run_le c r;unfold run;split<;>simp<;>omega
theorem run_yes {c b:UInt8} (h:b=c) (r:List UInt8):run c (b::r)=run c r+1:=if_pos h
theorem run_no {c b:UInt8} (h:b≠c) (r:List UInt8):run c (b::r)=0:=if_neg h
def mx (c:UInt8):List UInt8→Nat
 |[]=>0
 |b::r=>max (run c (b::r)) (mx c r)
theorem run_le_mx (c:UInt8):∀l,run c l≤mx c l
 |[]=>Nat.le_refl _
 |b::r=>Nat.le_max_left _ _
theorem mx_le (c:UInt8):∀l,mx c l≤l.length
 |[]=>Nat.le_refl _
 |b::r=>by
  have h1:=mx_le c r;have h2:=run_le c (b::r);show max _ _≤_;simp only[List.length_cons]at h2 ⊢;omega
def lg (c:UInt8) (m n:Nat):List UInt8→Nat
 |[]=>m
 |b::r=>if b=c then lg c (max m (n+1)) (n+1) r else lg c m 0 r
theorem lg_eq (c:UInt8):∀(l:List UInt8) (m n:Nat),n≤m→lg c m n l=max m (max (n+run c l) (mx c l))
 |[],m,n,h=>by
  show m=max m (max (n+0) 0);omega
 |b::r,m,n,h=>by
  have h0:=run_le_mx c r;unfold lg;by_cases e:b=c
  ·rw[if_pos e,lg_eq c r _ _ (Nat.le_max_right _ _),run_yes e]
   show _=max m (max _ (max (run c (b::r)) (mx c r)));rw[run_yes e];omega
  ·rw[if_neg e,lg_eq c r _ _ (Nat.zero_le _),run_no e]
   show _=max m (max _ (max (run c (b::r)) (mx c r)));rw[run_no e];omega
theorem lg_mx (c:UInt8) (l:List UInt8):lg c 0 0 l=mx c l:=by
 have:=run_le_mx c l;rw[lg_eq c l 0 0 (Nat.le_refl _)];omega
theorem lg_yes {c b:UInt8} (h:b=c) (m n:Nat) (r:List UInt8):lg c m n (b::r)=lg c (max m (n+1)) (n+1) r:=if_pos h
theorem lg_no {c b:UInt8} (h:b≠c) (m n:Nat) (r:List UInt8):lg c m n (b::r)=lg c m 0 r:=if_neg h
theorem mx_zero (c:UInt8):∀l,mx c l=0→c∉l
 |[],_=>by simp
 |b::r,h=>by
  have h1:max (run c (b::r)) (mx c r)=0:=h;have h2:=mx_zero c r (by omega);have h3:b≠c:=fun e=>by rw[run_yes e]at h1;omega
  intro hm;rcases List.mem_cons.1 hm with rfl |hm
  ·exact h3 rfl
  ·exact h2 hm
theorem mx_none (c:UInt8):∀l,c∉l→mx c l=0
 |[],_=>rfl
 |b::r,h=>by
  have h2:=mx_none c r (fun hm=>h (List.mem_cons_of_mem _ hm));have h3:b≠c:=fun e=>h (by rw[e];exact List.mem_cons_self ..)
  show max (run c (b::r)) (mx c r)=0;rw[run_no h3,h2];rfl
def gapB (b:UInt8):Bool:=b==32||b==9
def dl (l:List UInt8):List UInt8:=l.dropWhile gapB
def dr (l:List UInt8):List UInt8:=(l.reverse.dropWhile gapB).reverse
def trim (l:List UInt8):List UInt8:=dl (dr l)
theorem trimS_eq (l:List UInt8):Lib.trimS l [32,9]=trim l:=by
 have h:(fun b:UInt8=>[32,9].contains b)=gapB:=by
  funext b;show(b==32||(b==9||false))=_;rw[Bool.or_false];rfl
 unfold Lib.trimS Lib.trimLeftS Lib.trimRightS trim dl dr;rw[h]
theorem dl_yes {b:UInt8} (h:gapB b=true) (r:List UInt8):dl (b::r)=dl r:=by unfold dl;rw[List.dropWhile_cons_of_pos h]
theorem dl_no {b:UInt8} (h:gapB b=false) (r:List UInt8):dl (b::r)=b::r:=by unfold dl;rw[List.dropWhile_cons_of_neg (by simp[h])]
theorem dr_cons (b:UInt8) (r:List UInt8):dr (b::r)=if dr r=[]then(if gapB b then []else [b])else b::dr r:=by
 unfold dr;rw[List.reverse_cons,List.dropWhile_append];by_cases h:(r.reverse.dropWhile gapB).isEmpty=true
 ·rw[if_pos h,if_pos (by rw[List.isEmpty_iff.1 h];rfl)]
  cases hg:gapB b with
  |true=>rw[List.dropWhile_cons_of_pos hg];rfl
  |false=>rw[List.dropWhile_cons_of_neg (by simp[hg])];rfl
 ·rw[if_neg h,if_neg (by simpa using h)]
  simp
theorem dr_dl:∀l:List UInt8,dr (dl l)=dl (dr l)
 |[]=>rfl
 |b::r=>by
  have ih:=dr_dl r;cases h:gapB b with
  |true=>
   rw[dl_yes h,ih,dr_cons,h];by_cases e:dr r=[]
   ·rw[if_pos e,e];rfl
   ·rw[if_neg e,dl_yes h]
  |false=>
   rw[dl_no h,dr_cons,h];by_cases e:dr r=[]
   ·rw[if_pos e];simp[dl_no h]
   ·rw[if_neg e,dl_no h]
theorem dl_len (l:List UInt8):(dl l).length≤l.length:=(List.dropWhile_sublist _).length_le
theorem dr_len (l:List UInt8):(dr l).length≤l.length:=by
 unfold dr;rw[List.length_reverse];have:=(List.dropWhile_sublist (l:=l.reverse) gapB).length_le;rwa[List.length_reverse]at this
theorem trim_len (l:List UInt8):(trim l).length≤l.length:=Nat.le_trans (dl_len _) (dr_len _)
theorem dl_head:∀(l:List UInt8) (b:UInt8),(dl l).head? = some b→gapB b=false
 |[],b,h=>by simp[dl]at h
 |x::r,b,h=>by
  cases hx:gapB x with
  |true=>rw[dl_yes hx]at h;exact dl_head r b h
  |false=>rw[dl_no hx]at h;simp at h;rw[←h];exact hx
theorem dr_last (l:List UInt8) (b:UInt8) (h:(dr l).getLast? = some b):gapB b=false:=by
 unfold dr at h;rw[List.getLast?_reverse]at h;exact dl_head l.reverse b h
theorem dl_fix (l:List UInt8) (h:∀b,l.head? = some b→gapB b=false):dl l=l:=by
 cases l with
 |nil=>rfl
 |cons b r=>exact dl_no (h b rfl) r
theorem dr_fix (l:List UInt8) (h:∀b,l.getLast? = some b→gapB b=false):dr l=l:=by
 unfold dr;have:=dl_fix l.reverse (fun b hb=>h b (by rw[List.head?_reverse]at hb;exact hb));unfold dl at this;rw[this,List.reverse_reverse]
theorem trim_head (l:List UInt8) (b:UInt8) (h:(trim l).head? = some b):gapB b=false:=dl_head _ b h
theorem trim_last (l:List UInt8) (b:UInt8) (h:(trim l).getLast? = some b):gapB b=false:=by
 unfold trim at h;rw[←dr_dl]at h;exact dr_last _ b h
def strip (l:List UInt8):List UInt8:=if l.getLast? = some 13 then l.dropLast else l
def ls:List UInt8→List UInt8→List (List UInt8) × Bool
 |cur,[]=>if cur=[]then([],true)else([cur],false)
 |cur,b::r=>
  if b=10 then(strip cur::(ls [] r).1,(ls [] r).2)
  else if b=13∧r.head?≠some 10 then(cur::(ls [] r).1,(ls [] r).2)
  else ls (cur++[b]) r
def split (l:List UInt8):List (List UInt8) × Bool:=ls [] l
theorem ls_lf (cur r:List UInt8):ls cur (10::r)=(strip cur::(ls [] r).1,(ls [] r).2):=by rw[ls,if_pos rfl]
theorem ls_cr (cur r:List UInt8) (h:r.head?≠some 10):ls cur (13::r)=(cur::(ls [] r).1,(ls [] r).2):=by rw[ls,if_neg (by decide),if_pos ⟨rfl,h⟩]
theorem ls_crlf (cur r:List UInt8):ls cur (13::10::r)=ls (cur++[13]) (10::r):=by
 rw[ls,if_neg (by decide),if_neg (by simp)]
theorem ls_on (cur:List UInt8) (b:UInt8) (r:List UInt8) (h1:b≠10) (h2:b≠13):ls cur (b::r)=ls (cur++[b]) r:=by
 rw[ls,if_neg h1,if_neg (fun h=>h2 h.1)]
theorem strip_snoc (cur:List UInt8):strip (cur++[13])=cur:=by simp[strip]
theorem strip_id (cur:List UInt8) (h:(13:UInt8)∉cur):strip cur=cur:=by
 unfold strip;rw[if_neg (fun e=>h (List.mem_of_getLast? e))]
theorem ls_run (r:List UInt8):∀(x cur:List UInt8),(10:UInt8)∉x→(13:UInt8)∉x→ls cur (x++r)=ls (cur++x) r
 |[],cur,_,_=>by simp
 |b::x,cur,h1,h2=>by
  rw[List.cons_append,ls_on _ _ _ (fun e=>h1 (by simp[e])) (fun e=>h2 (by simp[e])),ls_run r x _ (fun h=>h1 (List.mem_cons_of_mem _ h)) (fun h=>h2 (List.mem_cons_of_mem _ h)),List.append_assoc];rfl
def jn:List (List UInt8)→Bool→List UInt8
 |[],_=>[]
 |[x],e=>if e then x++[10]else x
 |x::y::r,e=>x++10::jn (y::r) e
theorem jn_cons2 (x y:List UInt8) (r:List (List UInt8)) (e:Bool):jn (x::y::r) e=x++10::jn (y::r) e:=rfl
theorem jn_false:∀l,jn l false=Lib.join l [10]
 |[]=>by simp[jn,Lib.join,List.intercalate]
 |[x]=>by simp[jn,Lib.join,List.intercalate]
 |x::y::r=>by
  rw[jn_cons2,jn_false (y::r)];simp[Lib.join,List.intercalate]
theorem jn_true:∀l,l≠[]→jn l true=jn l false++[10]
 |[],h=>absurd rfl h
 |[x],_=>by simp[jn]
 |x::y::r,_=>by
  rw[jn_cons2,jn_cons2,jn_true (y::r) (by simp)];simp
theorem split_jn_true:∀l,(∀x∈l,(10:UInt8)∉x∧(13:UInt8)∉x)→split (jn l true)=(l,true)
 |[],_=>by simp[split,jn,ls]
 |[x],h=>by
  obtain⟨h1,h2⟩:=h x (by simp);show ls [] (x++10::[])=_;rw[ls_run _ x [] h1 h2,ls_lf,List.nil_append,strip_id x h2];simp[ls]
 |x::y::r,h=>by
  obtain⟨h1,h2⟩:=h x (by simp);have ih:ls [] (jn (y::r) true)=_:=split_jn_true (y::r) (fun z hz=>h z (List.mem_cons_of_mem _ hz));show ls [] (x++10::jn (y::r) true)=_;rw[ls_run _ x [] h1 h2,ls_lf,List.nil_append,strip_id x h2,ih]
end Ln
namespace Ln
open Go.RowKit
theorem ret_int {x y:Int} (h:x=y):Ending.returned (.int .i64 x)=Ending.returned (.int .i64 y):=by rw[h]
theorem eq8 {a b:UInt8} (h:a=b):((a.toNat:Int)==(b.toNat:Int))=true:=by simp[h]
theorem ne8 {a b:UInt8} (h:a≠b):((a.toNat:Int)==(b.toNat:Int))=false:=by
 rw[beq_eq_false_iff_ne];intro e;exact h (UInt8.toNat_inj.1 (by omega))
theorem len_data (s:ByteArray):s.data.toList.length=s.size:=by simp
theorem at_data (s:ByteArray) (k:Nat) (h:k<s.size):s.data.toList.drop k=s[k]::s.data.toList.drop (k+1):=by
 rw[drop_cons _ k (by simpa using h)];rfl
theorem drop_all (s:ByteArray) (k:Nat) (h:¬k<s.size):s.data.toList.drop k=[]:=List.drop_eq_nil_of_le (by simp;omega)
theorem run_any (s:ByteArray) (hs:s.size≤9223372036854775806) (c:UInt8) (w:World):
  Calls Tryz.prog 74 #[.string s,.int .u8 c.toNat] w fun e w'=>e=.returned (.int .i64 (run c s.data.toList))∧w=w':=by
 have H0:=Lib.hid (show run c s.data.toList=0+run c (s.data.toList.drop 0)by simp);go_enter Tryz.func74,Tryz.ntmps74;go_wp2_with fail;go_loop [8] (fun i=>∃k:Nat,k≤s.size∧i=.int .i64 k∧run c s.data.toList=k+run c (s.data.toList.drop k)) (fun i=>s.size-(intOf i).toNat)
 case atStart=>exact⟨0,Nat.zero_le _,rfl,H0.out⟩
 case round=>
  clear H0;obtain⟨k,hk,rfl,hr⟩:=hrel;by_cases hlt:k<s.size
  ·rw[at_data s k hlt]at hr
   by_cases hc:s[k]=c
   ·rw[run_yes hc]at hr
    have e1:=eq8 hc;have Hr:=Lib.hid hr;clear hr hc;go_wp2_with fail;go_round
    case rel=>exact⟨k+1,by omega,by go_num,by rw[Hr.out];omega⟩
    case measure=>simp[intOf];omega
   ·rw[run_no hc]at hr
    have e1:=ne8 hc;have Hr:=Lib.hid hr;clear hr hc;go_wp2_with fail;go_ret;exact⟨ret_int (by rw[Hr.out];omega),rfl⟩
  ·rw[drop_all s k hlt]at hr
   have Hr:=Lib.hid (show run c s.data.toList=s.size by rw[hr];show k+0=_;omega);clear hr;go_wp2_with fail;go_ret;exact⟨ret_int (by rw[Hr.out]),rfl⟩
theorem longest_any (s:ByteArray) (hs:s.size≤9223372036854775806) (c:UInt8) (w:World):
  Calls Tryz.prog 31 #[.string s,.int .u8 c.toNat] w fun e w'=>e=.returned (.int .i64 (mx c s.data.toList))∧w=w':=by
 have H0:=Lib.hid (show mx c s.data.toList=lg c 0 0 (s.data.toList.drop 0)by rw[List.drop_zero,lg_mx]);go_enter Tryz.func31,Tryz.ntmps31;go_wp2_with fail;go_loop [5,6,10] (fun m n i=>∃k a b:Nat,k≤s.size∧a≤k∧b≤k∧i=.int .i64 k∧m=.int .i64 a∧n=.int .i64 b∧mx c s.data.toList=lg c a b (s.data.toList.drop k)) (fun _ _ i=>s.size-(intOf i).toNat)
 case atStart=>exact⟨0,0,0,Nat.zero_le _,Nat.le_refl _,Nat.le_refl _,rfl,rfl,rfl,H0.out⟩
 case round=>
  clear H0;obtain⟨k,a,b,hk,ha,hb,rfl,rfl,rfl,hr⟩:=hrel;by_cases hlt:k<s.size
  ·rw[at_data s k hlt]at hr
   by_cases hc:s[k]=c
   ·rw[lg_yes hc]at hr
    have e1:=eq8 hc;have Hr:=Lib.hid hr;clear hr hc;go_wp2_with fail;go_round
    case rel=>exact⟨k+1,max a (b+1),b+1,by omega,by omega,by omega,by go_num,by go_num,by go_num,Hr.out⟩
    case measure=>simp[intOf];omega
   ·rw[lg_no hc]at hr
    have e1:=ne8 hc;have Hr:=Lib.hid hr;clear hr hc;go_wp2_with fail;go_round
    case rel=>exact⟨k+1,a,0,by omega,by omega,by omega,by go_num,rfl,rfl,Hr.out⟩
    case measure=>simp[intOf];omega
  ·rw[drop_all s k hlt]at hr
   have Hr:=Lib.hid (show mx c s.data.toList=a by rw[hr];rfl);clear hr;go_wp2_with fail;go_ret;exact⟨ret_int (by rw[Hr.out]),rfl⟩
end Ln
namespace Ln
open Go.RowKit
def sz:Value→Nat
 |.string x=>x.size
 |_=>0
theorem trim_any (s:ByteArray) (hs:s.size≤9223372036854775806) (w:World):
  Calls Tryz.prog 73 #[.string s] w fun e w'=>e=.returned (.string (S (trim s.data.toList)))∧Below w.heap.size w w':=by
 have hc:=Any.strings_Trim_laid Tryz.lays160 (by kernel_rfl) s (S [32,9]) w (by omega) (by decide) (ascii_of_all (by decide));rw[S_list,trimS_eq]at hc;have hc':Calls Tryz.prog 109 #[.string s,.string ⟨#[32,9]⟩] w fun e w'=>e=.returned (.string (S (trim s.data.toList)))∧Below w.heap.size w w':=hc
 have Hc:=Lib.hid hc';clear hc hc';go_enter Tryz.func73,Tryz.ntmps73;go_wp2_with fail;refine Hc.out.mono ?_;rintro e w' ⟨rfl,hb⟩;have Hb:=Lib.hid hb;clear hb;go_wp2_with fail;go_ret;exact⟨rfl,Hb.out⟩
theorem blank_any (s:ByteArray) (hs:s.size≤9223372036854775806) (w:World):
  Calls Tryz.prog 42 #[.string s] w fun e w'=>e=.returned (.bool (trim s.data.toList).isEmpty)∧Below w.heap.size w w':=by
 have Hc:=Lib.hid (trim_any s hs w);go_enter Tryz.func42,Tryz.ntmps42;go_wp2_with fail;refine Hc.out.mono ?_;rintro e w' ⟨rfl,hb⟩;have Hb:=Lib.hid hb;clear hb;have ht:=S_toList (trim s.data.toList);go_wp2_with fail;go_ret;exact⟨by cases trim s.data.toList<;>rfl,Hb.out⟩
end Ln
namespace Ln
open Go.RowKit
theorem infoS:(Tryz.prog.info? 9).map (fun i=>(i.zero,i.size,i.bytes))=some (some (.string ⟨#[]⟩),1,16):=by kernel_rfl
theorem own_push {B:Nat} {w wr w1:World} {v v':Value} {o:List (List UInt8)} {y:ByteArray} {ob:Obj} (hown:wr.ownsRow B 9 1 v o.length (o.map encStr)) (hb:Below B w wr) (hB:B≤wr.heap.size)
  (hown':w1.ownsRow B 9 1 v' (o.length+1) (o.map encStr++[.string y])) (hgrow:(wr.alloc ob).grownBy w1 v.ownBlock):
  w1.ownsRow B 9 1 v' (o++[y.data.toList]).length ((o++[y.data.toList]).map encStr)∧Below B w w1:=by
 refine⟨?_,(hb.alloc hB ob).grown hgrow (by simp;omega) (fun j hj=>(hown.lt j hj).1)⟩;rw[List.length_append,List.map_append]
 have:List.map encStr [y.data.toList]=[.string y]:=by
  show [Value.string (S y.data.toList)]=_;rw[S_of]
 rw[this];exact hown'
def cur (s:ByteArray) (f k:Nat):List UInt8:=(s.extract f k).data.toList
theorem cur_eq (s:ByteArray) (f k:Nat):cur s f k=(s.data.toList.drop f).take (k-f):=by
 unfold cur;rw[ByteArray.data_extract];simp only[Array.toList_extract,List.extract_eq_take_drop]
theorem cur_same (s:ByteArray) (k:Nat):cur s k k=[]:=by rw[cur_eq];simp
theorem cur_len (s:ByteArray) (f k:Nat) (hk:k≤s.size):(cur s f k).length=k-f:=by
 rw[cur_eq,List.length_take,List.length_drop,len_data];omega
theorem cur_snoc (s:ByteArray) (f k:Nat) (hf:f≤k) (hk:k<s.size):cur s f (k+1)=cur s f k++[s[k]]:=by
 rw[cur_eq,cur_eq,show k+1-f=(k-f)+1 by omega,List.take_add_one,List.getElem?_drop,show f+(k-f)=k by omega,List.getElem?_eq_getElem (by rw[len_data];exact hk)];rfl
theorem cur_last (s:ByteArray) (f k:Nat) (hf:f≤k) (hk:k<s.size):(cur s f (k+1)).getLast? = some s[k]:=by rw[cur_snoc s f k hf hk];simp
theorem cur_front (s:ByteArray) (f k:Nat) (hf:f≤k) (hk:k<s.size):(cur s f (k+1)).dropLast=cur s f k:=by rw[cur_snoc s f k hf hk];simp
def bl (s:ByteArray) (f k:Nat):Nat:=if f<k∧s.data.toList[k-1]? = some 13 then k-1 else k
theorem bl_le (s:ByteArray) (f k:Nat) (hf:f≤k):f≤bl s f k∧bl s f k≤k:=by unfold bl;split<;>omega
theorem bl_cur (s:ByteArray) (f k:Nat) (hf:f≤k) (hk:k≤s.size):cur s f (bl s f k)=strip (cur s f k):=by
 by_cases h:f<k
 ·obtain⟨j,rfl⟩:∃j,k=j+1:=⟨k-1,by omega⟩
  have hl:=cur_last s f j (by omega) (by omega);have hg:s.data.toList[j+1-1]? = some s[j]:=by rw[Nat.add_sub_cancel,List.getElem?_eq_getElem (by rw[len_data];omega)];rfl
  unfold bl strip;rw[hg,hl];by_cases e:s[j]=13
  ·rw[if_pos ⟨h,by rw[e]⟩,if_pos (by rw[e]),cur_front s f j (by omega) (by omega),Nat.add_sub_cancel]
  ·rw[if_neg (fun x=>e (Option.some.inj x.2)),if_neg (fun x=>e (Option.some.inj x))]
 ·obtain rfl:f=k:=by omega
  unfold bl;rw[if_neg (fun x=>h x.1),cur_same];rfl
theorem before_any (s:ByteArray) (f k:Nat) (hk:k<s.size) (hs:s.size≤1000000) (w:World):
  Calls Tryz.prog 37 #[.string s,.int .i64 f,.int .i64 k] w fun e w'=>e=.returned (.int .i64 (bl s f k))∧w=w':=by
 by_cases h:f<k
 ·have hk1:k-1<s.size:=by omega
  have hg:s.data.toList[k-1]? = some s[k-1]:=by rw[List.getElem?_eq_getElem (by rw[len_data];omega)];rfl
  have d1:decide ((f:Int)<(k:Int))=true:=by simpa using h
  by_cases e:s[k-1]=13
  ·have e1:((s[k-1].toNat:Int)==13)=true:=eq8 e
   have Hb:Hid (bl s f k=k-1):=Lib.hid (by unfold bl;rw[if_pos ⟨h,by rw[hg,e]⟩]);clear e hg;go_enter Tryz.func37,Tryz.ntmps37;go_wp2_with fail;go_ret;exact⟨ret_int (by rw[Hb.out];omega),rfl⟩
  ·have e1:((s[k-1].toNat:Int)==13)=false:=ne8 e
   have Hb:Hid (bl s f k=k):=Lib.hid (by unfold bl;rw[if_neg (fun x=>e (Option.some.inj (hg.symm.trans x.2)))]);clear e hg;go_enter Tryz.func37,Tryz.ntmps37;go_wp2_with fail;go_ret;exact⟨ret_int (by rw[Hb.out]),rfl⟩
 ·have d1:decide ((f:Int)<(k:Int))=false:=by simpa using h
  have Hb:Hid (bl s f k=k):=Lib.hid (by unfold bl;rw[if_neg (fun x=>h x.1)]);go_enter Tryz.func37,Tryz.ntmps37;go_wp2_with fail;go_ret;exact⟨ret_int (by rw[Hb.out]),rfl⟩
theorem news1 {wr:World} {x:ByteArray} {t:TypeId}:∀(j:Nat) (u:Value),[Value.string x][j]? = some u→(wr.alloc (.cells #[.string x] t)).cell? (Addr.add ⟨wr.heap.size,0,none⟩ j)=some u:=by
 intro j u hj
 match j,hj with
 |0,hj=>simp at hj;subst hj;simp[Addr.add]
theorem news2 {x:ByteArray}:∀u∈[Value.string x],u.oneCell'=true:=by
 intro u hu;simp at hu;subst hu;rfl
def Rel (s:ByteArray) (f k:Nat) (o:List (List UInt8)):Prop:=
 split s.data.toList=(o++(ls (cur s f k) (s.data.toList.drop k)).1,(ls (cur s f k) (s.data.toList.drop k)).2)
theorem Rel.start (s:ByteArray):Rel s 0 0 []:=by
 unfold Rel;rw[cur_same,List.drop_zero,List.nil_append];rfl
theorem Rel.on {s:ByteArray} {f k:Nat} {o:List (List UInt8)} (h:Rel s f k o) (hf:f≤k) (hk:k<s.size) (h1:s[k]≠10) (h2:s[k]≠13):Rel s f (k+1) o:=by
 unfold Rel at h ⊢;rw[at_data s k hk,ls_on _ _ _ h1 h2,←cur_snoc s f k hf hk]at h;exact h
theorem head_at (s:ByteArray) (k:Nat) (hk:k<s.size):(s.data.toList.drop k).head? = some s[k]:=by rw[at_data s k hk];rfl
theorem Rel.crlf {s:ByteArray} {f k:Nat} {o:List (List UInt8)} (h:Rel s f k o) (hf:f≤k) (hk:k+1<s.size) (h1:s[k]=13) (h2:s[k+1]=10):Rel s f (k+1) o:=by
 unfold Rel at h ⊢;have hc:=cur_snoc s f k hf (by omega);rw[h1]at hc;rw[at_data s k (by omega),at_data s (k+1) hk,h1,h2,ls_crlf,←hc]at h;rw[at_data s (k+1) hk,h2];exact h
theorem Rel.cr {s:ByteArray} {f k:Nat} {o:List (List UInt8)} (h:Rel s f k o) (hf:f≤k) (hk:k<s.size) (h1:s[k]=13) (h2:∀h:k+1<s.size,s[k+1]≠10):Rel s (k+1) (k+1) (o++[(s.extract f k).data.toList]):=by
 unfold Rel at h ⊢
 have hh:(s.data.toList.drop (k+1)).head?≠some 10:=by
  by_cases e:k+1<s.size
  ·rw[head_at s _ e];intro x;exact h2 e (Option.some.inj x)
  ·rw[drop_all s _ e];simp
 rw[at_data s k hk,h1,ls_cr _ _ hh]at h;rw[cur_same,h];simp[cur]
theorem Rel.lf {s:ByteArray} {f k:Nat} {o:List (List UInt8)} (h:Rel s f k o) (hf:f≤k) (hk:k<s.size) (h1:s[k]=10):Rel s (k+1) (k+1) (o++[(s.extract f (bl s f k)).data.toList]):=by
 unfold Rel at h ⊢;rw[at_data s k hk,h1,ls_lf,←bl_cur s f k hf (by omega)]at h;rw[cur_same,h];simp[cur]
theorem Rel.stop {s:ByteArray} {f:Nat} {o:List (List UInt8)} (h:Rel s f s.size o) (hf:f≤s.size):
  split s.data.toList=if f=s.size then(o,true)else(o++[(s.extract f s.size).data.toList],false):=by
 unfold Rel at h;rw[drop_all s _ (Nat.lt_irrefl _),ls]at h;have hl:=cur_len s f s.size (Nat.le_refl _);by_cases e:f=s.size
 ·rw[if_pos e]
  rw[if_pos (by subst e;exact cur_same s _)]at h
  simpa using h
 ·rw[if_neg e]
  rw[if_neg (fun x=>by rw[x]at hl;simp at hl;omega)]at h
  simpa [cur]using h
set_option maxHeartbeats 1600000 in
set_option maxRecDepth 100000 in
theorem split_any (s:ByteArray) (hs:s.size≤1000000) (w:World):
  Calls Tryz.prog 21 #[.string s] w fun e w'=>∃v,e=.returned (.tuple #[v,.bool (split s.data.toList).2])∧
   w'.ownsRow w.heap.size 9 1 v (split s.data.toList).1.length ((split s.data.toList).1.map encStr)∧Below w.heap.size w w':=by
 obtain⟨i0,hi,hz0,hz1,hz2⟩:=info_parts infoS;have H0:=Lib.hid (Rel.start s);go_enter Tryz.func21,Tryz.ntmps21;go_wp2_with fail;go_step3;go_wp2_with fail;go_step3;go_wp2_with fail;go_loopw [4,5,9] (fun v f i wr=>∃(k fr:Nat) (o:List (List UInt8)),fr≤k∧k≤s.size∧o.length≤k∧i=.int .i64 k∧f=.int .i64 fr∧wr.ownsRow w.heap.size 9 1 v o.length (o.map encStr)∧Below w.heap.size w wr∧Hid (Rel s fr k o)) (fun _ _ i _=>s.size-(intOf i).toNat)
 case atStart=>exact⟨0,0,[],Nat.le_refl _,Nat.zero_le _,Nat.le_refl _,rfl,rfl,World.ownsRow_nil _ _ _ _,Below.refl _ _,H0⟩
 case round=>
  clear H0;obtain⟨k,f,o,hf,hk,ho,rfl,rfl,hown,hb,HR⟩:=hrel;have hB:=hb.size;by_cases hlt:k<s.size
  ·by_cases h13:s[k]=13
   ·have e1:((s[k].toNat:Int)==13)=true:=eq8 h13
    have e2:((s[k].toNat:Int)==10)=false:=ne8 (b:=10) (by rw[h13];decide);by_cases hk1:k+1<s.size
    ·have d1:decide ((k:Int)+1<(s.size:Int))=true:=decide_eq_true (by omega)
     by_cases h10:s[k+1]=10
     ·have e3:((s[k+1].toNat:Int)==10)=true:=eq8 h10
      have HR2:=Lib.hid (HR.out.crlf hf hk1 h13 h10);have Hb:=Lib.hid hb;have Ho:=Lib.hid hown;clear h13 h10 hb hown HR;go_wp2_with fail;go_roundw
      case rel=>exact⟨k+1,f,o,by omega,by omega,by omega,by go_num,rfl,Ho.out,Hb.out,HR2⟩
      case measure=>simp[intOf];omega
     ·have e3:((s[k+1].toNat:Int)==10)=false:=ne8 h10
      have HR2:=Lib.hid (HR.out.cr hf hlt h13 (fun _=>h10));clear h13 h10 HR;go_wp2_with (at_builtin;refine wpList_append_own _ rfl _ _ 31 rfl w.heap.size 9 i0 (.string ⟨#[]⟩) 1 16 Tryz.underlying31 hi hz0 hz1 hz2 rfl (by decide) _ _ _ rfl (hown.alloc _) ⟨wr.heap.size,0,none⟩ 1 1 [.string (s.extract f k)] rfl rfl news1 news2 (by unfold maxLen;omega) (by omega) (by simp;omega) ?_);intro v' w1 hown' hgrow _;have R:=own_push hown hb hB hown' hgrow;have R1:=Lib.hid R.1;have R2:=Lib.hid R.2;clear R hown' hgrow hown hb;go_wp2_with fail;go_roundw
      case rel=>exact⟨k+1,k+1,_,by omega,by omega,by simp;omega,by go_num,by go_num,R1.out,R2.out,HR2⟩
      case measure=>simp[intOf];omega
    ·have d1:decide ((k:Int)+1<(s.size:Int))=false:=by simp;omega
     have HR2:=Lib.hid (HR.out.cr hf hlt h13 (fun h=>absurd h hk1));clear h13 HR;go_wp2_with (at_builtin;refine wpList_append_own _ rfl _ _ 31 rfl w.heap.size 9 i0 (.string ⟨#[]⟩) 1 16 Tryz.underlying31 hi hz0 hz1 hz2 rfl (by decide) _ _ _ rfl (hown.alloc _) ⟨wr.heap.size,0,none⟩ 1 1 [.string (s.extract f k)] rfl rfl news1 news2 (by unfold maxLen;omega) (by omega) (by simp;omega) ?_);intro v' w1 hown' hgrow _;have R:=own_push hown hb hB hown' hgrow;have R1:=Lib.hid R.1;have R2:=Lib.hid R.2;clear R hown' hgrow hown hb;go_wp2_with fail;go_roundw
     case rel=>exact⟨k+1,k+1,_,by omega,by omega,by simp;omega,by go_num,by go_num,R1.out,R2.out,HR2⟩
     case measure=>simp[intOf];omega
   ·have e1:((s[k].toNat:Int)==13)=false:=ne8 h13
    by_cases h10:s[k]=10
    ·have e2:((s[k].toNat:Int)==10)=true:=eq8 h10
     have HR2:=Lib.hid (HR.out.lf hf hlt h10);have hbl:=bl_le s f k hf;have Hc:=Lib.hid (before_any s f k hlt hs);clear h13 h10 HR;generalize bl s f k=q at *;obtain⟨q1,q2⟩:=hbl;have q3:q≤s.size:=by omega
     go_wp2_with (first |(go_at_call 37;refine(Hc.out _).mono ?_;rintro e w' ⟨rfl,rfl⟩)|(at_builtin;refine wpList_append_own _ rfl _ _ 31 rfl w.heap.size 9 i0 (.string ⟨#[]⟩) 1 16 Tryz.underlying31 hi hz0 hz1 hz2 rfl (by decide) _ _ _ rfl (hown.alloc _) ⟨wr.heap.size,0,none⟩ 1 1 [.string (s.extract f q)] rfl rfl news1 news2 (by unfold maxLen;omega) (by omega) (by simp;omega) ?_));intro v' w1 hown' hgrow _;have R:=own_push hown hb hB hown' hgrow;have R1:=Lib.hid R.1;have R2:=Lib.hid R.2;clear R hown' hgrow hown hb;go_wp2_with fail;go_roundw
     case rel=>exact⟨k+1,k+1,_,by omega,by omega,by simp;omega,by go_num,by go_num,R1.out,R2.out,HR2⟩
     case measure=>simp[intOf];omega
    ·have e2:((s[k].toNat:Int)==10)=false:=ne8 h10
     have HR2:=Lib.hid (HR.out.on hf hlt h10 h13);have Hb:=Lib.hid hb;have Ho:=Lib.hid hown;clear h13 h10 hb hown HR;go_wp2_with fail;go_roundw
     case rel=>exact⟨k+1,f,o,by omega,by omega,by omega,by go_num,rfl,Ho.out,Hb.out,HR2⟩
     case measure=>simp[intOf];omega
  ·obtain rfl:k=s.size:=by omega
   have HS:=HR.out.stop hf;by_cases he:f=s.size
   ·rw[if_pos he]at HS
    have e1:((f:Int)==(s.size:Int))=true:=by simp[he]
    have HS2:=Lib.hid HS;have Hb:=Lib.hid hb;have Ho:=Lib.hid hown;clear HS hb hown he HR;go_wp2_with fail
    first |go_ret2 |(rw[Exit.noGoto_ret];go_ret2)
    rw[HS2.out];exact⟨_,rfl,Ho.out,Hb.out⟩
   ·rw[if_neg he]at HS
    have e1:((f:Int)==(s.size:Int))=false:=by simp;omega
    have HS2:=Lib.hid HS;clear HS he HR;go_wp2_with (at_builtin;refine wpList_append_own _ rfl _ _ 31 rfl w.heap.size 9 i0 (.string ⟨#[]⟩) 1 16 Tryz.underlying31 hi hz0 hz1 hz2 rfl (by decide) _ _ _ rfl (hown.alloc _) ⟨wr.heap.size,0,none⟩ 1 1 [.string (s.extract f s.size)] rfl rfl news1 news2 (by unfold maxLen;omega) (by omega) (by simp;omega) ?_);intro v' w1 hown' hgrow _;have R:=own_push hown hb hB hown' hgrow;have R1:=Lib.hid R.1;have R2:=Lib.hid R.2;clear R hown' hgrow hown hb;go_wp2_with fail
    first |go_ret2 |(rw[Exit.noGoto_ret];go_ret2)
    rw[HS2.out];exact⟨_,rfl,R1.out,R2.out⟩
end Ln
namespace Ln
open Go.RowKit
def Rd (w:World) (v:Value) (xs:List (List UInt8)):Prop:=
 ∃ao cap,v=.slice ao xs.length cap∧xs.length≤cap∧(xs=[]∨∃b o,ao=some ⟨b,o,none⟩∧b<w.heap.size∧∀j x,xs[j]? = some x→w.cell? ⟨b,o+j,none⟩=some (.string (S x)))
theorem get_lt {xs:List (List UInt8)} {k:Nat} (h:k<xs.length):xs[k]? = some xs[k]:=List.getElem?_eq_getElem h
theorem take_next {xs ys:List (List UInt8)} {k:Nat} (h1:k<xs.length) (h2:k<ys.length) (h:xs.take k=ys.take k) (e:xs[k]=ys[k]):xs.take (k+1)=ys.take (k+1):=by
 rw[List.take_add_one,List.take_add_one,get_lt h1,get_lt h2,h,e]
theorem take_off {xs ys:List (List UInt8)} {k:Nat} (h1:k<xs.length) (h2:k<ys.length) (e:xs[k]≠ys[k]):xs≠ys:=by
 intro h;subst h;exact e rfl
set_option maxHeartbeats 800000 in
theorem same_any (a b:Value) (xs ys:List (List UInt8)) (w:World) (ha:Rd w a xs) (hb:Rd w b ys) (hx:xs.length≤1000000) (hy:ys.length≤1000000):
  Calls Tryz.prog 14 #[a,b] w fun e w'=>e=.returned (.bool (decide (xs=ys)))∧Below w.heap.size w w':=by
 obtain⟨ao,ca,rfl,hca,hax⟩:=ha;obtain⟨bo,cb,rfl,hcb,hbx⟩:=hb;by_cases hl:xs.length=ys.length
 ·have e0:((xs.length:Int)==(ys.length:Int))=true:=by simp[hl]
  by_cases h0:xs=[]
  ·have Hf:Hid (decide (xs=ys)=true):=Lib.hid (by subst h0;simpa using (List.eq_nil_of_length_eq_zero hl.symm))
   have hz:xs.length=0:=by rw[h0];rfl
   have hz2:ys.length=0:=by omega
   rw[hz,hz2];clear hax hbx h0 e0 hl;go_enter Tryz.func14,Tryz.ntmps14;go_wp2_with fail;go_loop [13] (fun i=>i=.int .i64 0) (fun i=>0)
   case atStart=>rfl
   case round=>
    subst hrel;go_wp2_with fail;go_ret;exact⟨by rw[Hf.out];rfl,Below.refl _ _⟩
  ·rcases hax with hax |⟨b1,o1,rfl,hb1,hc1⟩
   ·exact absurd hax h0
   rcases hbx with hbx |⟨b2,o2,rfl,hb2,hc2⟩
   ·exact absurd (List.eq_nil_of_length_eq_zero (by rw[hl,hbx];rfl)) h0
   have H1:=Lib.hid hc1;have H2:=Lib.hid hc2;clear hc1 hc2 h0;go_enter Tryz.func14,Tryz.ntmps14;go_wp2_with fail;go_loopw [13] (fun i wr=>∃k:Nat,k≤xs.length∧i=.int .i64 k∧Below w.heap.size w wr∧Hid (xs.take k=ys.take k)) (fun i _=>xs.length-(intOf i).toNat)
   case atStart=>exact⟨0,Nat.zero_le _,rfl,Below.refl _ _,Lib.hid rfl⟩
   case round=>
    obtain⟨k,hk,rfl,hbel,HT⟩:=hrel;by_cases hlt:k<xs.length
    ·have hlt2:k<ys.length:=by omega
     have k1:wr.cell? ⟨b1,o1+k,none⟩=some (.string (S xs[k])):=(hbel.cell (by exact hb1)).trans (H1.out k _ (get_lt hlt));have k2:wr.cell? ⟨b2,o2+k,none⟩=some (.string (S ys[k])):=(hbel.cell (by exact hb2)).trans (H2.out k _ (get_lt hlt2));by_cases he:xs[k]=ys[k]
     ·have HT2:=Lib.hid (take_next hlt hlt2 HT.out he)
      have e1:((S xs[k]).toList==(S ys[k]).toList)=true:=by rw[he];simp
      have Hb:=Lib.hid hbel;clear hbel HT he;generalize xs[k]=x at *;generalize ys[k]=y at *;go_wp2_with fail;go_quiet (fail);go_wp2_with fail;go_roundw
      case rel=>exact⟨k+1,by omega,by go_num,below_drewN Hb.out _,HT2⟩
      case measure=>simp[intOf];omega
     ·have Hf:Hid (decide (xs=ys)=false):=Lib.hid (decide_eq_false (take_off hlt hlt2 he))
      have e1:((S xs[k]).toList==(S ys[k]).toList)=false:=by rw[S_toList,S_toList];simpa using he
      have Hb:=Lib.hid hbel;clear hbel HT he;generalize xs[k]=x at *;generalize ys[k]=y at *;go_wp2_with fail;go_quiet (fail);go_wp2_with fail;go_ret;exact⟨by rw[Hf.out];rfl,below_drewN Hb.out _⟩
    ·have Hf:Hid (decide (xs=ys)=true):=Lib.hid (decide_eq_true (by have:=HT.out;rwa[List.take_of_length_le (by omega),List.take_of_length_le (by omega)]at this))
     clear HT;go_wp2_with fail;go_ret;exact⟨by rw[Hf.out];rfl,hbel⟩
 ·have e0:((xs.length:Int)==(ys.length:Int))=false:=by simp;omega
  have Hf:Hid (decide (xs=ys)=false):=Lib.hid (decide_eq_false (fun h=>hl (by rw[h])));clear hax hbx hl;go_enter Tryz.func14,Tryz.ntmps14;go_wp2_with fail;go_ret;exact⟨by rw[Hf.out];rfl,Below.refl _ _⟩
end Ln
namespace Ln
open Go.RowKit
end Ln
end Go.Proofs.YtpakjdgddomdjabGreatDoor
