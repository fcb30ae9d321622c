import Derived.WalkKit
import Derived.Test.YtpakjdgddomdjabGreatDoorProg
import Derived.WalkSpells
import Derived.WalkLawsBesides
import Derived.Lib.Hide
import Derived.Lib.BytesEntry
import Derived.Lib.SlBytesRow
import Derived.Lib.IndexLaws
import Derived.Lib.Walk
import Derived.Lib.SlBytesConst
import Derived.Laws.IdiomStrings
set_option linter.unusedVariables false
namespace Go.Proofs.YtpakjdgddomdjabGreatDoor
namespace Utf
open Go.RowKit
def bt (s:ByteArray) (k:Nat):Nat:=(s.data.toList.getD k 0).toNat
theorem bt_lt (s:ByteArray) (k:Nat):bt s k<256:=(s.data.toList.getD k 0).toNat_lt
theorem bt_eq (s:ByteArray) (k:Nat) (h:k<s.size):bt s k=s[k].toNat:=by
 have h':k<s.data.toList.length:=by simpa using h
 unfold bt;rw[List.getD_eq_getElem?_getD,List.getElem?_eq_getElem h'];rfl
def ln (b:Nat):Nat:=
 if b≤127 then 1 else if 194≤b∧b≤223 then 2 else if 224≤b∧b≤239 then 3 else if 240≤b∧b≤244 then 4 else 0
def lc (b:Nat):Nat:=
 if b≤127 then b else if 194≤b∧b≤223 then b-192 else if 224≤b∧b≤239 then b-224 else if 240≤b∧b≤244 then b-240 else 0
def moreB (b:Nat):Bool:=decide (128≤b)&&decide (b≤191)
def acc (f:Nat→Nat):Nat→Nat
 |0=>lc (f 0)
 |j+1=>acc f j*64+(f (j+1)-128)
def conts (f:Nat→Nat):Nat→Bool
 |0=>true
 |j+1=>conts f j&&moreB (f (j+1))
def fitsI (c n:Int):Bool:=
 if n=3 then decide (2048≤c)&&(decide (c<55296)||decide (57343<c))else if n=4 then decide (65536≤c)&&decide (c≤1114111)else true
def fitsB (c n:Nat):Bool:=fitsI c n
def nx (f:Nat→Nat) (m:Nat):Nat × Nat:=
 if m=0∨ln (f 0)=0∨m<ln (f 0)then(0,0)
 else if conts f (ln (f 0)-1)=true∧fitsB (acc f (ln (f 0)-1)) (ln (f 0))=true then(acc f (ln (f 0)-1),ln (f 0))else(0,0)
def nxt (s:ByteArray) (k:Nat):Nat × Nat:=nx (fun i=>bt s (k+i)) (s.size-k)
def nxtI (s:ByteArray) (k:Int):Nat × Nat:=if k<0 then(0,0)else nxt s k.toNat
theorem ln_le (b:Nat):ln b≤4:=by
 unfold ln;(repeat' split)<;>omega
theorem lc_ln (b:Nat) (hb:b<256):lc b*1<128∧(ln b=2→lc b<32)∧(ln b=3→lc b<16)∧(ln b=4→lc b<8):=by
 unfold ln lc
 refine⟨?_,?_,?_,?_⟩
 all_goals (split<;>try omega)
 all_goals (split<;>try omega)
 all_goals (split<;>try omega)
 all_goals (split<;>try omega)
theorem conts_more (f:Nat→Nat) (j:Nat) (h:conts f (j+1)=true):conts f j=true∧128≤f (j+1)∧f (j+1)≤191:=by
 rw[conts,moreB,Bool.and_eq_true,Bool.and_eq_true,decide_eq_true_eq,decide_eq_true_eq]at h;exact h
theorem acc_zero (f:Nat→Nat):acc f 0=lc (f 0):=rfl
theorem acc_succ (f:Nat→Nat) (j:Nat):acc f (j+1)=acc f j*64+(f (j+1)-128):=rfl
theorem conts_succ (f:Nat→Nat) (j:Nat):conts f (j+1)=(conts f j&&moreB (f (j+1))):=rfl
theorem acc_step (a c p q x:Nat) (h:a<c*p) (hx:x≤191) (e:q=p*64):a*64+(x-128)<c*q:=by
 subst e;rw[←Nat.mul_assoc];generalize c*p=m at *;omega
theorem acc_le (f:Nat→Nat) (j:Nat) (h:conts f j=true):acc f j<(lc (f 0)+1)*64 ^ j:=by
 induction j with
 |zero=>
  rw[acc_zero];omega
 |succ j ih=>
  obtain⟨h1,h2,h3⟩:=conts_more f j h;rw[acc_succ];exact acc_step _ _ _ _ _ (ih h1) h3 (Nat.pow_succ 64 j)
theorem acc_small (f:Nat→Nat) (j:Nat) (hb:f 0<256) (hj:j<ln (f 0)) (h:conts f j=true):acc f j<2097152:=by
 have h1:=acc_le f j h;obtain⟨a1,a2,a3,a4⟩:=lc_ln (f 0) hb;have h4:=ln_le (f 0);generalize lc (f 0)=c at *;generalize ln (f 0)=n at *;generalize acc f j=a at *;have e1:(64:Nat) ^ 1=64:=by decide
 have e2:(64:Nat) ^ 2=4096:=by decide
 have e3:(64:Nat) ^ 3=262144:=by decide
 have:j=0∨j=1∨j=2∨j=3:=by omega
 rcases this with rfl |rfl |rfl |rfl
 ·rw[Nat.pow_zero,Nat.mul_one]at h1;omega
 ·rw[e1]at h1
  have:n=2∨n=3∨n=4:=by omega
  rcases this with rfl |rfl |rfl
  ·have:=a2 rfl;omega
  ·have:=a3 rfl;omega
  ·have:=a4 rfl;omega
 ·rw[e2]at h1
  have:n=3∨n=4:=by omega
  rcases this with rfl |rfl
  ·have:=a3 rfl;omega
  ·have:=a4 rfl;omega
 ·rw[e3]at h1
  have:=a4 (by omega);omega
theorem conts_le (f:Nat→Nat) (i j:Nat) (h:conts f j=true) (hi:i≤j):conts f i=true:=by
 induction j with
 | zero => obtain rfl:i=0:=by omega
           exact h
 | succ j ih =>
   by_cases e:i=j+1
   · subst e;exact h
   · exact ih (conts_more f j h).1 (by omega)
theorem nx_none (f:Nat→Nat) (m:Nat) (h:m=0∨ln (f 0)=0∨m<ln (f 0)):nx f m=(0,0):=by
 unfold nx;rw[if_pos h]
theorem nx_bad (f:Nat→Nat) (m j:Nat) (hj:j+1<ln (f 0)) (h:f (j+1)<128∨191<f (j+1)):nx f m=(0,0):=by
 unfold nx;split
 ·rfl
 rw[if_neg];intro⟨h1,_⟩;have h2:=conts_more f j (conts_le f (j+1) _ h1 (by omega));omega
theorem nx_unfit (f:Nat→Nat) (m:Nat) (h:fitsB (acc f (ln (f 0)-1)) (ln (f 0))=false):nx f m=(0,0):=by
 unfold nx;split
 ·rfl
 rw[if_neg];intro⟨_,h1⟩;rw[h]at h1;cases h1
theorem nx_yes (f:Nat→Nat) (m:Nat) (h0:0<ln (f 0)) (hm:ln (f 0)≤m) (h1:conts f (ln (f 0)-1)=true) (h:fitsB (acc f (ln (f 0)-1)) (ln (f 0))=true):
  nx f m=(acc f (ln (f 0)-1),ln (f 0)):=by
 unfold nx;rw[if_neg (by omega),if_pos ⟨h1,h⟩]
theorem nx_le (f:Nat→Nat) (m:Nat):(nx f m).2≤m∧(nx f m).2≤4:=by
 unfold nx;have h4:=ln_le (f 0);split
 ·exact⟨Nat.zero_le _,Nat.zero_le _⟩
 ·split
  ·show ln _≤_∧ln _≤_;omega
  ·exact⟨Nat.zero_le _,Nat.zero_le _⟩
theorem nxt_le (t:ByteArray) (k:Nat):(nxt t k).2≤t.size-k:=(nx_le _ _).1
def goes (t:ByteArray):Nat→Nat→Bool
 |0,k=>decide (t.size≤k)
 |f+1,k=>if t.size≤k then true else if(nxt t k).2=0 then false else goes t f (k+(nxt t k).2)
theorem goes_fuel (t:ByteArray) (f g k:Nat) (hf:t.size-k≤f) (hg:t.size-k≤g):goes t f k=goes t g k:=by
 induction f generalizing g k with
 |zero=>
  have h:t.size≤k:=by omega
  cases g with
  |zero=>rfl
  |succ g=>simp[goes,h]
 |succ f ih=>
  cases g with
  |zero=>
   have h:t.size≤k:=by omega
   simp[goes,h]
  |succ g=>
   rw[goes,goes];split
   ·rfl
   ·split
    ·rfl
    ·exact ih g _ (by omega) (by omega)
def goesAt (t:ByteArray) (k:Nat):Bool:=goes t (t.size-k) k
theorem goesAt_end (t:ByteArray) (k:Nat) (h:t.size≤k):goesAt t k=true:=by
 unfold goesAt;rw[show t.size-k=0 by omega,goes];exact decide_eq_true h
theorem goesAt_bad (t:ByteArray) (k:Nat) (h:k<t.size) (h0:(nxt t k).2=0):goesAt t k=false:=by
 unfold goesAt;obtain⟨m,hm⟩:∃m,t.size-k=m+1:=⟨t.size-k-1,by omega⟩;rw[hm,goes,if_neg (by omega),if_pos h0]
theorem goesAt_step (t:ByteArray) (k:Nat) (h:k<t.size) (h0:(nxt t k).2≠0):goesAt t (k+(nxt t k).2)=goesAt t k:=by
 unfold goesAt;obtain⟨m,hm⟩:∃m,t.size-k=m+1:=⟨t.size-k-1,by omega⟩;rw[hm,goes,if_neg (by omega),if_neg h0];exact goes_fuel t _ _ _ (by omega) (by omega)
def zeroB (t:ByteArray):Bool:=decide ((0:UInt8)∈t.data.toList)
def chk (t:ByteArray):Int:=if 1048576<(t.size:Int)then 4 else if zeroB t=true then 3 else if goesAt t 0=true then 0 else 2
end Utf
namespace Utf
open Go.RowKit
theorem ret_int {k:IntKind} {a b:Int} (h:a=b):Ending.returned (.int k a)= .returned (.int k b):=by rw[h]
theorem ret_bool {a b:Bool} (h:a=b):Ending.returned (.bool a)= .returned (.bool b):=by rw[h]
theorem ret_two {j k:IntKind} {a b c d:Int} (h:a=b) (g:c=d):Ending.returned (.tuple #[.int j a,.int k c])= .returned (.tuple #[.int j b,.int k d]):=by rw[h,g]
set_option maxHeartbeats 400000 in
theorem lead_any (b:Nat) (hb:b<256) (w:World):
  Calls Tryz.prog 64 #[.int .u8 b] w fun e w'=>e=.returned (.tuple #[.int .i64 (ln b),.int .i32 (lc b)])∧w=w':=by
 go_enter Tryz.func64,Tryz.ntmps64
 go_wp2
 all_goals go_ret2
 all_goals refine⟨ret_two ?_ ?_,rfl⟩
 all_goals (first |unfold ln |unfold lc)
 all_goals (split<;>try omega)
 all_goals (split<;>try omega)
 all_goals (split<;>try omega)
 all_goals (split<;>try omega)
theorem fits_a (c n:Int) (h:(n==3)=true) (h1:2048≤c):(decide (c<55296)||decide (57343<c))=fitsI c n:=by
 obtain rfl:n=3:=by simpa using h
 unfold fitsI;rw[if_pos rfl,decide_eq_true h1,Bool.true_and]
theorem fits_b (c n:Int) (h:(n==3)=true) (h1:2048≤c) (h2:c<55296):true=fitsI c n:=by
 rw[←fits_a c n h h1,decide_eq_true h2,Bool.true_or]
theorem fits_c (c n:Int) (h:(n==3)=true) (h1:c<2048):false=fitsI c n:=by
 obtain rfl:n=3:=by simpa using h
 unfold fitsI;rw[if_pos rfl,decide_eq_false (by omega),Bool.false_and]
theorem fits_d (c n:Int) (h:(n==4)=true) (h1:65536≤c):decide (c≤1114111)=fitsI c n:=by
 obtain rfl:n=4:=by simpa using h
 unfold fitsI;rw[if_neg (by decide),if_pos rfl,decide_eq_true h1,Bool.true_and]
theorem fits_e (c n:Int) (h:(n==4)=true) (h1:c<65536):false=fitsI c n:=by
 obtain rfl:n=4:=by simpa using h
 unfold fitsI;rw[if_neg (by decide),if_pos rfl,decide_eq_false (by omega),Bool.false_and]
theorem fits_f (c n:Int) (h:(n==3)=false) (h1:(n==4)=false):true=fitsI c n:=by
 unfold fitsI;rw[if_neg (by simpa using h),if_neg (by simpa using h1)]
set_option maxHeartbeats 400000 in
theorem fits_any (c n:Int) (w:World):
  Calls Tryz.prog 65 #[.int .i32 c,.int .i64 n] w fun e w'=>e=.returned (.bool (fitsI c n))∧w=w':=by
 go_enter Tryz.func65,Tryz.ntmps65
 go_wp2
 all_goals go_ret
 all_goals refine⟨ret_bool ?_,rfl⟩
 all_goals first |exact fits_a _ _ ‹_› ‹_› |exact fits_b _ _ ‹_› ‹_› ‹_› |exact fits_c _ _ ‹_› ‹_› |exact fits_d _ _ ‹_› ‹_› |exact fits_e _ _ ‹_› ‹_› |exact fits_f _ _ ‹_› ‹_›
set_option maxHeartbeats 400000 in
theorem next_out (s:ByteArray) (a:Int) (hs:s.size≤maxLen) (h:a<0∨s.size≤a) (w:World):
  Calls Tryz.prog 36 #[.string s,.int .i64 a] w fun e w'=>e=.returned (.tuple #[.int .i64 0,.int .i64 0])∧w=w':=by
 unfold maxLen at hs;go_enter Tryz.func36,Tryz.ntmps36;rcases h with h |h
 ·go_wp2_with fail
  go_ret2;exact⟨rfl,rfl⟩
 ·by_cases h1:a<0
  ·go_wp2_with fail
   go_ret2;exact⟨rfl,rfl⟩
  ·go_wp2_with fail
   go_ret2;exact⟨rfl,rfl⟩
theorem val_int {k:IntKind} {a b:Int} (h:a=b):Value.int k a=.int k b:=by rw[h]
theorem acc_num (a x y:Nat) (e:y=x) (h1:128≤x) (h2:x≤191):(a:Int)*64+(x:Int)%64=((a*64+(y-128):Nat):Int):=by omega
theorem pair_none {p:Nat × Nat} (h:p=(0,0)):(0:Int)=((p.1:Nat):Int)∧(0:Int)=((p.2:Nat):Int):=by rw[h];exact⟨rfl,rfl⟩
theorem pair_yes {p:Nat × Nat} {a b c d:Nat} (h:p=(a,b)) (h1:c=a) (h2:d=b):(c:Int)=((p.1:Nat):Int)∧(d:Int)=((p.2:Nat):Int):=by rw[h,h1,h2];exact⟨rfl,rfl⟩
theorem ret_pair {p:Nat × Nat} {a b:Int} (h:a=p.1∧b=p.2):Ending.returned (.tuple #[.int .i64 a,.int .i64 b])= .returned (.tuple #[.int .i64 p.1,.int .i64 p.2]):=by rw[h.1,h.2]
set_option maxHeartbeats 400000 in
theorem next_in (s:ByteArray) (k:Nat) (hs:s.size≤maxLen) (hk:k<s.size) (w:World):
  Calls Tryz.prog 36 #[.string s,.int .i64 k] w fun e w'=>e=.returned (.tuple #[.int .i64 (nxt s k).1,.int .i64 (nxt s k).2])∧w=w':=by
 unfold maxLen at hs;have ek:decide ((k:Int)<0)=false:=by simp
 go_enter Tryz.func36,Tryz.ntmps36;go_wp2_with fail;refine(lead_any _ s[k].toNat_lt _).mono ?_;rintro e w' ⟨rfl,rfl⟩;rw[←bt_eq s k hk];have hn4:=ln_le (bt s k);generalize hn:ln (bt s k)=n at *;generalize hc:lc (bt s k)=c at *;have Hn:=Lib.hid hn;have Hc:=Lib.hid hc;clear hn hc;by_cases h0:n=0
 ·subst h0
  go_wp2_with fail;go_ret2;exact⟨ret_pair (pair_none (nx_none _ _ (Or.inr (Or.inl Hn.out)))),rfl⟩
 have e0:((n:Int)==0)=false:=by simp[h0]
 by_cases h1:s.size<k+n
 ·go_wp2_with fail
  go_ret2;exact⟨ret_pair (pair_none (nx_none _ _ (Or.inr (Or.inr (by show _<ln (bt s k);rw[Hn.out];omega))))),rfl⟩
 have e1:decide ((s.size:Int)-(k:Int)<(n:Int))=false:=by simp;omega
 go_wp2_with fail;go_loop [7,8] (fun c' i=>∃j:Nat,j<n∧conts (fun i=>bt s (k+i)) j=true∧i=.int .i64 ((j:Int)+1)∧c'=.int .i32 (acc (fun i=>bt s (k+i)) j)) (fun _ i=>n-(intOf i).toNat)
 case atStart=>exact⟨0,by omega,rfl,rfl,by rw[acc_zero];exact congrArg (fun x:Nat=>Value.int .i32 (x:Int)) Hc.out.symm⟩
 case round=>
  obtain⟨j,hj,hcon,rfl,rfl⟩:=hrel;have hsm:=acc_small (fun i=>bt s (k+i)) j (bt_lt s k) (by show j<ln (bt s k);rw[Hn.out];exact hj) hcon;have Hcon:=Lib.hid hcon;clear hcon;by_cases hlt:j+1<n
  ·have Hb:=Lib.hid (bt_eq s (k+(j+1)) (by omega))
   by_cases hm:bt s (k+(j+1))<128∨191<bt s (k+(j+1))
   ·have Hbad:=Lib.hid (nx_bad (fun i=>bt s (k+i)) (s.size-k) j (by show j+1<ln (bt s k);rw[Hn.out];exact hlt) hm)
    have hm':s[k+(j+1)].toNat<128∨191<s[k+(j+1)].toNat:=by rw[←Hb.out];exact hm
    clear hm;rcases hm' with hm' |hm'
    ·go_wp2_with fail
     go_ret2;exact⟨ret_pair (pair_none Hbad.out),rfl⟩
    ·go_wp2_with fail
     go_ret2;exact⟨ret_pair (pair_none Hbad.out),rfl⟩
   ·have hm':128≤s[k+(j+1)].toNat∧s[k+(j+1)].toNat≤191:=by rw[←Hb.out];omega
    clear hm;obtain⟨hm1,hm2⟩:=hm';go_wp2_with fail;go_round
    case rel=>exact⟨j+1,hlt,by rw[conts_succ,Hcon.out];simp[moreB,Hb.out,hm1,hm2],by go_num,val_int (acc_num _ _ _ Hb.out hm1 hm2)⟩
    case measure=>simp[intOf];omega
  ·have Ej:=Lib.hid (show j=n-1 by omega)
   by_cases hf:fitsI (acc (fun i=>bt s (k+i)) j) n=true
   ·go_wp2_with (go_at_call 65;refine(fits_any _ _ _).mono ?_;rintro e w' ⟨rfl,rfl⟩)
    go_ret2;have ej:j=ln (bt s (k+0))-1:=by rw[Ej.out,←Hn.out,Nat.add_zero]
    have en:n=ln (bt s (k+0)):=Hn.out.symm;exact⟨ret_pair (pair_yes (nx_yes (fun i=>bt s (k+i)) (s.size-k) (by show 0<ln (bt s (k+0));omega) (by show ln (bt s (k+0))≤_;omega) (by show conts _ (ln (bt s (k+0))-1)=true;rw[←ej];exact Hcon.out) (by show fitsI (acc _ (ln (bt s (k+0))-1):Nat) (ln (bt s (k+0)):Nat)=true;rw[←ej,←en];exact hf)) (by show _=acc _ (ln (bt s (k+0))-1);rw[←ej]) en),rfl⟩
   ·have hf':fitsI (acc (fun i=>bt s (k+i)) j) n=false:=by simpa using hf
    clear hf;go_wp2_with (go_at_call 65;refine(fits_any _ _ _).mono ?_;rintro e w' ⟨rfl,rfl⟩);go_ret2;have ej:j=ln (bt s (k+0))-1:=by rw[Ej.out,←Hn.out,Nat.add_zero]
    have en:n=ln (bt s (k+0)):=Hn.out.symm;exact⟨ret_pair (pair_none (nx_unfit (fun i=>bt s (k+i)) (s.size-k) (by show fitsI (acc _ (ln (bt s (k+0))-1):Nat) (ln (bt s (k+0)):Nat)=false;rw[←ej,←en];exact hf'))),rfl⟩
theorem nxtI_out (s:ByteArray) (a:Int) (h:a<0∨s.size≤a):nxtI s a=(0,0):=by
 unfold nxtI;split
 ·rfl
 ·unfold nxt;exact nx_none _ _ (Or.inl (by omega))
theorem nxtI_in (s:ByteArray) (k:Nat):nxtI s k=nxt s k:=by
 unfold nxtI;rw[if_neg (by omega),Int.toNat_natCast]
theorem next_any (s:ByteArray) (a:Int) (hs:s.size≤maxLen) (w:World):
  Calls Tryz.prog 36 #[.string s,.int .i64 a] w fun e w'=>e=.returned (.tuple #[.int .i64 (nxtI s a).1,.int .i64 (nxtI s a).2])∧w=w':=by
 by_cases h:a<0∨s.size≤a
 ·refine(next_out s a hs h w).mono ?_
  rintro e w' ⟨rfl,rfl⟩;rw[nxtI_out s a h];exact⟨rfl,rfl⟩
 ·obtain⟨k,rfl⟩:∃k:Nat,a=(k:Int):=⟨a.toNat,by omega⟩
  rw[nxtI_in];exact next_in s k hs (by omega) w
end Utf
namespace Utf
open Go.RowKit
set_option maxHeartbeats 400000 in
theorem more_any (b:Int) (w:World):
  Calls Tryz.prog 149 #[.int .u8 b] w fun e w'=>e=.returned (.bool (decide (128≤b)&&decide (b≤191)))∧w=w':=by
 go_enter Tryz.func149,Tryz.ntmps149
 go_wp2
 all_goals go_ret
 all_goals refine⟨ret_bool ?_,rfl⟩
 all_goals first |rfl |(simp;omega)
set_option maxRecDepth 100000 in
set_option maxHeartbeats 400000 in
theorem rnext_out (s:ByteArray) (a:Int) (hs:s.size≤140737488355328) (h:a<0∨s.size≤a) (w:World):
  Calls Tryz.prog 124 #[.string s,.int .i64 a] w fun e w'=>e=.returned (.tuple #[.int .i64 0,.int .i64 0])∧w=w':=by
 go_enter Tryz.func124,Tryz.ntmps124;rcases h with h |h
 ·go_wp2_with fail
  go_ret2;exact⟨rfl,rfl⟩
 ·by_cases h1:a<0
  ·go_wp2_with fail
   go_ret2;exact⟨rfl,rfl⟩
  ·go_wp2_with fail
   go_ret2;exact⟨rfl,rfl⟩
theorem acc_num' (a x y:Nat) (e:y=x) (h1:128≤x) (h2:x≤191):(a:Int)*64+(x:Int)-128=((a*64+(y-128):Nat):Int):=by omega
theorem fit2 (a:Int):fitsI a ((2:Nat):Int)=true:=by
 unfold fitsI;rw[if_neg (by decide),if_neg (by decide)]
theorem fit3_iff (a:Int):fitsI a ((3:Nat):Int)=(decide (2048≤a)&&(decide (a<55296)||decide (57343<a))):=by
 unfold fitsI;rw[if_pos (by decide)]
theorem fit4_iff (a:Int):fitsI a ((4:Nat):Int)=(decide (65536≤a)&&decide (a≤1114111)):=by
 unfold fitsI;rw[if_neg (by decide),if_pos (by decide)]
theorem fit3 (a:Int) (h:fitsI a ((3:Nat):Int)=true):(2048≤a∧a<55296)∨57343<a:=by
 rw[fit3_iff,Bool.and_eq_true,Bool.or_eq_true,decide_eq_true_eq,decide_eq_true_eq,decide_eq_true_eq]at h;omega
theorem unfit3 (a:Int) (h:fitsI a ((3:Nat):Int)=false):a<2048∨(55296≤a∧a≤57343):=by
 rw[fit3_iff,Bool.and_eq_false_iff,Bool.or_eq_false_iff,decide_eq_false_iff_not,decide_eq_false_iff_not,decide_eq_false_iff_not]at h;omega
theorem fit4 (a:Int) (h:fitsI a ((4:Nat):Int)=true):65536≤a∧a≤1114111:=by
 rw[fit4_iff,Bool.and_eq_true,decide_eq_true_eq,decide_eq_true_eq]at h;omega
theorem unfit4 (a:Int) (h:fitsI a ((4:Nat):Int)=false):a<65536∨1114111<a:=by
 rw[fit4_iff,Bool.and_eq_false_iff,decide_eq_false_iff_not,decide_eq_false_iff_not]at h;omega
set_option maxRecDepth 100000 in
set_option maxHeartbeats 1000000 in
theorem rnext_2 (s:ByteArray) (k:Nat) (hs:s.size≤140737488355328) (hk:k<s.size) (h1:194≤bt s k) (h2:bt s k≤223) (w:World):
  Calls Tryz.prog 124 #[.string s,.int .i64 k] w fun e w'=>e=.returned (.tuple #[.int .i64 (nxt s k).1,.int .i64 (nxt s k).2])∧w=w':=by
 have ek:decide ((k:Int)<0)=false:=by simp
 have Hb0:=Lib.hid (bt_eq s k hk);have Hn:Hid (ln (bt s k)=2):=Lib.hid (by unfold ln;(repeat' split)<;>omega);have Hc:Hid (lc (bt s k)=bt s k-192):=Lib.hid (by unfold lc;(repeat' split)<;>omega);rw[Hb0.out]at h1 h2;have e3:decide ((s[k].toNat:Int)<128)=false:=by simp;omega
 have g0:decide ((s[k].toNat:Int)≤223)=true:=by simp;omega
 go_enter Tryz.func124,Tryz.ntmps124;by_cases hsz:s.size<k+2
 ·go_wp2_with fail
  go_ret2;exact⟨ret_pair (pair_none (nx_none _ _ (Or.inr (Or.inr (by show _<ln (bt s k);rw[Hn.out];omega))))),rfl⟩
 have e1:decide ((s.size:Int)<(k:Int)+2)=false:=by simp;omega
 go_wp2_with fail;go_loop [8,9] (fun c' i=>∃j:Nat,j<2∧conts (fun i=>bt s (k+i)) j=true∧i=.int .i64 ((j:Int)+1)∧c'=.int .i64 (acc (fun i=>bt s (k+i)) j)) (fun _ i=>2-(intOf i).toNat)
 case atStart=>exact⟨0,by omega,rfl,rfl,val_int (by rw[acc_zero];show _=((lc (bt s k):Nat):Int);rw[Hc.out,Hb0.out];omega)⟩
 case round=>
  obtain⟨j,hj,hcon,rfl,rfl⟩:=hrel;have hsm:=acc_small (fun i=>bt s (k+i)) j (bt_lt s k) (by show j<ln (bt s k);rw[Hn.out];exact hj) hcon;have Hcon:=Lib.hid hcon;clear hcon;by_cases hlt:j+1<2
  ·have Hb:=Lib.hid (bt_eq s (k+(j+1)) (by omega))
   by_cases hm:bt s (k+(j+1))<128∨191<bt s (k+(j+1))
   ·have Hbad:=Lib.hid (nx_bad (fun i=>bt s (k+i)) (s.size-k) j (by show j+1<ln (bt s k);rw[Hn.out];exact hlt) hm)
    have hm':(decide (128≤(s[k+(j+1)].toNat:Int))&&decide ((s[k+(j+1)].toNat:Int)≤191))=false:=by rw[←Hb.out];simp;omega
    clear hm;go_wp2_with (go_at_call 149;refine(more_any _ _).mono ?_;rintro e w' ⟨rfl,rfl⟩;rw[hm']);go_ret2;exact⟨ret_pair (pair_none Hbad.out),rfl⟩
   ·have hm':128≤s[k+(j+1)].toNat∧s[k+(j+1)].toNat≤191:=by rw[←Hb.out];omega
    have hm3:(decide (128≤(s[k+(j+1)].toNat:Int))&&decide ((s[k+(j+1)].toNat:Int)≤191))=true:=by simp;omega
    clear hm;obtain⟨hm1,hm2⟩:=hm';go_wp2_with (go_at_call 149;refine(more_any _ _).mono ?_;rintro e w' ⟨rfl,rfl⟩;rw[hm3]);go_round
    case rel=>exact⟨j+1,hlt,by rw[conts_succ,Hcon.out];simp[moreB,Hb.out,hm1,hm2],by go_num,val_int (acc_num' _ _ _ Hb.out hm1 hm2)⟩
    case measure=>simp[intOf];omega
  ·have Ej:=Lib.hid (show j=2-1 by omega)
   by_cases hf:fitsI (acc (fun i=>bt s (k+i)) j) ((2:Nat):Int)=true
   ·
    have ej:j=ln (bt s (k+0))-1:=by rw[Ej.out,Nat.add_zero,Hn.out]
    have en:2=ln (bt s (k+0)):=by rw[Nat.add_zero,Hn.out]
    have yes:=nx_yes (fun i=>bt s (k+i)) (s.size-k) (by show 0<ln (bt s (k+0));omega) (by show ln (bt s (k+0))≤_;omega) (by show conts _ (ln (bt s (k+0))-1)=true;rw[←ej];exact Hcon.out) (by show fitsI (acc _ (ln (bt s (k+0))-1):Nat) (ln (bt s (k+0)):Nat)=true;rw[←ej,←en];exact hf);have yes1:=Lib.hid (pair_yes yes (by show _=acc _ (ln (bt s (k+0))-1);rw[←ej]) en);clear yes ej en;go_wp2_with fail;go_ret2;exact⟨ret_pair yes1.out,rfl⟩
   ·exact absurd (fit2 _) hf
set_option maxRecDepth 100000 in
set_option maxHeartbeats 1000000 in
theorem rnext_3 (s:ByteArray) (k:Nat) (hs:s.size≤140737488355328) (hk:k<s.size) (h1:224≤bt s k) (h2:bt s k≤239) (w:World):
  Calls Tryz.prog 124 #[.string s,.int .i64 k] w fun e w'=>e=.returned (.tuple #[.int .i64 (nxt s k).1,.int .i64 (nxt s k).2])∧w=w':=by
 have ek:decide ((k:Int)<0)=false:=by simp
 have Hb0:=Lib.hid (bt_eq s k hk);have Hn:Hid (ln (bt s k)=3):=Lib.hid (by unfold ln;(repeat' split)<;>omega);have Hc:Hid (lc (bt s k)=bt s k-224):=Lib.hid (by unfold lc;(repeat' split)<;>omega);rw[Hb0.out]at h1 h2;have e3:decide ((s[k].toNat:Int)<128)=false:=by simp;omega
 have g0:decide ((s[k].toNat:Int)≤239)=true:=by simp;omega
 have f0:decide ((s[k].toNat:Int)≤223)=false:=by simp;omega
 go_enter Tryz.func124,Tryz.ntmps124;by_cases hsz:s.size<k+3
 ·go_wp2_with fail
  go_ret2;exact⟨ret_pair (pair_none (nx_none _ _ (Or.inr (Or.inr (by show _<ln (bt s k);rw[Hn.out];omega))))),rfl⟩
 have e1:decide ((s.size:Int)<(k:Int)+3)=false:=by simp;omega
 go_wp2_with fail;go_loop [8,9] (fun c' i=>∃j:Nat,j<3∧conts (fun i=>bt s (k+i)) j=true∧i=.int .i64 ((j:Int)+1)∧c'=.int .i64 (acc (fun i=>bt s (k+i)) j)) (fun _ i=>3-(intOf i).toNat)
 case atStart=>exact⟨0,by omega,rfl,rfl,val_int (by rw[acc_zero];show _=((lc (bt s k):Nat):Int);rw[Hc.out,Hb0.out];omega)⟩
 case round=>
  obtain⟨j,hj,hcon,rfl,rfl⟩:=hrel;have hsm:=acc_small (fun i=>bt s (k+i)) j (bt_lt s k) (by show j<ln (bt s k);rw[Hn.out];exact hj) hcon;have Hcon:=Lib.hid hcon;clear hcon;by_cases hlt:j+1<3
  ·have Hb:=Lib.hid (bt_eq s (k+(j+1)) (by omega))
   by_cases hm:bt s (k+(j+1))<128∨191<bt s (k+(j+1))
   ·have Hbad:=Lib.hid (nx_bad (fun i=>bt s (k+i)) (s.size-k) j (by show j+1<ln (bt s k);rw[Hn.out];exact hlt) hm)
    have hm':(decide (128≤(s[k+(j+1)].toNat:Int))&&decide ((s[k+(j+1)].toNat:Int)≤191))=false:=by rw[←Hb.out];simp;omega
    clear hm;go_wp2_with (go_at_call 149;refine(more_any _ _).mono ?_;rintro e w' ⟨rfl,rfl⟩;rw[hm']);go_ret2;exact⟨ret_pair (pair_none Hbad.out),rfl⟩
   ·have hm':128≤s[k+(j+1)].toNat∧s[k+(j+1)].toNat≤191:=by rw[←Hb.out];omega
    have hm3:(decide (128≤(s[k+(j+1)].toNat:Int))&&decide ((s[k+(j+1)].toNat:Int)≤191))=true:=by simp;omega
    clear hm;obtain⟨hm1,hm2⟩:=hm';go_wp2_with (go_at_call 149;refine(more_any _ _).mono ?_;rintro e w' ⟨rfl,rfl⟩;rw[hm3]);go_round
    case rel=>exact⟨j+1,hlt,by rw[conts_succ,Hcon.out];simp[moreB,Hb.out,hm1,hm2],by go_num,val_int (acc_num' _ _ _ Hb.out hm1 hm2)⟩
    case measure=>simp[intOf];omega
  ·have Ej:=Lib.hid (show j=3-1 by omega)
   by_cases hf:fitsI (acc (fun i=>bt s (k+i)) j) ((3:Nat):Int)=true
   ·
    have ej:j=ln (bt s (k+0))-1:=by rw[Ej.out,Nat.add_zero,Hn.out]
    have en:3=ln (bt s (k+0)):=by rw[Nat.add_zero,Hn.out]
    have yes:=nx_yes (fun i=>bt s (k+i)) (s.size-k) (by show 0<ln (bt s (k+0));omega) (by show ln (bt s (k+0))≤_;omega) (by show conts _ (ln (bt s (k+0))-1)=true;rw[←ej];exact Hcon.out) (by show fitsI (acc _ (ln (bt s (k+0))-1):Nat) (ln (bt s (k+0)):Nat)=true;rw[←ej,←en];exact hf);have yes1:=Lib.hid (pair_yes yes (by show _=acc _ (ln (bt s (k+0))-1);rw[←ej]) en);clear yes ej en;have hg:=fit3 _ hf;clear hf;clear hsm;generalize ((acc (fun i=>bt s (k+i)) j:Nat):Int)=a at *;rcases hg with ⟨g1,g2⟩|g1
    ·go_wp2_with fail
     go_ret2;exact⟨ret_pair yes1.out,rfl⟩
    ·go_wp2_with fail
     go_ret2;exact⟨ret_pair yes1.out,rfl⟩
   ·replace hf:fitsI (acc (fun i=>bt s (k+i)) j) ((3:Nat):Int)=false:=by simpa using hf
    have ej:j=ln (bt s (k+0))-1:=by rw[Ej.out,Nat.add_zero,Hn.out]
    have en:3=ln (bt s (k+0)):=by rw[Nat.add_zero,Hn.out]
    have no:=Lib.hid (pair_none (nx_unfit (fun i=>bt s (k+i)) (s.size-k) (by show fitsI (acc _ (ln (bt s (k+0))-1):Nat) (ln (bt s (k+0)):Nat)=false;rw[←ej,←en];exact hf)));clear ej en;have hg:=unfit3 _ hf;clear hf;clear hsm;generalize ((acc (fun i=>bt s (k+i)) j:Nat):Int)=a at *;rcases hg with g1 |⟨g1,g2⟩
    ·go_wp2_with fail
     go_ret2;exact⟨ret_pair no.out,rfl⟩
    ·go_wp2_with fail
     go_ret2;exact⟨ret_pair no.out,rfl⟩
set_option maxRecDepth 100000 in
set_option maxHeartbeats 1000000 in
theorem rnext_4 (s:ByteArray) (k:Nat) (hs:s.size≤140737488355328) (hk:k<s.size) (h1:240≤bt s k) (h2:bt s k≤244) (w:World):
  Calls Tryz.prog 124 #[.string s,.int .i64 k] w fun e w'=>e=.returned (.tuple #[.int .i64 (nxt s k).1,.int .i64 (nxt s k).2])∧w=w':=by
 have ek:decide ((k:Int)<0)=false:=by simp
 have Hb0:=Lib.hid (bt_eq s k hk);have Hn:Hid (ln (bt s k)=4):=Lib.hid (by unfold ln;(repeat' split)<;>omega);have Hc:Hid (lc (bt s k)=bt s k-240):=Lib.hid (by unfold lc;(repeat' split)<;>omega);rw[Hb0.out]at h1 h2;have e3:decide ((s[k].toNat:Int)<128)=false:=by simp;omega
 have g0:decide ((s[k].toNat:Int)≤244)=true:=by simp;omega
 have f0:decide ((s[k].toNat:Int)≤223)=false:=by simp;omega
 have f1:decide ((s[k].toNat:Int)≤239)=false:=by simp;omega
 go_enter Tryz.func124,Tryz.ntmps124;by_cases hsz:s.size<k+4
 ·go_wp2_with fail
  go_ret2;exact⟨ret_pair (pair_none (nx_none _ _ (Or.inr (Or.inr (by show _<ln (bt s k);rw[Hn.out];omega))))),rfl⟩
 have e1:decide ((s.size:Int)<(k:Int)+4)=false:=by simp;omega
 go_wp2_with fail;go_loop [8,9] (fun c' i=>∃j:Nat,j<4∧conts (fun i=>bt s (k+i)) j=true∧i=.int .i64 ((j:Int)+1)∧c'=.int .i64 (acc (fun i=>bt s (k+i)) j)) (fun _ i=>4-(intOf i).toNat)
 case atStart=>exact⟨0,by omega,rfl,rfl,val_int (by rw[acc_zero];show _=((lc (bt s k):Nat):Int);rw[Hc.out,Hb0.out];omega)⟩
 case round=>
  obtain⟨j,hj,hcon,rfl,rfl⟩:=hrel;have hsm:=acc_small (fun i=>bt s (k+i)) j (bt_lt s k) (by show j<ln (bt s k);rw[Hn.out];exact hj) hcon;have Hcon:=Lib.hid hcon;clear hcon;by_cases hlt:j+1<4
  ·have Hb:=Lib.hid (bt_eq s (k+(j+1)) (by omega))
   by_cases hm:bt s (k+(j+1))<128∨191<bt s (k+(j+1))
   ·have Hbad:=Lib.hid (nx_bad (fun i=>bt s (k+i)) (s.size-k) j (by show j+1<ln (bt s k);rw[Hn.out];exact hlt) hm)
    have hm':(decide (128≤(s[k+(j+1)].toNat:Int))&&decide ((s[k+(j+1)].toNat:Int)≤191))=false:=by rw[←Hb.out];simp;omega
    clear hm;go_wp2_with (go_at_call 149;refine(more_any _ _).mono ?_;rintro e w' ⟨rfl,rfl⟩;rw[hm']);go_ret2;exact⟨ret_pair (pair_none Hbad.out),rfl⟩
   ·have hm':128≤s[k+(j+1)].toNat∧s[k+(j+1)].toNat≤191:=by rw[←Hb.out];omega
    have hm3:(decide (128≤(s[k+(j+1)].toNat:Int))&&decide ((s[k+(j+1)].toNat:Int)≤191))=true:=by simp;omega
    clear hm;obtain⟨hm1,hm2⟩:=hm';go_wp2_with (go_at_call 149;refine(more_any _ _).mono ?_;rintro e w' ⟨rfl,rfl⟩;rw[hm3]);go_round
    case rel=>exact⟨j+1,hlt,by rw[conts_succ,Hcon.out];simp[moreB,Hb.out,hm1,hm2],by go_num,val_int (acc_num' _ _ _ Hb.out hm1 hm2)⟩
    case measure=>simp[intOf];omega
  ·have Ej:=Lib.hid (show j=4-1 by omega)
   by_cases hf:fitsI (acc (fun i=>bt s (k+i)) j) ((4:Nat):Int)=true
   ·
    have ej:j=ln (bt s (k+0))-1:=by rw[Ej.out,Nat.add_zero,Hn.out]
    have en:4=ln (bt s (k+0)):=by rw[Nat.add_zero,Hn.out]
    have yes:=nx_yes (fun i=>bt s (k+i)) (s.size-k) (by show 0<ln (bt s (k+0));omega) (by show ln (bt s (k+0))≤_;omega) (by show conts _ (ln (bt s (k+0))-1)=true;rw[←ej];exact Hcon.out) (by show fitsI (acc _ (ln (bt s (k+0))-1):Nat) (ln (bt s (k+0)):Nat)=true;rw[←ej,←en];exact hf);have yes1:=Lib.hid (pair_yes yes (by show _=acc _ (ln (bt s (k+0))-1);rw[←ej]) en);clear yes ej en;obtain⟨g1,g2⟩:=fit4 _ hf;clear hf;clear hsm;generalize ((acc (fun i=>bt s (k+i)) j:Nat):Int)=a at *;go_wp2_with fail;go_ret2;exact⟨ret_pair yes1.out,rfl⟩
   ·replace hf:fitsI (acc (fun i=>bt s (k+i)) j) ((4:Nat):Int)=false:=by simpa using hf
    have ej:j=ln (bt s (k+0))-1:=by rw[Ej.out,Nat.add_zero,Hn.out]
    have en:4=ln (bt s (k+0)):=by rw[Nat.add_zero,Hn.out]
    have no:=Lib.hid (pair_none (nx_unfit (fun i=>bt s (k+i)) (s.size-k) (by show fitsI (acc _ (ln (bt s (k+0))-1):Nat) (ln (bt s (k+0)):Nat)=false;rw[←ej,←en];exact hf)));clear ej en;have hg:=unfit4 _ hf;clear hf;clear hsm;generalize ((acc (fun i=>bt s (k+i)) j:Nat):Int)=a at *;rcases hg with g1 |g1
    ·go_wp2_with fail
     go_ret2;exact⟨ret_pair no.out,rfl⟩
    ·go_wp2_with fail
     go_ret2;exact⟨ret_pair no.out,rfl⟩
set_option maxRecDepth 100000 in
set_option maxHeartbeats 1000000 in
theorem rnext_1 (s:ByteArray) (k:Nat) (hs:s.size≤140737488355328) (hk:k<s.size) (h1:bt s k≤127) (w:World):
  Calls Tryz.prog 124 #[.string s,.int .i64 k] w fun e w'=>e=.returned (.tuple #[.int .i64 (nxt s k).1,.int .i64 (nxt s k).2])∧w=w':=by
 have ek:decide ((k:Int)<0)=false:=by simp
 have Hb0:=Lib.hid (bt_eq s k hk);have en:ln (bt s (k+0))=1:=by rw[Nat.add_zero];unfold ln;rw[if_pos h1]
 have ec:lc (bt s (k+0))=s[k].toNat:=by rw[Nat.add_zero,←Hb0.out];unfold lc;rw[if_pos h1]
 have yes:=nx_yes (fun i=>bt s (k+i)) (s.size-k) (by show 0<ln (bt s (k+0));omega) (by show ln (bt s (k+0))≤_;omega) (by show conts _ (ln (bt s (k+0))-1)=true;rw[en];rfl) (by show fitsI (acc _ (ln (bt s (k+0))-1):Nat) (ln (bt s (k+0)):Nat)=true;rw[en];unfold fitsI;rw[if_neg (by decide),if_neg (by decide)]);have yes1:=Lib.hid (pair_yes (c:=s[k].toNat) (d:=1) yes (by show _=acc _ (ln (bt s (k+0))-1);rw[en];exact ec.symm) en.symm);clear yes en ec;rw[Hb0.out]at h1;go_enter Tryz.func124,Tryz.ntmps124;go_wp2_with fail;go_ret2;exact⟨ret_pair yes1.out,rfl⟩
set_option maxRecDepth 100000 in
set_option maxHeartbeats 1000000 in
theorem rnext_0 (s:ByteArray) (k:Nat) (hs:s.size≤140737488355328) (hk:k<s.size) (h:(128≤bt s k∧bt s k<194)∨244<bt s k) (w:World):
  Calls Tryz.prog 124 #[.string s,.int .i64 k] w fun e w'=>e=.returned (.tuple #[.int .i64 (nxt s k).1,.int .i64 (nxt s k).2])∧w=w':=by
 have ek:decide ((k:Int)<0)=false:=by simp
 have Hb0:=Lib.hid (bt_eq s k hk);have en:ln (bt s k)=0:=by unfold ln;(repeat' split)<;>omega
 have no:=Lib.hid (pair_none (nx_none (fun i=>bt s (k+i)) (s.size-k) (Or.inr (Or.inl en))));clear en;rw[Hb0.out]at h;have hb2:=s[k].toNat_lt;go_enter Tryz.func124,Tryz.ntmps124;rcases h with ⟨g1,g2⟩|g1
 ·go_wp2_with fail
  go_ret2;exact⟨ret_pair no.out,rfl⟩
 ·go_wp2_with fail
  go_ret2;exact⟨ret_pair no.out,rfl⟩
theorem rnext_any (s:ByteArray) (a:Int) (hs:s.size≤140737488355328) (w:World):
  Calls Tryz.prog 124 #[.string s,.int .i64 a] w fun e w'=>e=.returned (.tuple #[.int .i64 (nxtI s a).1,.int .i64 (nxtI s a).2])∧w=w':=by
 by_cases h:a<0∨s.size≤a
 ·refine(rnext_out s a hs h w).mono ?_
  rintro e w' ⟨rfl,rfl⟩;rw[nxtI_out s a h];exact⟨rfl,rfl⟩
 ·obtain⟨k,rfl⟩:∃k:Nat,a=(k:Int):=⟨a.toNat,by omega⟩
  rw[nxtI_in];have hk:k<s.size:=by omega
  by_cases c1:bt s k≤127
  ·exact rnext_1 s k hs hk c1 w
  by_cases c2:194≤bt s k∧bt s k≤223
  ·exact rnext_2 s k hs hk c2.1 c2.2 w
  by_cases c3:224≤bt s k∧bt s k≤239
  ·exact rnext_3 s k hs hk c3.1 c3.2 w
  by_cases c4:240≤bt s k∧bt s k≤244
  ·exact rnext_4 s k hs hk c4.1 c4.2 w
  exact rnext_0 s k hs hk (by omega) w
end Utf
namespace Utf
open Go.RowKit
def nums (t:ByteArray):List Int:=t.data.toList.map fun x=>(x.toNat:Int)
theorem nums_length (t:ByteArray):(nums t).length=t.size:=by simp[nums]
theorem nums_getD (t:ByteArray) (i:Nat) (h:i<t.size):(nums t).getD i 0=(t[i].toNat:Int):=by
 have h':i<t.data.toList.length:=by simpa using h
 unfold nums;rw[List.getD_eq_getElem?_getD,List.getElem?_map,List.getElem?_eq_getElem h'];rfl
theorem bytesOf_nums (t:ByteArray):Lib.bytesOf (nums t)=t.data.toList:=by
 unfold Lib.bytesOf nums;rw[List.map_map]
 conv=>rhs;rw[←List.map_id t.data.toList]
 apply List.map_congr_left;intro x _;simp
theorem index_yes (t:ByteArray) (h:zeroB t=true):0≤Lib.indexByte t.data.toList 0:=by
 have h1:=Lib.indexByte_ge t.data.toList 0;by_cases e:Lib.indexByte t.data.toList 0=-1
 ·have h2:(0:UInt8)∈t.data.toList:=by simpa [zeroB]using h
  obtain⟨i,hi,he⟩:=List.getElem_of_mem h2;exact absurd (by rw[List.getElem?_eq_getElem hi,he]) (Lib.indexByte_none e i)
 ·omega
theorem index_no (t:ByteArray) (h:zeroB t=false):Lib.indexByte t.data.toList 0=-1:=by
 have h1:=Lib.indexByte_ge t.data.toList 0;by_cases e:Lib.indexByte t.data.toList 0=-1
 ·exact e
 ·exfalso
  have h2:¬(0:UInt8)∈t.data.toList:=by simpa [zeroB]using h
  have h3:=(Lib.indexByte_some (l:=t.data.toList) (c:=0) (o:=(Lib.indexByte t.data.toList 0).toNat) (by omega)).1;exact h2 (List.mem_of_getElem? h3)
set_option maxHeartbeats 1000000 in
set_option maxRecDepth 100000 in
theorem ixb_any (t:ByteArray) (b cap:Nat) (cv:Int) (w:World) (hB:Lib.Bytes w b 0 t):
  Calls Tryz.prog 35 #[.slice (some ⟨b,0,none⟩) t.size cap,.int .u8 cv] w fun e w'=>e=.returned (.int .i64 (Lib.indexByte t.data.toList cv.toNat.toUInt8))∧w=w':=by
 have hc:∀i,i<t.size→w.cell? ⟨b,0+i,none⟩=some (.int .u8 ((nums t).getD i 0)):=fun i hi=>by rw[hB i hi,nums_getD t i hi]
 have h0:=Lib.run_indexByteSlice (P:=Tryz.prog) w b 0 t.size cap (nums t) (nums_length t) hc cv;rw[bytesOf_nums]at h0;have H:=Lib.hid h0;clear h0;clear hc hB;go_enter Tryz.func35,Tryz.ntmps35;go_wp2;rw[run_callFunc_extern Tryz.func63 (by kernel_rfl) (by kernel_rfl) (by kernel_rfl) (e:=Extern.BytealgIndexByte.indexByte) (by kernel_rfl),H.out];simp only[Result.andThen];rw[Oper.upon_value];go_wp2;go_ret;exact⟨rfl,rfl⟩
theorem bytes_row (w:World) (s:ByteArray) (cap:Nat) (e:TypeId) (fr:Nat × Nat):Lib.Bytes (w.alloc (.cells (bytesRow s cap) e fr)) w.heap.size 0 s:=by
 intro i hi;rw[Nat.zero_add,World.cell?_alloc_mark,bytesRow_at s cap i hi];rfl
set_option maxHeartbeats 400000 in
theorem check_any (t:ByteArray) (b cap:Nat) (w:World) (hB:Lib.Bytes w b 0 t) (hs:t.size≤maxLen):
  Calls Tryz.prog 20 #[.slice (some ⟨b,0,none⟩) t.size cap] w fun e w'=>e=.returned (.int .i64 (chk t))∧w=w':=by
 have hs':=hs;unfold maxLen at hs';have hconv:=Lib.run_convert_whole (P:=Tryz.prog) w 49 5 9 Tryz.underlying49 Tryz.underlying5 Tryz.underlying9 b 0 t hB cap;by_cases h1:1048576<(t.size:Int)
 ·have Hfin:=Lib.hid (show(4:Int)=chk t by unfold chk;rw[if_pos h1])
  go_enter Tryz.func20,Tryz.ntmps20;go_wp2_with fail;go_ret;exact⟨ret_int Hfin.out,rfl⟩
 have e1:decide (1048576<(t.size:Int))=false:=by simpa using h1
 by_cases h2:zeroB t=true
 ·have Hfin:=Lib.hid (show(3:Int)=chk t by unfold chk;rw[if_neg h1,if_pos h2])
  have hx:=index_yes t h2;clear h2;go_enter Tryz.func20,Tryz.ntmps20;go_wp2_with (go_at_call 35;refine(ixb_any t b cap 0 _ hB).mono ?_;rintro e w' ⟨rfl,rfl⟩);go_ret;exact⟨ret_int Hfin.out,rfl⟩
 have h2':zeroB t=false:=by simpa using h2
 have hx:=index_no t h2';have Hz:Hid (∀g:Bool,goesAt t 0=g→chk t=if g=true then 0 else 2):=Lib.hid (fun g hg=>by unfold chk;rw[if_neg h1,if_neg h2,hg]);clear h2 h2';go_enter Tryz.func20,Tryz.ntmps20;go_wp2_with (go_at_call 35;refine(ixb_any t b cap 0 _ hB).mono ?_;rintro e w' ⟨rfl,rfl⟩);clear hx hconv;go_loop [4] (fun i=>∃k:Nat,k≤t.size∧i=.int .i64 k∧Hid (goesAt t k=goesAt t 0)) (fun i=>t.size-(intOf i).toNat)
 case atStart=>exact⟨0,Nat.zero_le _,rfl,rfl⟩
 case round=>
  obtain⟨k,hk,rfl,Hg⟩:=hrel;by_cases hlt:k<t.size
  ·have hn:=nxt_le t k
   have hin:=nxtI_in t k;have hbad:=fun h0=>goesAt_bad t k hlt h0
   have hstep:=fun h0=>goesAt_step t k hlt h0
   generalize nxt t k=p at *;obtain⟨c,n⟩:=p;have Hin:=Lib.hid hin;clear hin;simp only at hn hbad hstep;by_cases h0:n=0
   ·have Hfin:=Lib.hid (show(2:Int)=chk t by rw[Hz.out false (by rw[←Hg.out];exact hbad h0)];rfl)
    clear hbad hstep;subst h0;go_wp2_with (go_at_call 36;refine(next_any t k hs _).mono ?_;rintro e w' ⟨rfl,rfl⟩;rw[Hin.out]);go_ret;exact⟨ret_int Hfin.out,rfl⟩
   ·have Hst:=Lib.hid (hstep h0)
    clear hbad hstep;have e0:((n:Int)==0)=false:=by simp[h0]
    go_wp2_with (go_at_call 36;refine(next_any t k hs _).mono ?_;rintro e w' ⟨rfl,rfl⟩;rw[Hin.out]);go_round
    case rel=>exact⟨k+n,by omega,by go_num,Hst.out.trans Hg.out⟩
    case measure=>simp[intOf];omega
  ·have Hfin:=Lib.hid (show(0:Int)=chk t by rw[Hz.out true (by rw[←Hg.out];exact goesAt_end t k (by omega))];rfl)
   go_wp2_with fail;go_ret;exact⟨ret_int Hfin.out,rfl⟩
end Utf
namespace Utf
open Go.RowKit
theorem zero_at (t:ByteArray) (k:Nat) (h:k<t.size) (e:t[k].toNat=0):zeroB t=true:=by
 unfold zeroB;apply decide_eq_true;have h':k<t.data.toList.length:=by simpa using h
 have e1:t.data.toList[k]=t[k]:=rfl;have e2:t.data.toList[k]=0:=by rw[e1];exact UInt8.toNat_inj.1 e
 exact e2▸List.getElem_mem h'
theorem no_zero (t:ByteArray) (h:∀k (hk:k<t.size),t[k].toNat≠0):zeroB t=false:=by
 unfold zeroB;apply decide_eq_false;intro hm;obtain⟨i,hi,he⟩:=List.getElem_of_mem hm;have hi':i<t.size:=by simpa using hi
 refine h i hi' ?_;have e1:t.data.toList[i]=t[i]:=rfl;rw[←e1,he];rfl
def Clean0 (t:ByteArray) (k:Nat):Prop:=∀j (hj:j<t.size),j<k→t[j].toNat≠0
set_option maxHeartbeats 400000 in
theorem rcheck_any (t:ByteArray) (hs:t.size≤140737488355328) (w:World):
  Calls Tryz.prog 89 #[.string t] w fun e w'=>e=.returned (.int .i64 (chk t))∧w=w':=by
 by_cases h1:1048576<(t.size:Int)
 ·have Hfin:=Lib.hid (show(4:Int)=chk t by unfold chk;rw[if_pos h1])
  go_enter Tryz.func89,Tryz.ntmps89;go_wp2_with fail;go_ret;exact⟨ret_int Hfin.out,rfl⟩
 have e1:decide (1048576<(t.size:Int))=false:=by simpa using h1
 have Hz:Hid (∀g:Bool,zeroB t=false→goesAt t 0=g→chk t=if g=true then 0 else 2):=Lib.hid (fun g h2 hg=>by unfold chk;rw[if_neg h1,if_neg (by rw[h2];decide),hg]);have H3:Hid (zeroB t=true→chk t=3):=Lib.hid (fun h2=>by unfold chk;rw[if_neg h1,if_pos h2]);go_enter Tryz.func89,Tryz.ntmps89;go_wp2_with fail;go_loop [3] (fun i=>∃k:Nat,k≤t.size∧i=.int .i64 k∧Clean0 t k) (fun i=>t.size-(intOf i).toNat)
 case atStart=>exact⟨0,Nat.zero_le _,rfl,fun j _ h=>absurd h (Nat.not_lt_zero j)⟩
 case round=>
  obtain⟨k,hk,rfl,Hc⟩:=hrel;by_cases hlt:k<t.size
  ·by_cases h0:t[k].toNat=0
   ·have Hfin:=Lib.hid (show(3:Int)=chk t from(H3.out (zero_at t k hlt h0)).symm)
    have e0:((t[k].toNat:Int)==0)=true:=by simp[h0]
    clear h0;go_wp2_with fail;go_ret;exact⟨ret_int Hfin.out,rfl⟩
   ·have e0:((t[k].toNat:Int)==0)=false:=by simp[h0]
    have Hc2:Clean0 t (k+1):=fun j hj h=>by
     by_cases e:j=k
     ·subst e;exact h0
     ·exact Hc j hj (by omega)
    clear h0;go_wp2_with fail;go_round
    case rel=>exact⟨k+1,by omega,by go_num,Hc2⟩
    case measure=>simp[intOf];omega
  ·have hz:zeroB t=false:=no_zero t fun j hj=>Hc j hj (by omega)
   have Hz2:Hid (∀g:Bool,goesAt t 0=g→chk t=if g=true then 0 else 2):=Lib.hid (fun g=>Hz.out g hz);clear hz Hc;go_wp2_with fail;go_loop [4] (fun i=>∃k:Nat,k≤t.size∧i=.int .i64 k∧Hid (goesAt t k=goesAt t 0)) (fun i=>t.size-(intOf i).toNat)
   case atStart=>exact⟨0,Nat.zero_le _,rfl,rfl⟩
   case round=>
    obtain⟨k,hk,rfl,Hg⟩:=hrel;by_cases hlt:k<t.size
    ·have hn:=nxt_le t k
     have hin:=nxtI_in t k;have hbad:=fun h0=>goesAt_bad t k hlt h0
     have hstep:=fun h0=>goesAt_step t k hlt h0
     generalize nxt t k=p at *;obtain⟨c,n⟩:=p;have Hin:=Lib.hid hin;clear hin;simp only at hn hbad hstep;by_cases h0:n=0
     ·have Hfin:=Lib.hid (show(2:Int)=chk t by rw[Hz2.out false (by rw[←Hg.out];exact hbad h0)];rfl)
      clear hbad hstep;subst h0;go_wp2_with (go_at_call 124;refine(rnext_any t k hs _).mono ?_;rintro e w' ⟨rfl,rfl⟩;rw[Hin.out]);go_ret;exact⟨ret_int Hfin.out,rfl⟩
     ·have Hst:=Lib.hid (hstep h0)
      clear hbad hstep;have e0:((n:Int)==0)=false:=by simp[h0]
      go_wp2_with (go_at_call 124;refine(rnext_any t k hs _).mono ?_;rintro e w' ⟨rfl,rfl⟩;rw[Hin.out]);go_round
      case rel=>exact⟨k+n,by omega,by go_num,Hst.out.trans Hg.out⟩
      case measure=>simp[intOf];omega
    ·have Hfin:=Lib.hid (show(0:Int)=chk t by rw[Hz2.out true (by rw[←Hg.out];exact goesAt_end t k (by omega))];rfl)
     go_wp2_with fail;go_ret;exact⟨ret_int Hfin.out,rfl⟩
end Utf
end Go.Proofs.YtpakjdgddomdjabGreatDoor
