import Derived.Test.YtpakjdgddomdjabGreatDoorPkU
import Derived.Test.YtpakjdgddomdjabGreatDoorPkV
import Derived.Test.YtpakjdgddomdjabGreatDoorPkW
set_option linter.unusedVariables false
namespace Go.Proofs.YtpakjdgddomdjabGreatDoor
namespace Pa
open Go.RowKit
open Bk (Tx fenceL spanK kindOf closes)
open Kd (E0 clB)
theorem ret_i {a b:Int} (h:a=b):Ending.returned (.int .i64 a)=Ending.returned (.int .i64 b):=by rw[h]
def plc (xs r:List Tx):Nat:=xs.length-r.length
theorem span_yes {k:Nat} {s:Tx} {l:List Tx} (h:kindOf E0 s=k):spanK E0 k (s::l)=(s::(spanK E0 k l).1,(spanK E0 k l).2):=by rw[spanK,if_pos h]
theorem span_no {k:Nat} {s:Tx} {l:List Tx} (h:kindOf E0 s≠k):spanK E0 k (s::l)=([],s::l):=by rw[spanK,if_neg h]
theorem cl_nat (s:Tx) (n:Nat):clB s (n:Int)=closes s n:=by
 unfold clB closes;have:decide ((n:Int)≤(s.length:Int))=decide (n≤s.length):=by rw[decide_eq_decide];omega
 rw[this]
theorem fence_yes {n:Nat} {s:Tx} {l:List Tx} (h:closes s n=true):fenceL n (s::l)=([],l):=by rw[fenceL,if_pos h]
theorem fence_no {n:Nat} {s:Tx} {l:List Tx} (h:closes s n=false):fenceL n (s::l)=(s::(fenceL n l).1,(fenceL n l).2):=by rw[fenceL,if_neg (by rw[h];decide)]
end Pa
namespace Pa
open Go.RowKit
open Bk (Tx itemL kindOf inner)
open Kd (E0)
theorem item_nil:∀l:List Tx,(itemL E0 l).1=[]→(itemL E0 l).2=l
 |[],_=>rfl
 |s::l,h=>by
  unfold itemL at h ⊢;split
  ·rfl
  ·rename_i x hx
   rw[hx]at h;simp only at h;split at h
   ·rename_i hc;rw[if_pos hc]
   ·cases h
def endL (xs:List Tx) (e:Nat) (r:List Tx):Nat:=if(itemL E0 r).1=[]then e else plc xs (itemL E0 r).2
theorem end_start (xs:List Tx) (k:Nat) (hk:k≤xs.length):endL xs k (xs.drop k)=plc xs (itemL E0 (xs.drop k)).2:=by
 unfold endL;split
 ·rename_i h;rw[item_nil _ h,plc,List.length_drop];omega
 ·rfl
theorem item_b {s x:Tx} {l:List Tx} (h:inner s=some x) (h1:(itemL E0 l).1=[]) (h2:kindOf E0 s=1):itemL E0 (s::l)=([],s::l):=by
 rw[itemL,h];exact if_pos ⟨h1,h2⟩
theorem item_m {s x:Tx} {l:List Tx} (h:inner s=some x) (h1:¬((itemL E0 l).1=[]∧kindOf E0 s=1)):itemL E0 (s::l)=(x::(itemL E0 l).1,(itemL E0 l).2):=by
 rw[itemL,h];exact if_neg h1
theorem item_stop {r:List Tx} (h:r=[]∨∃s l,r=s::l∧inner s=none):itemL E0 r=([],r):=by
 rcases h with rfl |⟨s,l,rfl,h⟩
 ·rfl
 ·rw[itemL,h]
theorem end_blank {xs:List Tx} {e:Nat} {s x:Tx} {l:List Tx} (h:inner s=some x) (hk:kindOf E0 s=1):endL xs e (s::l)=endL xs e l:=by
 unfold endL;by_cases he:(itemL E0 l).1=[]
 ·rw[item_b h he hk,if_pos rfl,if_pos he]
 ·rw[item_m h (fun h=>he h.1),if_neg (by simp),if_neg he]
theorem end_more {xs:List Tx} {e k:Nat} {s x:Tx} (h:inner s=some x) (hk:kindOf E0 s≠1) (hl:k<xs.length):endL xs e (s::xs.drop (k+1))=endL xs (k+1) (xs.drop (k+1)):=by
 unfold endL;rw[item_m h (fun h=>hk h.2),if_neg (by simp)];by_cases he:(itemL E0 (xs.drop (k+1))).1=[]
 ·rw[if_pos he,item_nil _ he,plc,List.length_drop];omega
 ·rw[if_neg he]
theorem end_stop {xs:List Tx} {e:Nat} {r:List Tx} (h:r=[]∨∃s l,r=s::l∧inner s=none):endL xs e r=e:=by
 unfold endL;rw[item_stop h,if_pos rfl]
end Pa
namespace Pa
open Bk (Tx itemL dropBlank listL kindOf unitem joinLF)
open Kd (E0)
def lst (l:List Tx):List (List Tx) × List Tx:=listL E0 l.length l
theorem lst_one {s:Tx} {l:List Tx} (h:dropBlank E0 (itemL E0 l).2=[]∨∃t r,dropBlank E0 (itemL E0 l).2=t::r∧kindOf E0 t≠6):lst (s::l)=([unitem s::(itemL E0 l).1],(itemL E0 l).2):=by
 unfold lst;rw[List.length_cons,listL];rcases h with h |⟨t,r,h,hk⟩
 ·rw[h]
 ·rw[h]
  simp only;rw[if_neg hk]
theorem lst_more {s:Tx} {l:List Tx} {t:Tx} {r:List Tx} (h:dropBlank E0 (itemL E0 l).2=t::r) (hk:kindOf E0 t=6):lst (s::l)=((unitem s::(itemL E0 l).1)::(lst (t::r)).1,(lst (t::r)).2):=by
 have h2:=((blank_suf E0 (itemL E0 l).2).trans (item_suf E0 l)).length_le;rw[h]at h2;unfold lst;rw[List.length_cons,listL];rw[h];simp only;rw[if_pos hk,list_more E0 l.length (t::r).length (t::r) h2 (Nat.le_refl _)]
theorem joinLF_len:∀l:List Tx,(joinLF l).length≤tot l
 |[]=>Nat.zero_le _
 |[y]=>by simp only[joinLF,tot];omega
 |y::z::r=>by
  have ih:=joinLF_len (z::r);simp only[joinLF,tot,List.length_append,List.length_cons]at ih ⊢;omega
theorem tot_take (l:List Tx) (n:Nat):tot (l.take n)≤tot l:=by
 have h:=congrArg tot (List.take_append_drop n l);rw[tot_app]at h;omega
end Pa
namespace Pa
open Go.RowKit
open Bk (Tx)
theorem plc_drop {xs r:List Tx} (h:r <:+ xs):xs.drop (plc xs r)=r:=suf_drop h
theorem plc_le (xs r:List Tx):plc xs r≤xs.length:=by unfold plc;omega
theorem plc_ge {xs r:List Tx} {i:Nat} (h:r <:+ xs.drop i) (hi:i≤xs.length):i≤plc xs r:=by
 have:=h.length_le;rw[List.length_drop]at this;unfold plc;omega
theorem suf_of_drop {xs r:List Tx} {i:Nat} (h:r <:+ xs.drop i):r <:+ xs:=h.trans (List.drop_suffix i xs)
end Pa
namespace Pa
open Go.RowKit
open Tk (S)
open Bt (KB)
open Cm (Keep cell_at lt_of_at)
open Bk (Tx Bk)
open Kd
def BlkF (w:World) (b:Bk) (e:Ending) (w':World):Prop:=∃vl vs vk,e=.returned (.agg #[.int .i64 b.kind,.int .i64 b.level,.string (S b.info),vl,vs,vk])∧Below w.heap.size w w'∧∀w'',Keep (fun j=>j<w.heap.size) w' w''→KB w'' (b,vl,vs,vk)
theorem kb_nil (w:World) (k lv:Int) (i:Tx):KB w (.mk k lv i [] [] [],.slice none 0 0,.slice none 0 0,.slice none 0 0):=⟨nilRd w,by simp[Bk.lines],nilTr w,nilTrB w⟩
theorem blkF_zero {w w5:World} {X:Bk} (HB:Below w.heap.size w w5) (HR:X=.mk 0 0 [] [] [] []):
  BlkF w X (.returned (.agg #[.int .i64 0,.int .i64 0,.string ⟨#[]⟩,.slice none 0 0,.slice none 0 0,.slice none 0 0])) w5:=by
 subst HR;exact⟨_,_,_,rfl,HB,fun w'' _=>kb_nil w'' 0 0 []⟩
theorem blkF_one {w w5:World} {X:Bk} {a d:Tx} {sa:ByteArray} {k:Nat} {T:TypeId} {fr:Nat × Nat} (HSa:S a=sa) (HB:Below w.heap.size w w5) (HA:w5.heap[k]? = some (Obj.cells #[.string (S d)] T fr)) (hk:w.heap.size≤k) (HR:X=.mk 8 0 a [d] [] []):
  BlkF w X (.returned (.agg #[.int .i64 8,.int .i64 0,.string sa,.slice (some ⟨k,0,none⟩) 1 1,.slice none 0 0,.slice none 0 0])) w5:=by
 subst HR;subst HSa;refine⟨.slice (some ⟨k,0,none⟩) 1 1,_,_,rfl,HB,fun w'' k2=>⟨⟨_,1,rfl,Nat.le_refl _,Or.inr ⟨k,0,rfl,lt_of_at (k2.at HA (by omega)),fun j x hj=>?_⟩⟩,by simp[Bk.lines],nilTr _,nilTrB _⟩⟩;have h0:=cell_at (k2.at HA (by omega)) 0;cases j with
 |zero=>
  have:x=d:=by simpa [Bk.lines]using hj.symm
  subst this;exact h0
 |succ j=>simp[Bk.lines]at hj
end Pa
end Go.Proofs.YtpakjdgddomdjabGreatDoor
