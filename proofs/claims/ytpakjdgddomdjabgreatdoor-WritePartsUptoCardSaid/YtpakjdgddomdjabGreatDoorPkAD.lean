import Derived.Test.YtpakjdgddomdjabGreatDoorPkQ
import Derived.Test.YtpakjdgddomdjabGreatDoorPkG
import Derived.Test.YtpakjdgddomdjabGreatDoorPkU
import Derived.Test.YtpakjdgddomdjabGreatDoorPkX
import Derived.Test.YtpakjdgddomdjabGreatDoorPkV
import Derived.Test.YtpakjdgddomdjabGreatDoorPkAC
set_option linter.unusedVariables false
namespace Go.Proofs.YtpakjdgddomdjabGreatDoor
namespace Sp
end Sp
namespace Pa
open Bk (Tx Bk fenceL spanK items kindOf unquote define parse joinLF)
open Ln (run trim)
open Kd (E0)
def quoted (s:Tx) (l:List Tx):List Tx:=(spanK E0 5 (s::l)).1.map unquote
def paraL (s:Tx) (l:List Tx):List Tx:=(spanK E0 8 (s::l)).1.map trim
theorem val2 {rec:Nat→List Tx→Option (List Bk)} {d:Nat} {s:Tx} {l:List Tx} (hk:kindOf E0 s=2):valB rec d s l=some (.mk 2 (run 35 s) [] [] (parse (trim (s.drop (run 35 s)))) []):=by
 unfold valB;rw[if_pos hk]
theorem val3 {rec:Nat→List Tx→Option (List Bk)} {d:Nat} {s:Tx} {l:List Tx} (hk:kindOf E0 s=3):valB rec d s l=some (.mk 3 0 [] [] [] []):=by
 unfold valB;rw[if_neg (by rw[hk];decide),if_pos hk]
theorem val4 {rec:Nat→List Tx→Option (List Bk)} {d:Nat} {s:Tx} {l:List Tx} (hk:kindOf E0 s=4):valB rec d s l=some (.mk 4 0 (trim (s.drop (run 96 s))) (fenceL (run 96 s) l).1 [] []):=by
 unfold valB;rw[if_neg (by rw[hk];decide),if_neg (by rw[hk];decide),if_pos hk]
theorem val5 {rec:Nat→List Tx→Option (List Bk)} {d:Nat} {s:Tx} {l:List Tx} (hk:kindOf E0 s=5):valB rec d s l=(rec (d+1) (quoted s l)).map fun k=>.mk 5 0 [] [] [] k:=by
 unfold valB;rw[if_neg (by rw[hk];decide),if_neg (by rw[hk];decide),if_neg (by rw[hk];decide),if_pos hk];rfl
theorem val6 {rec:Nat→List Tx→Option (List Bk)} {d:Nat} {s:Tx} {l:List Tx} (hk:kindOf E0 s=6):valB rec d s l=(items (rec (d+2)) (lst (s::l)).1).map fun k=>.mk 6 0 [] [] [] k:=by
 unfold valB;rw[if_neg (by rw[hk];decide),if_neg (by rw[hk];decide),if_neg (by rw[hk];decide),if_neg (by rw[hk];decide),if_pos hk];rfl
theorem val7 {rec:Nat→List Tx→Option (List Bk)} {d:Nat} {s:Tx} {l:List Tx} (hk:kindOf E0 s=7):valB rec d s l=(define E0 s).map fun p=>.mk 8 0 p.1 [p.2] [] []:=by
 unfold valB;rw[if_neg (by rw[hk];decide),if_neg (by rw[hk];decide),if_neg (by rw[hk];decide),if_neg (by rw[hk];decide),if_neg (by rw[hk];decide),if_pos hk]
theorem val8 {rec:Nat→List Tx→Option (List Bk)} {d:Nat} {s:Tx} {l:List Tx} (hk:kindOf E0 s=8):valB rec d s l=some (.mk 1 0 [] [] (parse (joinLF (paraL s l))) []):=by
 unfold valB;rw[if_neg (by rw[hk];decide),if_neg (by rw[hk];decide),if_neg (by rw[hk];decide),if_neg (by rw[hk];decide),if_neg (by rw[hk];decide),if_neg (by rw[hk];decide)];rfl
theorem rest1 {s:Tx} {l:List Tx} (hk:kindOf E0 s=2∨kindOf E0 s=3∨kindOf E0 s=7):restB s l=l:=by
 unfold restB;rw[if_neg (by omega),if_neg (by omega),if_neg (by omega),if_neg (by omega)]
theorem rest4 {s:Tx} {l:List Tx} (hk:kindOf E0 s=4):restB s l=(fenceL (run 96 s) l).2:=by unfold restB;rw[if_pos hk]
theorem rest5 {s:Tx} {l:List Tx} (hk:kindOf E0 s=5):restB s l=(spanK E0 5 (s::l)).2:=by unfold restB;rw[if_neg (by omega),if_pos hk]
theorem rest6 {s:Tx} {l:List Tx} (hk:kindOf E0 s=6):restB s l=(lst (s::l)).2:=by unfold restB;rw[if_neg (by omega),if_neg (by omega),if_pos hk];rfl
theorem rest8 {s:Tx} {l:List Tx} (hk:kindOf E0 s=8):restB s l=(spanK E0 8 (s::l)).2:=by unfold restB;rw[if_neg (by omega),if_neg (by omega),if_neg (by omega),if_pos hk]
theorem kind_cases (s:Tx) (h:kindOf E0 s≠1):kindOf E0 s=2∨kindOf E0 s=3∨kindOf E0 s=4∨kindOf E0 s=5∨kindOf E0 s=6∨kindOf E0 s=7∨kindOf E0 s=8:=by
 have:=kind_le E0 s;omega
end Pa
namespace Pa
open Bk (Tx itemL dropBlank kindOf unitem)
open Kd (E0)
theorem lst_cases (s:Tx) (l:List Tx):(lst (s::l)=([unitem s::(itemL E0 l).1],(itemL E0 l).2)∧(dropBlank E0 (itemL E0 l).2=[]∨∃t r,dropBlank E0 (itemL E0 l).2=t::r∧kindOf E0 t≠6))∨
  ∃t r,dropBlank E0 (itemL E0 l).2=t::r∧kindOf E0 t=6∧lst (s::l)=((unitem s::(itemL E0 l).1)::(lst (t::r)).1,(lst (t::r)).2):=by
 cases h:dropBlank E0 (itemL E0 l).2 with
 |nil=>exact Or.inl ⟨lst_one (Or.inl h),Or.inl rfl⟩
 |cons t r=>
  by_cases hk:kindOf E0 t=6
  ·exact Or.inr ⟨t,r,rfl,hk,lst_more h hk⟩
  ·exact Or.inl ⟨lst_one (Or.inr ⟨t,r,h,hk⟩),Or.inr ⟨t,r,rfl,hk⟩⟩
end Pa
namespace Bt
open Bk (Bk)
mutual
theorem dpOne_ge (n:Int):∀x:Bk,n≤dpOne n x
 |.mk k lv i ls ss l=>by
  rw[dpOne];split<;>omega
theorem dpAll_ge (n:Int):∀l:List Bk,n≤dpAll n l
 |[]=>by rw[dpAll];omega
 |x::r=>by
  rw[dpAll];have h1:=dpOne_ge n x;have h2:=dpAll_ge (dpOne n x) r;omega
end
theorem dp_ge (l:List Bk):0≤dp l:=dpAll_ge 0 l
theorem rg_parts {l:List Bk} (h:rgB l=true):allB false 0 l=true∧dp l≤16:=by
 unfold rgB at h;rw[Bool.and_eq_true,decide_eq_true_iff]at h;exact h
theorem ttAll_app:∀a b:List Bk,ttAll (a++b)=ttAll a+ttAll b
 |[],b=>by rw[List.nil_append,ttAll];omega
 |x::a,b=>by rw[List.cons_append,ttAll_cons,ttAll_cons,ttAll_app a b];omega
mutual
theorem sz1_tt:∀x:Bk,szOne x≤ttOne x
 |.mk k lv i ls ss l=>by
  have:=sz_tt l;rw[szOne,ttOne];omega
theorem sz_tt:∀l:List Bk,szAll l≤ttAll l
 |[]=>by rw[szAll];omega
 |x::r=>by
  have h1:=sz1_tt x;have h2:=sz_tt r;rw[szAll,ttAll];omega
end
theorem dpAll_app:∀(a b:List Bk) (n:Int),dpAll n (a++b)=dpAll (dpAll n a) b
 |[],b,n=>by rw[List.nil_append,dpAll.eq_1]
 |x::a,b,n=>by rw[List.cons_append,dpAll_cons,dpAll_cons,dpAll_app a b]
theorem dpAll_max:∀(l:List Bk) (n m:Int),dpAll (max n m) l=max n (dpAll m l)
 |[],n,m=>by rw[dpAll,dpAll]
 |x::r,n,m=>by
  rw[dpAll_cons,dpAll_cons];split
  ·rw[show max (max n m) (IntKind.i64.wrap (1+dp x.kids))=max n (max m (IntKind.i64.wrap (1+dp x.kids)))by omega,dpAll_max r]
  ·rw[show max (max n m) (dp x.kids)=max n (max m (dp x.kids))by omega,dpAll_max r]
theorem dp_app (a b:List Bk):dp (a++b)=max (dp a) (dp b):=by
 have h0:=dp_ge a;unfold dp;rw[dpAll_app];have:=dpAll_max b (dpAll 0 a) 0;rw[show max (dpAll 0 a) 0=dpAll 0 a by have:0≤dpAll 0 a:=h0;omega]at this;exact this
end Bt
namespace Pa
open Sp (Wt txB)
open Bk (Tx kindOf)
open Ln (gapB)
open Kd (E0)
def Lt (s:Tx):Prop:=Wt s∧(10:UInt8)∉s
theorem kd6 {s:Tx} (h:kindOf E0 s=6):s=[45]∨∃t,s=45::32::t:=by
 unfold kindOf at h
 repeat' split at h
 all_goals first |omega |skip
 rename_i h1;rcases h1 with h1 |h1
 ·exact Or.inl h1
 ·cases s with
  |nil=>simp at h1
  |cons c t=>
   cases t with
   |nil=>simp at h1
   |cons d t=>
    simp at h1;exact Or.inr ⟨t,by rw[h1.1,h1.2]⟩
structure Tr1 (s:Tx):Prop where
 lt:Lt s
 ne:s≠[]
 hd:∀b,s.head? = some b→gapB b=false
 la:∀b,s.getLast? = some b→gapB b=false
structure Jn (z:Tx):Prop where
 wt:Wt z
 tx:txB z=true
 ne:z≠[]
 hd:∀b,z.head? = some b→gapB b=false∧b≠10
 la:∀b,z.getLast? = some b→gapB b=false∧b≠10
end Pa
namespace Pa
end Pa
namespace Pa
open Sp (V V_cut)
open Bk (Tx)
theorem strip_lt {cur:Tx} (hv:V cur) (h0:(0:UInt8)∉cur) (h10:(10:UInt8)∉cur) (h13:(13:UInt8)∉cur∨∃c,cur=c++[13]∧(13:UInt8)∉c):Lt (Ln.strip cur):=by
 rcases h13 with h |⟨c,rfl,h⟩
 ·rw[Ln.strip_id cur h]
  exact⟨⟨hv,h0,h⟩,h10⟩
 ·rw[Ln.strip_snoc]
  exact⟨⟨(V_cut (c:=13) (by decide) c.length c [] (Nat.le_refl _) hv).1,fun hm=>h0 (List.mem_append_left _ hm),h⟩,fun hm=>h10 (List.mem_append_left _ hm)⟩
theorem ls_lt:∀(r cur:Tx),V (cur++r)→(0:UInt8)∉cur++r→(10:UInt8)∉cur→((13:UInt8)∉cur∨∃c,cur=c++[13]∧(13:UInt8)∉c∧r.head? = some 10)→∀x∈(Ln.ls cur r).1,Lt x
 |[],cur,hv,h0,h10,h13,x,hx=>by
  have h:(13:UInt8)∉cur:=by
   rcases h13 with h |⟨c,_,_,h⟩
   ·exact h
   ·cases h
  rw[List.append_nil]at hv h0;unfold Ln.ls at hx;split at hx
  ·cases hx
  ·rw[List.mem_singleton]at hx
   subst hx;exact⟨⟨hv,h0,h⟩,h10⟩
 |b::r,cur,hv,h0,h10,h13,x,hx=>by
  by_cases hb:b=10
  ·subst hb
   obtain⟨v1,v2⟩:=V_cut (c:=10) (by decide) cur.length cur r (Nat.le_refl _) hv;rw[Ln.ls_lf]at hx;rcases List.mem_cons.1 hx with rfl |hx
   ·exact strip_lt v1 (fun hm=>h0 (List.mem_append_left _ hm)) h10 (h13.imp id (fun⟨c,e,h,_⟩=>⟨c,e,h⟩))
   ·exact ls_lt r [] (by simpa using v2) (fun hm=>h0 (List.mem_append_right _ (List.mem_cons_of_mem _ (by simpa using hm)))) (by simp) (Or.inl (by simp)) x hx
  ·have h13':(13:UInt8)∉cur:=by
    rcases h13 with h |⟨c,_,_,h⟩
    ·exact h
    ·exact absurd (by simpa using h) hb
   by_cases hc:b=13∧r.head?≠some 10
   ·obtain⟨rfl,hc⟩:=hc
    obtain⟨v1,v2⟩:=V_cut (c:=13) (by decide) cur.length cur r (Nat.le_refl _) hv;rw[Ln.ls_cr _ _ hc]at hx;rcases List.mem_cons.1 hx with rfl |hx
    ·exact⟨⟨v1,fun hm=>h0 (List.mem_append_left _ hm),h13'⟩,h10⟩
    ·exact ls_lt r [] (by simpa using v2) (fun hm=>h0 (List.mem_append_right _ (List.mem_cons_of_mem _ (by simpa using hm)))) (by simp) (Or.inl (by simp)) x hx
   ·have he:Ln.ls cur (b::r)=Ln.ls (cur++[b]) r:=by rw[Ln.ls,if_neg hb,if_neg hc]
    rw[he]at hx;have happ:cur++[b]++r=cur++b::r:=by rw[List.append_assoc];rfl
    refine ls_lt r (cur++[b]) (by rw[happ];exact hv) (by rw[happ];exact h0) (fun hm=>?_) ?_ x hx
    ·rcases List.mem_append.1 hm with hm |hm
     ·exact h10 hm
     ·rw[List.mem_singleton]at hm;exact hb hm.symm
    ·by_cases hb13:b=13
     ·subst hb13
      exact Or.inr ⟨cur,rfl,h13',by
       by_cases h:r.head? = some 10
       ·exact h
       ·exact absurd ⟨rfl,h⟩ hc⟩
     ·exact Or.inl (fun hm=>by
       rcases List.mem_append.1 hm with hm |hm
       ·exact h13' hm
       ·rw[List.mem_singleton]at hm;exact hb13 hm.symm)
end Pa
end Go.Proofs.YtpakjdgddomdjabGreatDoor
