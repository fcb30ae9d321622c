import Derived.Test.YthpnbialpkkpgaaGreatDoorProg
import Derived.Test.YthpnbialpkkpgaaGreatDoorPkA
import Derived.Lib.Strings
import Derived.Lib.Hide
import Derived.WalkKit
import Derived.Laws.IdiomStrings
import Derived.Deep.QuietTactic
import Derived.Lib.MinMax
import Derived.Sort.EncStr
import Derived.Sort.OwnSorted
import Derived.WalkMore
import Derived.BigQuiet
import Derived.WalkSmall
import Derived.Laws.AppendOwnNone
import Derived.Deep.RegionHeld3
import Derived.StillTailTactics
import Derived.Laws.OwnMore
import Derived.Lib.AppendZeros
import Derived.Deep.Cut
import Derived.Deep.CutRange
import Derived.Deep.CutBlock
import Derived.ProofKit
import Derived.OpenShut
import Derived.SizedLaws
import Derived.ChangeArms
import Derived.ChangeOld
import Derived.Deep.Slices
set_option linter.unusedVariables false
namespace Go.Proofs.YthpnbialpkkpgaaGreatDoor
namespace Tk
open Go.RowKit
def S (l:List UInt8):ByteArray:=⟨l.toArray⟩
theorem S_size (l:List UInt8):(S l).size=l.length:=by simp[S,ByteArray.size]
theorem S_app (l m:List UInt8):S l++S m=S (l++m):=by
 apply ByteArray.ext
 rw[ByteArray.data_append]
 simp[S]
theorem S_list (l:List UInt8):(S l).data.toList=l:=by simp[S]
theorem S_toList (l:List UInt8):(S l).toList=l:=by rw[Lib.toList_data,S_list]
theorem S_of (s:ByteArray):S s.data.toList=s:=by
 apply ByteArray.ext
 simp[S]
theorem drop_cons (l:List UInt8) (k:Nat) (h:k<l.length):l.drop k=l[k]::l.drop (k+1):=List.drop_eq_getElem_cons h
theorem ret_int {x y:Int} (h:x=y):Ending.returned (.int .i64 x)=Ending.returned (.int .i64 y):=by rw[h]
theorem eq8 {a b:UInt8} (h:a=b):((a.toNat:Int)==(b.toNat:Int))=true:=by simp[h]
theorem ne8 {a b:UInt8} (h:a≠b):((a.toNat:Int)==(b.toNat:Int))=false:=by
 rw[beq_eq_false_iff_ne]
 intro e
 exact h (UInt8.toNat_inj.1 (by omega))
theorem len_data (s:ByteArray):s.data.toList.length=s.size:=by simp
theorem at_data (s:ByteArray) (k:Nat) (h:k<s.size):s.data.toList.drop k=s[k]::s.data.toList.drop (k+1):=by
 rw[drop_cons _ k (by simpa using h)];rfl
def cur (s:ByteArray) (f k:Nat):List UInt8:=(s.extract f k).data.toList
def Rd (w:World) (v:Value) (xs:List (List UInt8)):Prop:=
 ∃ao cap,v=.slice ao xs.length cap∧xs.length≤cap∧(xs=[]∨∃b o,ao=some ⟨b,o,none⟩∧b<w.heap.size∧∀j x,xs[j]? = some x→w.cell? ⟨b,o+j,none⟩=some (.string (S x)))
theorem Rd.below {w w':World} {v:Value} {xs:List (List UInt8)} (h:Rd w v xs) (hb:Below w.heap.size w w'):Rd w' v xs:=by
 obtain⟨ao,cap,hv,hc,hx⟩:=h
 refine⟨ao,cap,hv,hc,?_⟩
 rcases hx with hx |⟨b,o,hao,hlt,hcell⟩
 ·exact Or.inl hx
 ·exact Or.inr ⟨b,o,hao,Nat.lt_of_lt_of_le hlt hb.size,fun j x hj=>(hb.cell (by exact hlt)).trans (hcell j x hj)⟩
theorem Rd.of_own {w:World} {B:Nat} {e:TypeId} {v:Value} {xs:List (List UInt8)} (h:w.ownsRow B e 1 v xs.length (xs.map encStr)):Rd w v xs:=by
 rcases h.2 with ⟨hv,hn⟩|⟨g,cap,cur,hv,hB,hg,hn,hm,hsz,ht⟩
 ·exact⟨none,0,by rw[hv,hn],by omega,Or.inl (List.eq_nil_of_length_eq_zero hn)⟩
 ·refine⟨_,cap,hv,hn,Or.inr ⟨g,0,rfl,(Array.getElem?_eq_some_iff.1 hg).1,fun j x hj=>?_⟩⟩
  have hjl:=(List.getElem?_eq_some_iff.1 hj).1
  subst hv
  rw[Nat.zero_add,h.cellAt j (by omega),List.getElem?_map,hj]
  rfl
theorem Rd.len {w:World} {v:Value} {xs:List (List UInt8)} (h:Rd w v xs):∃ao cap,v=.slice ao xs.length cap:=by
 obtain⟨ao,cap,hv,_⟩:=h;exact⟨ao,cap,hv⟩
theorem get_lt {xs:List (List UInt8)} {k:Nat} (h:k<xs.length):xs[k]? = some xs[k]:=List.getElem?_eq_getElem h
theorem take_next {xs ys:List (List UInt8)} {k:Nat} (h1:k<xs.length) (h2:k<ys.length) (h:xs.take k=ys.take k) (e:xs[k]=ys[k]):xs.take (k+1)=ys.take (k+1):=by
 rw[List.take_add_one,List.take_add_one,get_lt h1,get_lt h2,h,e]
theorem take_off {xs ys:List (List UInt8)} {k:Nat} (h1:k<xs.length) (h2:k<ys.length) (e:xs[k]≠ys[k]):xs≠ys:=by
 intro h;subst h;exact e rfl
end Tk
namespace Cm
open Go.RowKit
theorem calls_at {P:Program} {f:FuncId} {args args':Array Value} {w:World} {Q Q':Ending→World→Prop} (h:args'=args) (c:Calls P f args w Q) (k:∀e w',Q e w'→Q' e w'):Calls P f args' w Q':=by
 subst h;exact c.mono k
end Cm
namespace Cm
open Go.RowKit
variable {α:Type}
def Rk (k:Nat) (enc:α→List Value) (w:World) (v:Value) (xs:List α):Prop:=
 ∃ao cap,v=.slice ao xs.length cap∧xs.length≤cap∧(xs=[]∨∃b o,ao=some ⟨b,o,none⟩∧b<w.heap.size∧∀j x,xs[j]? = some x→∀q u,(enc x)[q]? = some u→w.cell? ⟨b,o+j*k+q,none⟩=some u)
theorem Rk.below {k:Nat} {enc:α→List Value} {w w':World} {v:Value} {xs:List α} (h:Rk k enc w v xs) (hb:Below w.heap.size w w'):Rk k enc w' v xs:=by
 obtain⟨ao,cap,hv,hc,hx⟩:=h
 refine⟨ao,cap,hv,hc,?_⟩
 rcases hx with hx |⟨b,o,hao,hlt,hcell⟩
 ·exact Or.inl hx
 ·exact Or.inr ⟨b,o,hao,Nat.lt_of_lt_of_le hlt hb.size,fun j x hj q u hq=>(hb.cell (by exact hlt)).trans (hcell j x hj q u hq)⟩
theorem Rk.len {k:Nat} {enc:α→List Value} {w:World} {v:Value} {xs:List α} (h:Rk k enc w v xs):∃ao cap,v=.slice ao xs.length cap:=by
 obtain⟨ao,cap,hv,_⟩:=h;exact⟨ao,cap,hv⟩
theorem Rk.at {k:Nat} {enc:α→List Value} {w:World} {ao:Option Addr} {n c:Nat} {xs:List α} (h:Rk k enc w (.slice ao n c) xs):∀i (hi:i<xs.length),∃b o,ao=some ⟨b,o,none⟩∧b<w.heap.size∧∀q u,(enc xs[i])[q]? = some u→w.cell? ⟨b,o+i*k+q,none⟩=some u:=by
 intro i hi
 obtain⟨ao',c',hv,_,hx⟩:=h
 simp only[Value.slice.injEq]at hv
 obtain⟨rfl,_,_⟩:=hv
 rcases hx with hx |⟨b,o,rfl,hlt,hcell⟩
 ·rw[hx]at hi;exact absurd hi (Nat.not_lt_zero _)
 ·exact⟨b,o,rfl,hlt,hcell i _ (List.getElem?_eq_getElem hi)⟩
theorem flat_get {k:Nat} {enc:α→List Value} (hk:∀x,(enc x).length=k):∀(xs:List α) (j:Nat) (x:α),xs[j]? = some x→∀q u,(enc x)[q]? = some u→(xs.flatMap enc)[j*k+q]? = some u
 |[],j,x,h,_,_,_=>by simp at h
 |y::ys,0,x,h,q,u,hq=>by
  simp at h
  subst h
  rw[List.flatMap_cons,Nat.zero_mul,Nat.zero_add,List.getElem?_append_left (List.getElem?_eq_some_iff.1 hq).1]
  exact hq
 |y::ys,j+1,x,h,q,u,hq=>by
  rw[List.flatMap_cons,List.getElem?_append_right (by rw[hk,Nat.succ_mul];omega),hk,show(j+1)*k+q-k=j*k+q by rw[Nat.succ_mul];omega]
  exact flat_get hk ys j x (by simpa using h) q u hq
theorem Rk.of_own {k:Nat} {enc:α→List Value} (hk:∀x,(enc x).length=k) {w:World} {B:Nat} {e:TypeId} {v:Value} {xs:List α} (h:w.ownsRow B e k v xs.length (xs.flatMap enc)):Rk k enc w v xs:=by
 rcases h.2 with ⟨hv,hn⟩|⟨g,cap,cur,hv,hB,hg,hn,hm,hsz,ht⟩
 ·exact⟨none,0,by rw[hv,hn],by omega,Or.inl (List.eq_nil_of_length_eq_zero hn)⟩
 ·refine⟨_,cap,hv,hn,Or.inr ⟨g,0,rfl,(Array.getElem?_eq_some_iff.1 hg).1,fun j x hj q u hq=>?_⟩⟩
  have hjl:=(List.getElem?_eq_some_iff.1 hj).1
  have hql:=(List.getElem?_eq_some_iff.1 hq).1
  rw[hk]at hql
  subst hv
  have hb:j*k+q<xs.length*k:=by
   have:(j+1)*k≤xs.length*k:=Nat.mul_le_mul_right _ hjl
   rw[Nat.succ_mul]at this
   omega
  rw[Nat.zero_add,h.cellAt _ hb]
  exact flat_get hk xs j x hj q u hq
theorem own_pushK {k:Nat} {enc:α→List Value} {B:Nat} {e:TypeId} {w wr w1:World} {v v':Value} {o:List α} {x:α} {ob:Obj} (hown:wr.ownsRow B e k v o.length (o.flatMap enc)) (hb:Below B w wr) (hB:B≤wr.heap.size)
  (hown':w1.ownsRow B e k v' (o.length+1) (o.flatMap enc++enc x)) (hgrow:(wr.alloc ob).grownBy w1 v.ownBlock):
  w1.ownsRow B e k v' (o++[x]).length ((o++[x]).flatMap enc)∧Below B w w1:=by
 refine⟨?_,(hb.alloc hB ob).grown hgrow (by simp;omega) (fun j hj=>(hown.lt j hj).1)⟩
 rw[List.length_append,List.flatMap_append]
 simpa using hown'
theorem newsK {wr:World} {us:List Value} {t:TypeId}:∀(j:Nat) (u:Value),us[j]? = some u→(wr.alloc (.cells us.toArray t)).cell? (Addr.add ⟨wr.heap.size,0,none⟩ j)=some u:=by
 intro j u hj
 have e:(Addr.add ⟨wr.heap.size,0,none⟩ j)=⟨wr.heap.size,j,none⟩:=by
  unfold Addr.add
  by_cases h:j=0
  ·subst h;rfl
  ·rw[if_neg h];simp
 rw[e,World.cell?_alloc_new]
 simpa using hj
end Cm
namespace Cm
open Go.RowKit
structure Keep (S:Nat→Prop) (w w':World):Prop where
 os:w'.os=w.os
 tape:w'.tape=w.tape
 output:w'.output=w.output
 size:w.heap.size≤w'.heap.size
 block:∀k,k<w.heap.size→¬S k→w'.heap[k]? = w.heap[k]?
theorem Keep.refl (S:Nat→Prop) (w:World):Keep S w w:=⟨rfl,rfl,rfl,Nat.le_refl _,fun _ _ _=>rfl⟩
theorem Keep.trans {S:Nat→Prop} {a b c:World} (h:Keep S a b) (k:Keep S b c):Keep S a c:=
 ⟨k.os.trans h.os,k.tape.trans h.tape,k.output.trans h.output,Nat.le_trans h.size k.size,fun i hi hs=>(k.block i (Nat.lt_of_lt_of_le hi h.size) hs).trans (h.block i hi hs)⟩
theorem Keep.mono {S T:Nat→Prop} {a b:World} (h:Keep S a b) (hST:∀k,k<a.heap.size→S k→T k):Keep T a b:=
 ⟨h.os,h.tape,h.output,h.size,fun i hi ht=>h.block i hi (fun hs=>ht (hST i hi hs))⟩
theorem Keep.below {S:Nat→Prop} {a b:World} {B:Nat} (h:Keep S a b) (hS:∀k,S k→B≤k) (hB:B≤a.heap.size):Below B a b:=
 ⟨h.os,h.tape,h.output,h.size,fun k hk=>h.block k (by omega) (fun hs=>by have:=hS k hs;omega)⟩
theorem Keep.of_below {S:Nat→Prop} {a b:World} (h:Below a.heap.size a b):Keep S a b:=
 ⟨h.os,h.tape,h.output,h.size,fun k hk _=>h.block k hk⟩
theorem Keep.alloc {S:Nat→Prop} {a w:World} (h:Keep S a w) (o:Obj):Keep S a (w.alloc o):=
 h.trans ⟨rfl,rfl,rfl,by simp,fun k hk _=>Below.heap_alloc _ _ _ hk⟩
theorem Keep.setCell {S:Nat→Prop} {a w:World} (h:Keep S a w) {p:Addr} (hp:S p.block∨a.heap.size≤p.block) (u:Value):Keep S a (w.setCell p u):=
 ⟨h.os,h.tape,h.output,by simpa [World.setCell]using h.size,fun k hk hs=>(Below.heap_setCell _ _ _ _ (fun e=>by
  subst e;rcases hp with hp |hp
  ·exact hs hp
  ·omega)).trans (h.block k hk hs)⟩
theorem Keep.drew {S:Nat→Prop} {a w:World} (h:Keep S a w):Keep S a w.drew:=⟨h.os,h.tape,h.output,h.size,h.block⟩
theorem Keep.grown {S:Nat→Prop} {a w w':World} {row:Option Nat} (h:Keep S a w) (hg:w.grownBy w' row) (hr:∀k,row=some k→S k∨a.heap.size≤k):Keep S a w':=
 ⟨hg.os.trans h.os,hg.tape.trans h.tape,hg.output.trans h.output,Nat.le_trans h.size hg.size,fun k hk hs=>(hg.block k (Nat.lt_of_lt_of_le hk h.size) (fun e=>by
  rcases hr k e.symm with h1 |h1
  ·exact hs h1
  ·omega)).trans (h.block k hk hs)⟩
theorem Keep.at {S:Nat→Prop} {a b:World} (h:Keep S a b) {k:Nat} {o:Obj} (hk:a.heap[k]? = some o) (hs:¬S k):b.heap[k]? = some o:=
 (h.block k (Array.getElem?_eq_some_iff.1 hk).1 hs).trans hk
theorem Keep.cell {S:Nat→Prop} {a b:World} (h:Keep S a b) {p:Addr} (hk:p.block<a.heap.size) (hs:¬S p.block):b.cell? p=a.cell? p:=
 World.cell?_of_block (w:=a) (h.block _ hk hs)
theorem lt_of_at {w:World} {k:Nat} {o:Obj} (hk:w.heap[k]? = some o):k<w.heap.size:=(Array.getElem?_eq_some_iff.1 hk).1
theorem cell_at {w:World} {b:Nat} {c:Array Value} {t:TypeId} {f:Nat × Nat} (h:w.heap[b]? = some (.cells c t f)) (i:Nat):w.cell? ⟨b,i,none⟩=c[i]?:=by simp[World.cell?,h]
theorem frozen_at {w:World} {b:Nat} {c:Array Value} {t:TypeId} (h:w.heap[b]? = some (.cells c t (0,0))) (i:Nat):w.frozen? ⟨b,i,none⟩=false:=by simp[World.frozen?,h]
theorem set_at {w:World} {b:Nat} {c:Array Value} {t:TypeId} {f:Nat × Nat} (h:w.heap[b]? = some (.cells c t f)) (i:Nat) (v:Value):(w.setCell ⟨b,i,none⟩ v).heap[b]? = some (.cells (c.setIfInBounds i v) t f):=by
 simp[World.setCell,Array.getElem?_modify,h]
theorem set_other {w:World} {b b':Nat} {o:Obj} (h:w.heap[b]? = some o) {i:Nat} {v:Value} (hne:b≠b'):(w.setCell ⟨b',i,none⟩ v).heap[b]? = some o:=
 (Below.heap_setCell _ _ _ _ hne).trans h
theorem alloc_at {w:World} {b:Nat} {o:Obj} (h:w.heap[b]? = some o) (o':Obj):(w.alloc o').heap[b]? = some o:=
 (Below.heap_alloc _ _ _ (lt_of_at h)).trans h
theorem alloc_new (w:World) (o:Obj):(w.alloc o).heap[w.heap.size]? = some o:=by
 show(w.heap.push o)[w.heap.size]? = _
 simp
theorem own_keep {S:Nat→Prop} {w w':World} {B e z n:Nat} {v:Value} {xs:List Value} (h:w.ownsRow B e z v n xs) (k:Keep S w w') (hS:∀g,v.ownBlock=some g→¬S g):w'.ownsRow B e z v n xs:=by
 refine⟨h.1,?_⟩
 rcases h.2 with hn |⟨g,cap,cur,hv,hB,hg,rest⟩
 ·exact .inl hn
 ·exact .inr ⟨g,cap,cur,hv,hB,k.at hg (hS g (by subst hv;rfl)),rest⟩
theorem own_obj {w:World} {B e z n g:Nat} {v:Value} {xs:List Value} (h:w.ownsRow B e z v n xs) (hg:v.ownBlock=some g):∃cur,w.heap[g]? = some (.cells cur e (0,0)):=by
 rcases h.2 with ⟨rfl,_⟩|⟨g',cap,cur,rfl,_,h3,_⟩
 ·simp[Value.ownBlock]at hg
 ·simp[Value.ownBlock]at hg;subst hg;exact⟨cur,h3⟩
end Cm
namespace Sp
open Go.RowKit Go.ChangeShapes Go.WideShapes Go.ChangeAt
open Tk (S S_of S_list S_size)
mutual
def trOne (w:World) (b o:Nat):Sp→Prop
 |.mk k s l=>w.cell? ⟨b,o,none⟩=some (.int .i64 k)∧w.cell? ⟨b,o+1,none⟩=some (.string (S s))∧
  ∃ao cap,w.cell? ⟨b,o+2,none⟩=some (.slice ao l.length cap)∧(l.length≤cap∧cap≤9223372036854775807)∧(l=[]∨∃b' o',ao=some ⟨b',o',none⟩∧b'<w.heap.size∧trAll w b' o' l)
def trAll (w:World) (b o:Nat):List Sp→Prop
 |[]=>True
 |x::r=>trOne w b o x∧trAll w b (o+3) r
end
def Tr (w:World) (v:Value) (l:List Sp):Prop:=
 ∃ao cap,v=.slice ao l.length cap∧(l.length≤cap∧cap≤9223372036854775807)∧(l=[]∨∃b o,ao=some ⟨b,o,none⟩∧b<w.heap.size∧trAll w b o l)
theorem Tr.len {w:World} {v:Value} {l:List Sp} (h:Tr w v l):∃ao cap,v=.slice ao l.length cap:=by
 obtain⟨ao,cap,hv,_⟩:=h;exact⟨ao,cap,hv⟩
theorem Tr.short {w:World} {v:Value} {l:List Sp} (h:Tr w v l):l.length≤9223372036854775807:=by
 obtain⟨_,_,_,hc,_⟩:=h;omega
mutual
theorem trOne_below {w w':World} (hb:Below w.heap.size w w'):∀(x:Sp) (b o:Nat),b<w.heap.size→trOne w b o x→trOne w' b o x
 |.mk k s l,b,o,hlt,h=>by
  unfold trOne at h ⊢
  obtain⟨h1,h2,ao,cap,h3,hc,h4⟩:=h
  refine⟨(hb.cell (by exact hlt)).trans h1,(hb.cell (by exact hlt)).trans h2,ao,cap,(hb.cell (by exact hlt)).trans h3,hc,?_⟩
  rcases h4 with h4 |⟨b',o',ha,hl,h4⟩
  ·exact Or.inl h4
  ·exact Or.inr ⟨b',o',ha,Nat.lt_of_lt_of_le hl hb.size,trAll_below hb l b' o' hl h4⟩
theorem trAll_below {w w':World} (hb:Below w.heap.size w w'):∀(l:List Sp) (b o:Nat),b<w.heap.size→trAll w b o l→trAll w' b o l
 |[],_,_,_,_=>by unfold trAll;trivial
 |x::r,b,o,hlt,h=>by
  unfold trAll at h ⊢
  exact⟨trOne_below hb x b o hlt h.1,trAll_below hb r b (o+3) hlt h.2⟩
end
theorem Tr.below {w w':World} {v:Value} {l:List Sp} (h:Tr w v l) (hb:Below w.heap.size w w'):Tr w' v l:=by
 obtain⟨ao,cap,hv,hc,h⟩:=h
 refine⟨ao,cap,hv,hc,?_⟩
 rcases h with h |⟨b,o,ha,hl,h⟩
 ·exact Or.inl h
 ·exact Or.inr ⟨b,o,ha,Nat.lt_of_lt_of_le hl hb.size,trAll_below hb l b o hl h⟩
theorem trAll_at {w:World} {b:Nat}:∀(l:List Sp) (o:Nat),trAll w b o l→∀i (hi:i<l.length),trOne w b (o+i*3) l[i]
 |[],_,_,i,hi=>absurd hi (Nat.not_lt_zero _)
 |x::r,o,h,0,_=>by unfold trAll at h;simpa using h.1
 |x::r,o,h,i+1,hi=>by
  unfold trAll at h
  have:=trAll_at r (o+3) h.2 i (by simpa using hi)
  rw[show o+(i+1)*3=o+3+i*3 by omega]
  simpa using this
theorem trAll_of {w:World} {b:Nat}:∀(l:List Sp) (o:Nat),(∀i (hi:i<l.length),trOne w b (o+i*3) l[i])→trAll w b o l
 |[],_,_=>by unfold trAll;trivial
 |x::r,o,h=>by
  unfold trAll
  refine⟨h 0 (by simp),trAll_of r (o+3) (fun i hi=>?_)⟩
  have:=h (i+1) (by simpa using hi)
  rw[show o+(i+1)*3=o+3+i*3 by omega]at this
  simpa using this
structure Cells (w:World) (b o:Nat) (x:Sp) (ao:Option Addr) (cap:Nat):Prop where
 kind:w.cell? ⟨b,o,none⟩=some (.int .i64 x.kind)
 s:w.cell? ⟨b,o+1,none⟩=some (.string (S x.s))
 kids:w.cell? ⟨b,o+2,none⟩=some (.slice ao x.kids.length cap)
 tr:Tr w (.slice ao x.kids.length cap) x.kids
theorem trOne_cells {w:World} {b o:Nat} {x:Sp} (h:trOne w b o x):∃ao cap,Cells w b o x ao cap:=by
 obtain⟨k,s,l⟩:=x
 unfold trOne at h
 obtain⟨h1,h2,ao,cap,h3,hc,h4⟩:=h
 exact⟨ao,cap,h1,h2,h3,⟨ao,cap,rfl,hc,h4⟩⟩
theorem trOne_of {w:World} {b o:Nat} {x:Sp} {ao:Option Addr} {cap:Nat} (h:Cells w b o x ao cap):trOne w b o x:=by
 obtain⟨k,s,l⟩:=x
 obtain⟨h1,h2,h3,ao',cap',hv,hc,h4⟩:=h
 simp only[Value.slice.injEq]at hv
 obtain⟨rfl,_,rfl⟩:=hv
 unfold trOne
 exact⟨h1,h2,ao,cap,h3,hc,h4⟩
theorem Tr.at {w:World} {ao:Option Addr} {n c:Nat} {l:List Sp} (h:Tr w (.slice ao n c) l):∀i (hi:i<l.length),∃b o ak ck,ao=some ⟨b,o,none⟩∧b<w.heap.size∧Cells w b (o+i*3) l[i] ak ck:=by
 intro i hi
 obtain⟨ao',cap',hv,_,hx⟩:=h
 simp only[Value.slice.injEq]at hv
 obtain⟨rfl,_,_⟩:=hv
 rcases hx with hx |⟨b,o,rfl,hb,hx⟩
 ·subst hx;exact absurd hi (Nat.not_lt_zero _)
 ·obtain⟨ak,ck,hc⟩:=trOne_cells (trAll_at l o hx i hi)
  exact⟨b,o,ak,ck,rfl,hb,hc⟩
mutual
def fitOne (R:Nat):Sp→Prop
 |.mk k s l=>(-9223372036854775808≤k∧k≤9223372036854775807)∧s.length≤R∧fitAll R l
def fitAll (R:Nat):List Sp→Prop
 |[]=>True
 |x::r=>fitOne R x∧fitAll R r
end
theorem fitAll_at {R:Nat}:∀{l:List Sp},fitAll R l→∀x∈l,fitOne R x
 |[],_,x,hx=>by cases hx
 |y::r,h,x,hx=>by
  unfold fitAll at h
  rcases List.mem_cons.1 hx with rfl |hx
  ·exact h.1
  ·exact fitAll_at h.2 x hx
theorem fitOne_s {R:Nat} {x:Sp} (h:fitOne R x):x.s.length≤R:=by obtain⟨k,s,l⟩:=x;unfold fitOne at h;exact h.2.1
theorem fitOne_kids {R:Nat} {x:Sp} (h:fitOne R x):fitAll R x.kids:=by obtain⟨k,s,l⟩:=x;unfold fitOne at h;exact h.2.2
end Sp
namespace Sp
open Go.RowKit
open Tk (S S_of S_list S_size ret_int)
open Cm (calls_at)
mutual
def totOne:Sp→Nat
 |.mk _ s l=>1+s.length+totAll l
def totAll:List Sp→Nat
 |[]=>0
 |x::r=>totOne x+totAll r
end
theorem totOne_eq (x:Sp):totOne x=1+x.s.length+totAll x.kids:=by obtain⟨k,s,l⟩:=x;unfold totOne;rfl
theorem totAll_cons (x:Sp) (r:List Sp):totAll (x::r)=totOne x+totAll r:=by rw[totAll]
theorem totAll_mem:∀{l:List Sp} {x:Sp},x∈l→totOne x≤totAll l
 |[],x,h=>by cases h
 |y::r,x,h=>by
  rw[totAll_cons]
  rcases List.mem_cons.1 h with rfl |h
  ·omega
  ·have:=totAll_mem h;omega
theorem totAll_kids {l:List Sp} {x:Sp} (h:x∈l):totAll x.kids<totAll l:=by
 have h1:=totAll_mem h
 rw[totOne_eq]at h1
 omega
theorem drop_cons (l:List Sp) (k:Nat) (h:k<l.length):l.drop k=l[k]::l.drop (k+1):=List.drop_eq_getElem_cons h
end Sp
namespace Sp
open Go.RowKit
open Tk (S S_of S_list S_size S_toList S_app ret_int)
open Cm (calls_at)
theorem ret_bool {x y:Bool} (h:x=y):Ending.returned (.bool x)=Ending.returned (.bool y):=by rw[h]
mutual
def plOne:Sp→List UInt8
 |.mk q s l=>(if q=1∨q=2 then s else [])++plAll l
def plAll:List Sp→List UInt8
 |[]=>[]
 |x::r=>plOne x++plAll r
end
theorem plOne_eq (x:Sp):plOne x=(if x.kind=1∨x.kind=2 then x.s else [])++plAll x.kids:=by obtain⟨q,s,l⟩:=x;unfold plOne;rfl
theorem plAll_cons (x:Sp) (r:List Sp):plAll (x::r)=plOne x++plAll r:=by rw[plAll]
mutual
theorem plOne_len:∀x:Sp,(plOne x).length≤totOne x
 |.mk q s l=>by
  have:=plAll_len l
  unfold plOne totOne
  rw[List.length_append]
  split<;>simp<;>omega
theorem plAll_len:∀l:List Sp,(plAll l).length≤totAll l
 |[]=>by unfold plAll totAll;simp
 |x::r=>by
  have h1:=plOne_len x
  have h2:=plAll_len r
  rw[plAll_cons,totAll_cons,List.length_append]
  omega
end
theorem ret_str {x y:ByteArray} (h:x=y):Ending.returned (.string x)=Ending.returned (.string y):=by rw[h]
end Sp
namespace Sp
open Go.RowKit
open Tk (S S_of S_list S_size S_toList S_app ret_int eq8 ne8 at_data len_data)
open Cm (calls_at)
def spB (c:UInt8):Bool:=decide (c=32)||decide (c=9)
def edB (c:UInt8):Bool:=spB c||decide (c=10)
theorem drop_all (s:ByteArray) (k:Nat) (h:¬k<s.size):s.data.toList.drop k=[]:=List.drop_eq_nil_of_le (by simp;omega)
def hsB (c:UInt8) (s:List UInt8):Bool:=s.any (fun b=>decide (b=c))
def marksL:List UInt8:=[46,47,95,45,35,63,38,58,37]
def alB (c:UInt8):Bool:=(decide (97≤(c.toNat:Int))&&decide ((c.toNat:Int)≤122))||(decide (65≤(c.toNat:Int))&&decide ((c.toNat:Int)≤90))||(decide (48≤(c.toNat:Int))&&decide ((c.toNat:Int)≤57))
def dcB (c:UInt8):Bool:=alB c||marksL.any (fun b=>decide (c=b))
def dsB (s:List UInt8):Bool:=s.all dcB&&!s.isEmpty
end Sp
end Go.Proofs.YthpnbialpkkpgaaGreatDoor
