import Derived.Test.YtpakjdgddomdjabGreatDoorProg
import Derived.Test.YtpakjdgddomdjabGreatDoorPkA
import Derived.Lib.Strings
import Derived.Lib.Hide
import Derived.WalkKit
import Derived.Laws.IdiomStrings
import Derived.Deep.QuietTactic
import Derived.Lib.MinMax
import Derived.Sort.EncStr
import Derived.Sort.OwnSorted
import Derived.WalkMore
import Derived.BigQuiet
import Derived.WalkSmall
import Derived.Laws.AppendOwnNone
import Derived.Deep.RegionHeld3
import Derived.StillTailTactics
import Derived.Laws.OwnMore
import Derived.Lib.AppendZeros
import Derived.Deep.Cut
import Derived.Deep.CutRange
import Derived.Deep.CutBlock
import Derived.ProofKit
import Derived.OpenShut
import Derived.SizedLaws
import Derived.ChangeArms
import Derived.ChangeOld
import Derived.Deep.Slices
set_option linter.unusedVariables false
namespace Go.Proofs.YtpakjdgddomdjabGreatDoor
namespace Tk
open Go.RowKit
def S (l:List UInt8):ByteArray:=⟨l.toArray⟩
theorem S_size (l:List UInt8):(S l).size=l.length:=by simp[S,ByteArray.size]
theorem S_app (l m:List UInt8):S l++S m=S (l++m):=by
 apply ByteArray.ext;rw[ByteArray.data_append];simp[S]
theorem S_list (l:List UInt8):(S l).data.toList=l:=by simp[S]
theorem S_toList (l:List UInt8):(S l).toList=l:=by rw[Lib.toList_data,S_list]
theorem S_of (s:ByteArray):S s.data.toList=s:=by
 apply ByteArray.ext;simp[S]
theorem drop_cons (l:List UInt8) (k:Nat) (h:k<l.length):l.drop k=l[k]::l.drop (k+1):=List.drop_eq_getElem_cons h
theorem ret_int {x y:Int} (h:x=y):Ending.returned (.int .i64 x)=Ending.returned (.int .i64 y):=by rw[h]
theorem eq8 {a b:UInt8} (h:a=b):((a.toNat:Int)==(b.toNat:Int))=true:=by simp[h]
theorem ne8 {a b:UInt8} (h:a≠b):((a.toNat:Int)==(b.toNat:Int))=false:=by
 rw[beq_eq_false_iff_ne];intro e;exact h (UInt8.toNat_inj.1 (by omega))
theorem len_data (s:ByteArray):s.data.toList.length=s.size:=by simp
theorem at_data (s:ByteArray) (k:Nat) (h:k<s.size):s.data.toList.drop k=s[k]::s.data.toList.drop (k+1):=by
 rw[drop_cons _ k (by simpa using h)];rfl
def cur (s:ByteArray) (f k:Nat):List UInt8:=(s.extract f k).data.toList
def Rd (w:World) (v:Value) (xs:List (List UInt8)):Prop:=
 ∃ao cap,v=.slice ao xs.length cap∧xs.length≤cap∧(xs=[]∨∃b o,ao=some ⟨b,o,none⟩∧b<w.heap.size∧∀j x,xs[j]? = some x→w.cell? ⟨b,o+j,none⟩=some (.string (S x)))
theorem Rd.below {w w':World} {v:Value} {xs:List (List UInt8)} (h:Rd w v xs) (hb:Below w.heap.size w w'):Rd w' v xs:=by
 obtain⟨ao,cap,hv,hc,hx⟩:=h;refine⟨ao,cap,hv,hc,?_⟩;rcases hx with hx |⟨b,o,hao,hlt,hcell⟩
 ·exact Or.inl hx
 ·exact Or.inr ⟨b,o,hao,Nat.lt_of_lt_of_le hlt hb.size,fun j x hj=>(hb.cell (by exact hlt)).trans (hcell j x hj)⟩
theorem Rd.of_own {w:World} {B:Nat} {e:TypeId} {v:Value} {xs:List (List UInt8)} (h:w.ownsRow B e 1 v xs.length (xs.map encStr)):Rd w v xs:=by
 rcases h.2 with ⟨hv,hn⟩|⟨g,cap,cur,hv,hB,hg,hn,hm,hsz,ht⟩
 ·exact⟨none,0,by rw[hv,hn],by omega,Or.inl (List.eq_nil_of_length_eq_zero hn)⟩
 ·refine⟨_,cap,hv,hn,Or.inr ⟨g,0,rfl,(Array.getElem?_eq_some_iff.1 hg).1,fun j x hj=>?_⟩⟩
  have hjl:=(List.getElem?_eq_some_iff.1 hj).1;subst hv;rw[Nat.zero_add,h.cellAt j (by omega),List.getElem?_map,hj];rfl
theorem Rd.len {w:World} {v:Value} {xs:List (List UInt8)} (h:Rd w v xs):∃ao cap,v=.slice ao xs.length cap:=by
 obtain⟨ao,cap,hv,_⟩:=h;exact⟨ao,cap,hv⟩
theorem get_lt {xs:List (List UInt8)} {k:Nat} (h:k<xs.length):xs[k]? = some xs[k]:=List.getElem?_eq_getElem h
theorem take_next {xs ys:List (List UInt8)} {k:Nat} (h1:k<xs.length) (h2:k<ys.length) (h:xs.take k=ys.take k) (e:xs[k]=ys[k]):xs.take (k+1)=ys.take (k+1):=by
 rw[List.take_add_one,List.take_add_one,get_lt h1,get_lt h2,h,e]
theorem take_off {xs ys:List (List UInt8)} {k:Nat} (h1:k<xs.length) (h2:k<ys.length) (e:xs[k]≠ys[k]):xs≠ys:=by
 intro h;subst h;exact e rfl
set_option maxHeartbeats 800000 in
theorem same_any (a b:Value) (xs ys:List (List UInt8)) (w:World) (ha:Rd w a xs) (hb:Rd w b ys) (hx:xs.length≤1000000) (hy:ys.length≤1000000):
  Calls Tryz.prog 14 #[a,b] w fun e w'=>e=.returned (.bool (decide (xs=ys)))∧Below w.heap.size w w':=by
 obtain⟨ao,ca,rfl,hca,hax⟩:=ha;obtain⟨bo,cb,rfl,hcb,hbx⟩:=hb;by_cases hl:xs.length=ys.length
 ·have e0:((xs.length:Int)==(ys.length:Int))=true:=by simp[hl]
  by_cases h0:xs=[]
  ·have Hf:Hid (decide (xs=ys)=true):=Lib.hid (by subst h0;simpa using (List.eq_nil_of_length_eq_zero hl.symm))
   have hz:xs.length=0:=by rw[h0];rfl
   have hz2:ys.length=0:=by omega
   rw[hz,hz2];clear hax hbx h0 e0 hl;go_enter Tryz.func14,Tryz.ntmps14;go_wp2_with fail;go_loop [13] (fun i=>i=.int .i64 0) (fun i=>0)
   case atStart=>rfl
   case round=>
    subst hrel;go_wp2_with fail;go_ret;exact⟨by rw[Hf.out];rfl,Below.refl _ _⟩
  ·rcases hax with hax |⟨b1,o1,rfl,hb1,hc1⟩
   ·exact absurd hax h0
   rcases hbx with hbx |⟨b2,o2,rfl,hb2,hc2⟩
   ·exact absurd (List.eq_nil_of_length_eq_zero (by rw[hl,hbx];rfl)) h0
   have H1:=Lib.hid hc1;have H2:=Lib.hid hc2;clear hc1 hc2 h0;go_enter Tryz.func14,Tryz.ntmps14;go_wp2_with fail;go_loopw [13] (fun i wr=>∃k:Nat,k≤xs.length∧i=.int .i64 k∧Below w.heap.size w wr∧Hid (xs.take k=ys.take k)) (fun i _=>xs.length-(intOf i).toNat)
   case atStart=>exact⟨0,Nat.zero_le _,rfl,Below.refl _ _,Lib.hid rfl⟩
   case round=>
    obtain⟨k,hk,rfl,hbel,HT⟩:=hrel;by_cases hlt:k<xs.length
    ·have hlt2:k<ys.length:=by omega
     have k1:wr.cell? ⟨b1,o1+k,none⟩=some (.string (S xs[k])):=(hbel.cell (by exact hb1)).trans (H1.out k _ (get_lt hlt));have k2:wr.cell? ⟨b2,o2+k,none⟩=some (.string (S ys[k])):=(hbel.cell (by exact hb2)).trans (H2.out k _ (get_lt hlt2));by_cases he:xs[k]=ys[k]
     ·have HT2:=Lib.hid (take_next hlt hlt2 HT.out he)
      have e1:((S xs[k]).toList==(S ys[k]).toList)=true:=by rw[he];simp
      have Hb:=Lib.hid hbel;clear hbel HT he;generalize xs[k]=x at *;generalize ys[k]=y at *;go_wp2_with fail;go_quiet (fail);go_wp2_with fail;go_roundw
      case rel=>exact⟨k+1,by omega,by go_num,below_drewN Hb.out _,HT2⟩
      case measure=>simp[intOf];omega
     ·have Hf:Hid (decide (xs=ys)=false):=Lib.hid (decide_eq_false (take_off hlt hlt2 he))
      have e1:((S xs[k]).toList==(S ys[k]).toList)=false:=by rw[S_toList,S_toList];simpa using he
      have Hb:=Lib.hid hbel;clear hbel HT he;generalize xs[k]=x at *;generalize ys[k]=y at *;go_wp2_with fail;go_quiet (fail);go_wp2_with fail;go_ret;exact⟨by rw[Hf.out];rfl,below_drewN Hb.out _⟩
    ·have Hf:Hid (decide (xs=ys)=true):=Lib.hid (decide_eq_true (by have:=HT.out;rwa[List.take_of_length_le (by omega),List.take_of_length_le (by omega)]at this))
     clear HT;go_wp2_with fail;go_ret;exact⟨by rw[Hf.out];rfl,hbel⟩
 ·have e0:((xs.length:Int)==(ys.length:Int))=false:=by simp;omega
  have Hf:Hid (decide (xs=ys)=false):=Lib.hid (decide_eq_false (fun h=>hl (by rw[h])));clear hax hbx hl;go_enter Tryz.func14,Tryz.ntmps14;go_wp2_with fail;go_ret;exact⟨by rw[Hf.out];rfl,Below.refl _ _⟩
end Tk
namespace Cm
open Go.RowKit
theorem calls_at {P:Program} {f:FuncId} {args args':Array Value} {w:World} {Q Q':Ending→World→Prop} (h:args'=args) (c:Calls P f args w Q) (k:∀e w',Q e w'→Q' e w'):Calls P f args' w Q':=by
 subst h;exact c.mono k
end Cm
namespace Cm
open Go.RowKit
variable {α:Type}
def Rk (k:Nat) (enc:α→List Value) (w:World) (v:Value) (xs:List α):Prop:=
 ∃ao cap,v=.slice ao xs.length cap∧xs.length≤cap∧(xs=[]∨∃b o,ao=some ⟨b,o,none⟩∧b<w.heap.size∧∀j x,xs[j]? = some x→∀q u,(enc x)[q]? = some u→w.cell? ⟨b,o+j*k+q,none⟩=some u)
theorem Rk.below {k:Nat} {enc:α→List Value} {w w':World} {v:Value} {xs:List α} (h:Rk k enc w v xs) (hb:Below w.heap.size w w'):Rk k enc w' v xs:=by
 obtain⟨ao,cap,hv,hc,hx⟩:=h;refine⟨ao,cap,hv,hc,?_⟩;rcases hx with hx |⟨b,o,hao,hlt,hcell⟩
 ·exact Or.inl hx
 ·exact Or.inr ⟨b,o,hao,Nat.lt_of_lt_of_le hlt hb.size,fun j x hj q u hq=>(hb.cell (by exact hlt)).trans (hcell j x hj q u hq)⟩
theorem Rk.len {k:Nat} {enc:α→List Value} {w:World} {v:Value} {xs:List α} (h:Rk k enc w v xs):∃ao cap,v=.slice ao xs.length cap:=by
 obtain⟨ao,cap,hv,_⟩:=h;exact⟨ao,cap,hv⟩
theorem Rk.at {k:Nat} {enc:α→List Value} {w:World} {ao:Option Addr} {n c:Nat} {xs:List α} (h:Rk k enc w (.slice ao n c) xs):∀i (hi:i<xs.length),∃b o,ao=some ⟨b,o,none⟩∧b<w.heap.size∧∀q u,(enc xs[i])[q]? = some u→w.cell? ⟨b,o+i*k+q,none⟩=some u:=by
 intro i hi;obtain⟨ao',c',hv,_,hx⟩:=h;simp only[Value.slice.injEq]at hv;obtain⟨rfl,_,_⟩:=hv;rcases hx with hx |⟨b,o,rfl,hlt,hcell⟩
 ·rw[hx]at hi;exact absurd hi (Nat.not_lt_zero _)
 ·exact⟨b,o,rfl,hlt,hcell i _ (List.getElem?_eq_getElem hi)⟩
theorem flat_get {k:Nat} {enc:α→List Value} (hk:∀x,(enc x).length=k):∀(xs:List α) (j:Nat) (x:α),xs[j]? = some x→∀q u,(enc x)[q]? = some u→(xs.flatMap enc)[j*k+q]? = some u
 |[],j,x,h,_,_,_=>by simp at h
 |y::ys,0,x,h,q,u,hq=>by
  simp at h;subst h;rw[List.flatMap_cons,Nat.zero_mul,Nat.zero_add,List.getElem?_append_left (List.getElem?_eq_some_iff.1 hq).1];exact hq
 |y::ys,j+1,x,h,q,u,hq=>by
  rw[List.flatMap_cons,List.getElem?_append_right (by rw[hk,Nat.succ_mul];omega),hk,show(j+1)*k+q-k=j*k+q by rw[Nat.succ_mul];omega];exact flat_get hk ys j x (by simpa using h) q u hq
theorem Rk.of_own {k:Nat} {enc:α→List Value} (hk:∀x,(enc x).length=k) {w:World} {B:Nat} {e:TypeId} {v:Value} {xs:List α} (h:w.ownsRow B e k v xs.length (xs.flatMap enc)):Rk k enc w v xs:=by
 rcases h.2 with ⟨hv,hn⟩|⟨g,cap,cur,hv,hB,hg,hn,hm,hsz,ht⟩
 ·exact⟨none,0,by rw[hv,hn],by omega,Or.inl (List.eq_nil_of_length_eq_zero hn)⟩
 ·refine⟨_,cap,hv,hn,Or.inr ⟨g,0,rfl,(Array.getElem?_eq_some_iff.1 hg).1,fun j x hj q u hq=>?_⟩⟩
  have hjl:=(List.getElem?_eq_some_iff.1 hj).1;have hql:=(List.getElem?_eq_some_iff.1 hq).1;rw[hk]at hql;subst hv
  have hb:j*k+q<xs.length*k:=by
   have:(j+1)*k≤xs.length*k:=Nat.mul_le_mul_right _ hjl;rw[Nat.succ_mul]at this;omega
  rw[Nat.zero_add,h.cellAt _ hb];exact flat_get hk xs j x hj q u hq
theorem own_pushK {k:Nat} {enc:α→List Value} {B:Nat} {e:TypeId} {w wr w1:World} {v v':Value} {o:List α} {x:α} {ob:Obj} (hown:wr.ownsRow B e k v o.length (o.flatMap enc)) (hb:Below B w wr) (hB:B≤wr.heap.size)
  (hown':w1.ownsRow B e k v' (o.length+1) (o.flatMap enc++enc x)) (hgrow:(wr.alloc ob).grownBy w1 v.ownBlock):
  w1.ownsRow B e k v' (o++[x]).length ((o++[x]).flatMap enc)∧Below B w w1:=by
 refine⟨?_,(hb.alloc hB ob).grown hgrow (by simp;omega) (fun j hj=>(hown.lt j hj).1)⟩;rw[List.length_append,List.flatMap_append]
 simpa using hown'
theorem newsK {wr:World} {us:List Value} {t:TypeId}:∀(j:Nat) (u:Value),us[j]? = some u→(wr.alloc (.cells us.toArray t)).cell? (Addr.add ⟨wr.heap.size,0,none⟩ j)=some u:=by
 intro j u hj
 have e:(Addr.add ⟨wr.heap.size,0,none⟩ j)=⟨wr.heap.size,j,none⟩:=by
  unfold Addr.add;by_cases h:j=0
  ·subst h;rfl
  ·rw[if_neg h];simp
 rw[e,World.cell?_alloc_new]
 simpa using hj
end Cm
namespace Cm
open Go.RowKit
structure Keep (S:Nat→Prop) (w w':World):Prop where
 os:w'.os=w.os
 tape:w'.tape=w.tape
 output:w'.output=w.output
 size:w.heap.size≤w'.heap.size
 block:∀k,k<w.heap.size→¬S k→w'.heap[k]? = w.heap[k]?
theorem Keep.refl (S:Nat→Prop) (w:World):Keep S w w:=⟨rfl,rfl,rfl,Nat.le_refl _,fun _ _ _=>rfl⟩
theorem Keep.trans {S:Nat→Prop} {a b c:World} (h:Keep S a b) (k:Keep S b c):Keep S a c:=
 ⟨k.os.trans h.os,k.tape.trans h.tape,k.output.trans h.output,Nat.le_trans h.size k.size,fun i hi hs=>(k.block i (Nat.lt_of_lt_of_le hi h.size) hs).trans (h.block i hi hs)⟩
theorem Keep.mono {S T:Nat→Prop} {a b:World} (h:Keep S a b) (hST:∀k,k<a.heap.size→S k→T k):Keep T a b:=
 ⟨h.os,h.tape,h.output,h.size,fun i hi ht=>h.block i hi (fun hs=>ht (hST i hi hs))⟩
theorem Keep.below {S:Nat→Prop} {a b:World} {B:Nat} (h:Keep S a b) (hS:∀k,S k→B≤k) (hB:B≤a.heap.size):Below B a b:=
 ⟨h.os,h.tape,h.output,h.size,fun k hk=>h.block k (by omega) (fun hs=>by have:=hS k hs;omega)⟩
theorem Keep.of_below {S:Nat→Prop} {a b:World} (h:Below a.heap.size a b):Keep S a b:=
 ⟨h.os,h.tape,h.output,h.size,fun k hk _=>h.block k hk⟩
theorem Keep.alloc {S:Nat→Prop} {a w:World} (h:Keep S a w) (o:Obj):Keep S a (w.alloc o):=
 h.trans ⟨rfl,rfl,rfl,by simp,fun k hk _=>Below.heap_alloc _ _ _ hk⟩
theorem Keep.setCell {S:Nat→Prop} {a w:World} (h:Keep S a w) {p:Addr} (hp:S p.block∨a.heap.size≤p.block) (u:Value):Keep S a (w.setCell p u):=
 ⟨h.os,h.tape,h.output,by simpa [World.setCell]using h.size,fun k hk hs=>(Below.heap_setCell _ _ _ _ (fun e=>by
  subst e;rcases hp with hp |hp
  ·exact hs hp
  ·omega)).trans (h.block k hk hs)⟩
theorem Keep.drew {S:Nat→Prop} {a w:World} (h:Keep S a w):Keep S a w.drew:=⟨h.os,h.tape,h.output,h.size,h.block⟩
theorem Keep.grown {S:Nat→Prop} {a w w':World} {row:Option Nat} (h:Keep S a w) (hg:w.grownBy w' row) (hr:∀k,row=some k→S k∨a.heap.size≤k):Keep S a w':=
 ⟨hg.os.trans h.os,hg.tape.trans h.tape,hg.output.trans h.output,Nat.le_trans h.size hg.size,fun k hk hs=>(hg.block k (Nat.lt_of_lt_of_le hk h.size) (fun e=>by
  rcases hr k e.symm with h1 |h1
  ·exact hs h1
  ·omega)).trans (h.block k hk hs)⟩
theorem Keep.at {S:Nat→Prop} {a b:World} (h:Keep S a b) {k:Nat} {o:Obj} (hk:a.heap[k]? = some o) (hs:¬S k):b.heap[k]? = some o:=
 (h.block k (Array.getElem?_eq_some_iff.1 hk).1 hs).trans hk
theorem Keep.cell {S:Nat→Prop} {a b:World} (h:Keep S a b) {p:Addr} (hk:p.block<a.heap.size) (hs:¬S p.block):b.cell? p=a.cell? p:=
 World.cell?_of_block (w:=a) (h.block _ hk hs)
theorem lt_of_at {w:World} {k:Nat} {o:Obj} (hk:w.heap[k]? = some o):k<w.heap.size:=(Array.getElem?_eq_some_iff.1 hk).1
theorem cell_at {w:World} {b:Nat} {c:Array Value} {t:TypeId} {f:Nat × Nat} (h:w.heap[b]? = some (.cells c t f)) (i:Nat):w.cell? ⟨b,i,none⟩=c[i]?:=by simp[World.cell?,h]
theorem frozen_at {w:World} {b:Nat} {c:Array Value} {t:TypeId} (h:w.heap[b]? = some (.cells c t (0,0))) (i:Nat):w.frozen? ⟨b,i,none⟩=false:=by simp[World.frozen?,h]
theorem set_at {w:World} {b:Nat} {c:Array Value} {t:TypeId} {f:Nat × Nat} (h:w.heap[b]? = some (.cells c t f)) (i:Nat) (v:Value):(w.setCell ⟨b,i,none⟩ v).heap[b]? = some (.cells (c.setIfInBounds i v) t f):=by
 simp[World.setCell,Array.getElem?_modify,h]
theorem set_other {w:World} {b b':Nat} {o:Obj} (h:w.heap[b]? = some o) {i:Nat} {v:Value} (hne:b≠b'):(w.setCell ⟨b',i,none⟩ v).heap[b]? = some o:=
 (Below.heap_setCell _ _ _ _ hne).trans h
theorem alloc_at {w:World} {b:Nat} {o:Obj} (h:w.heap[b]? = some o) (o':Obj):(w.alloc o').heap[b]? = some o:=
 (Below.heap_alloc _ _ _ (lt_of_at h)).trans h
theorem alloc_new (w:World) (o:Obj):(w.alloc o).heap[w.heap.size]? = some o:=by
 show(w.heap.push o)[w.heap.size]? = _;simp
theorem own_keep {S:Nat→Prop} {w w':World} {B e z n:Nat} {v:Value} {xs:List Value} (h:w.ownsRow B e z v n xs) (k:Keep S w w') (hS:∀g,v.ownBlock=some g→¬S g):w'.ownsRow B e z v n xs:=by
 refine⟨h.1,?_⟩;rcases h.2 with hn |⟨g,cap,cur,hv,hB,hg,rest⟩
 ·exact .inl hn
 ·exact .inr ⟨g,cap,cur,hv,hB,k.at hg (hS g (by subst hv;rfl)),rest⟩
theorem own_obj {w:World} {B e z n g:Nat} {v:Value} {xs:List Value} (h:w.ownsRow B e z v n xs) (hg:v.ownBlock=some g):∃cur,w.heap[g]? = some (.cells cur e (0,0)):=by
 rcases h.2 with ⟨rfl,_⟩|⟨g',cap,cur,rfl,_,h3,_⟩
 ·simp[Value.ownBlock]at hg
 ·simp[Value.ownBlock]at hg;subst hg;exact⟨cur,h3⟩
end Cm
namespace Sp
open Go.RowKit Go.ChangeShapes Go.WideShapes Go.ChangeAt
open Tk (S)
mutual
def trOne (w:World) (b o:Nat):Sp→Prop
 |.mk k s l=>w.cell? ⟨b,o,none⟩=some (.int .i64 k)∧w.cell? ⟨b,o+1,none⟩=some (.string (S s))∧
  ∃ao cap,w.cell? ⟨b,o+2,none⟩=some (.slice ao l.length cap)∧(l.length≤cap∧cap≤9223372036854775807)∧(l=[]∨∃b' o',ao=some ⟨b',o',none⟩∧b'<w.heap.size∧trAll w b' o' l)
def trAll (w:World) (b o:Nat):List Sp→Prop
 |[]=>True
 |x::r=>trOne w b o x∧trAll w b (o+3) r
end
def Tr (w:World) (v:Value) (l:List Sp):Prop:=
 ∃ao cap,v=.slice ao l.length cap∧(l.length≤cap∧cap≤9223372036854775807)∧(l=[]∨∃b o,ao=some ⟨b,o,none⟩∧b<w.heap.size∧trAll w b o l)
theorem Tr.len {w:World} {v:Value} {l:List Sp} (h:Tr w v l):∃ao cap,v=.slice ao l.length cap:=by
 obtain⟨ao,cap,hv,_⟩:=h;exact⟨ao,cap,hv⟩
theorem Tr.short {w:World} {v:Value} {l:List Sp} (h:Tr w v l):l.length≤9223372036854775807:=by
 obtain⟨_,_,_,hc,_⟩:=h;omega
mutual
theorem trOne_below {w w':World} (hb:Below w.heap.size w w'):∀(x:Sp) (b o:Nat),b<w.heap.size→trOne w b o x→trOne w' b o x
 |.mk k s l,b,o,hlt,h=>by
  unfold trOne at h ⊢;obtain⟨h1,h2,ao,cap,h3,hc,h4⟩:=h;refine⟨(hb.cell (by exact hlt)).trans h1,(hb.cell (by exact hlt)).trans h2,ao,cap,(hb.cell (by exact hlt)).trans h3,hc,?_⟩;rcases h4 with h4 |⟨b',o',ha,hl,h4⟩
  ·exact Or.inl h4
  ·exact Or.inr ⟨b',o',ha,Nat.lt_of_lt_of_le hl hb.size,trAll_below hb l b' o' hl h4⟩
theorem trAll_below {w w':World} (hb:Below w.heap.size w w'):∀(l:List Sp) (b o:Nat),b<w.heap.size→trAll w b o l→trAll w' b o l
 |[],_,_,_,_=>by unfold trAll;trivial
 |x::r,b,o,hlt,h=>by
  unfold trAll at h ⊢;exact⟨trOne_below hb x b o hlt h.1,trAll_below hb r b (o+3) hlt h.2⟩
end
theorem Tr.below {w w':World} {v:Value} {l:List Sp} (h:Tr w v l) (hb:Below w.heap.size w w'):Tr w' v l:=by
 obtain⟨ao,cap,hv,hc,h⟩:=h;refine⟨ao,cap,hv,hc,?_⟩;rcases h with h |⟨b,o,ha,hl,h⟩
 ·exact Or.inl h
 ·exact Or.inr ⟨b,o,ha,Nat.lt_of_lt_of_le hl hb.size,trAll_below hb l b o hl h⟩
theorem trAll_at {w:World} {b:Nat}:∀(l:List Sp) (o:Nat),trAll w b o l→∀i (hi:i<l.length),trOne w b (o+i*3) l[i]
 |[],_,_,i,hi=>absurd hi (Nat.not_lt_zero _)
 |x::r,o,h,0,_=>by unfold trAll at h;simpa using h.1
 |x::r,o,h,i+1,hi=>by
  unfold trAll at h;have:=trAll_at r (o+3) h.2 i (by simpa using hi);rw[show o+(i+1)*3=o+3+i*3 by omega]
  simpa using this
theorem trAll_of {w:World} {b:Nat}:∀(l:List Sp) (o:Nat),(∀i (hi:i<l.length),trOne w b (o+i*3) l[i])→trAll w b o l
 |[],_,_=>by unfold trAll;trivial
 |x::r,o,h=>by
  unfold trAll;refine⟨h 0 (by simp),trAll_of r (o+3) (fun i hi=>?_)⟩;have:=h (i+1) (by simpa using hi);rw[show o+(i+1)*3=o+3+i*3 by omega]at this
  simpa using this
structure Cells (w:World) (b o:Nat) (x:Sp) (ao:Option Addr) (cap:Nat):Prop where
 kind:w.cell? ⟨b,o,none⟩=some (.int .i64 x.kind)
 s:w.cell? ⟨b,o+1,none⟩=some (.string (S x.s))
 kids:w.cell? ⟨b,o+2,none⟩=some (.slice ao x.kids.length cap)
 tr:Tr w (.slice ao x.kids.length cap) x.kids
theorem trOne_cells {w:World} {b o:Nat} {x:Sp} (h:trOne w b o x):∃ao cap,Cells w b o x ao cap:=by
 obtain⟨k,s,l⟩:=x;unfold trOne at h;obtain⟨h1,h2,ao,cap,h3,hc,h4⟩:=h;exact⟨ao,cap,h1,h2,h3,⟨ao,cap,rfl,hc,h4⟩⟩
theorem trOne_of {w:World} {b o:Nat} {x:Sp} {ao:Option Addr} {cap:Nat} (h:Cells w b o x ao cap):trOne w b o x:=by
 obtain⟨k,s,l⟩:=x;obtain⟨h1,h2,h3,ao',cap',hv,hc,h4⟩:=h;simp only[Value.slice.injEq]at hv;obtain⟨rfl,_,rfl⟩:=hv;unfold trOne;exact⟨h1,h2,ao,cap,h3,hc,h4⟩
theorem Tr.at {w:World} {ao:Option Addr} {n c:Nat} {l:List Sp} (h:Tr w (.slice ao n c) l):∀i (hi:i<l.length),∃b o ak ck,ao=some ⟨b,o,none⟩∧b<w.heap.size∧Cells w b (o+i*3) l[i] ak ck:=by
 intro i hi;obtain⟨ao',cap',hv,_,hx⟩:=h;simp only[Value.slice.injEq]at hv;obtain⟨rfl,_,_⟩:=hv;rcases hx with hx |⟨b,o,rfl,hb,hx⟩
 ·subst hx;exact absurd hi (Nat.not_lt_zero _)
 ·obtain⟨ak,ck,hc⟩:=trOne_cells (trAll_at l o hx i hi)
  exact⟨b,o,ak,ck,rfl,hb,hc⟩
mutual
def fitOne (R:Nat):Sp→Prop
 |.mk k s l=>(-9223372036854775808≤k∧k≤9223372036854775807)∧s.length≤R∧fitAll R l
def fitAll (R:Nat):List Sp→Prop
 |[]=>True
 |x::r=>fitOne R x∧fitAll R r
end
theorem fitAll_at {R:Nat}:∀{l:List Sp},fitAll R l→∀x∈l,fitOne R x
 |[],_,x,hx=>by cases hx
 |y::r,h,x,hx=>by
  unfold fitAll at h;rcases List.mem_cons.1 hx with rfl |hx
  ·exact h.1
  ·exact fitAll_at h.2 x hx
theorem fitAll_of {R:Nat}:∀{l:List Sp},(∀x∈l,fitOne R x)→fitAll R l
 |[],_=>by unfold fitAll;trivial
 |y::r,h=>by
  unfold fitAll;exact⟨h y (List.mem_cons_self ..),fitAll_of (fun x hx=>h x (List.mem_cons_of_mem _ hx))⟩
theorem fitOne_s {R:Nat} {x:Sp} (h:fitOne R x):x.s.length≤R:=by obtain⟨k,s,l⟩:=x;unfold fitOne at h;exact h.2.1
theorem fitOne_kids {R:Nat} {x:Sp} (h:fitOne R x):fitAll R x.kids:=by obtain⟨k,s,l⟩:=x;unfold fitOne at h;exact h.2.2
theorem cellsInt:Tryz.prog.cellsOf 3=1:=by kernel_rfl
theorem cellsStr:Tryz.prog.cellsOf 9=1:=by kernel_rfl
theorem cellsSps:Tryz.prog.cellsOf 38=1:=by kernel_rfl
theorem cellsSp:Tryz.prog.cellsOf 71=3:=by kernel_rfl
theorem mem_all {H:Type} {P:Program} {e:TypeId} {d:DataW H} {n:Nat} (hn:n∈d.weights P e):∀{l:List (DataW H)},d∈l→n∈DataW.weightsAll P e l
 |[],h=>by cases h
 |x::r,h=>by
  simp only[DataW.weightsAll,List.mem_append];rcases List.mem_cons.1 h with rfl |h
  ·exact Or.inl hn
  ·exact Or.inr (mem_all hn h)
end Sp
namespace Sp
open Go.RowKit
open Tk (S S_size ret_int)
open Cm (calls_at)
mutual
def spOne (deep:Nat) (left n:Int):Sp→Int
 |.mk _ s l=>n+1+s.length+spAll (deep-1) (left-(n+1+s.length)) 0 l
def spAll (deep:Nat) (left n:Int):List Sp→Int
 |[]=>n
 |x::r=>if deep=0∨left≤n then n+1000000 else spAll deep left (spOne deep left n x) r
end
theorem spOne_eq (deep:Nat) (left n:Int) (x:Sp):spOne deep left n x=n+1+x.s.length+spAll (deep-1) (left-(n+1+x.s.length)) 0 x.kids:=by
 obtain⟨k,s,l⟩:=x;unfold spOne;rfl
theorem spAll_cons (deep:Nat) (left n:Int) (x:Sp) (r:List Sp):spAll deep left n (x::r)=if deep=0∨left≤n then n+1000000 else spAll deep left (spOne deep left n x) r:=by rw[spAll]
mutual
theorem spOne_ge (deep:Nat) (left n:Int):∀x:Sp,n+1≤spOne deep left n x
 |.mk k s l=>by
  unfold spOne;have:=spAll_ge (deep-1) (left-(n+1+s.length)) 0 l;omega
theorem spAll_ge (deep:Nat) (left n:Int):∀l:List Sp,n≤spAll deep left n l
 |[]=>by unfold spAll;omega
 |x::r=>by
  rw[spAll_cons];have h1:=spOne_ge deep left n x;have h2:=spAll_ge deep left (spOne deep left n x) r;split<;>omega
end
theorem spAll_cut {deep:Nat} {left n:Int} (h:left≤n) (l:List Sp):spAll deep left n l≤n+1000000:=by
 cases l with
 |nil=>unfold spAll;omega
 |cons x r=>rw[spAll_cons,if_pos (Or.inr h)];omega
mutual
theorem spOne_le (deep:Nat) (left n:Int) (h:left≤5000) (h0n:0≤n) (hn:n < left) (hd:0 < deep):∀ x:Sp,fitOne reachBytes x→spOne deep left n x≤5001+140737488355328+1000000+deep*140737492355328
 | .mk k s l,hf=>by
   unfold spOne;unfold fitOne at hf;have hs:=hf.2.1;have hr:reachBytes≤140737488355328:=by decide
   have:=spAll_le (deep - 1) (left - (n+1+s.length)) 0 (by omega) (by omega) l hf.2.2;have e:((deep - 1:Nat):Int)+1=deep:=by omega
   have e2:(((deep - 1:Nat):Int)+1)*140737492355328=deep*140737492355328:=by rw [e]
   by_cases h0:(0:Int) < left - (n+1+s.length)
   · have:=this h0
     omega
   · have h3:=spAll_cut (deep:=deep - 1) (left:=left - (n+1+s.length)) (n:=0) (by omega) l
     have h4:0≤(deep:Int)*140737492355328:=by omega
     omega
theorem spAll_le (deep:Nat) (left n:Int) (h:left≤5000) (h0n:0≤n):∀ l:List Sp,fitAll reachBytes l→n < left→spAll deep left n l≤(deep+1)*140737492355328
 | [], _, hn => by unfold spAll;have:0≤(deep:Int)*140737492355328:=by omega
                   omega
 | x :: r,hf,hn=>by
   unfold fitAll at hf;rw [spAll_cons];have h4:0≤(deep:Int)*140737492355328:=by omega
   split
   · omega
   · rename_i hc
     have hd:0 < deep:=by omega
     have h1:=spOne_le deep left n h h0n hn hd x hf.1;have h1g:=spOne_ge deep left n x;by_cases h2:spOne deep left n x < left
     · exact spAll_le deep left (spOne deep left n x) h (by omega) r hf.2 h2
     · have h3:=spAll_cut (deep:=deep) (left:=left) (n:=spOne deep left n x) (by omega) r
       omega
end
mutual
def totOne:Sp→Nat
 |.mk _ s l=>1+s.length+totAll l
def totAll:List Sp→Nat
 |[]=>0
 |x::r=>totOne x+totAll r
end
theorem totOne_eq (x:Sp):totOne x=1+x.s.length+totAll x.kids:=by obtain⟨k,s,l⟩:=x;unfold totOne;rfl
theorem totAll_cons (x:Sp) (r:List Sp):totAll (x::r)=totOne x+totAll r:=by rw[totAll]
theorem totAll_mem:∀{l:List Sp} {x:Sp},x∈l→totOne x≤totAll l
 |[],x,h=>by cases h
 |y::r,x,h=>by
  rw[totAll_cons];rcases List.mem_cons.1 h with rfl |h
  ·omega
  ·have:=totAll_mem h;omega
theorem totAll_kids {l:List Sp} {x:Sp} (h:x∈l):totAll x.kids<totAll l:=by
 have h1:=totAll_mem h;rw[totOne_eq]at h1;omega
mutual
def dpOne (d:Nat):Sp→Prop
 |.mk _ _ l=>dpAll (d-1) l
def dpAll (d:Nat):List Sp→Prop
 |[]=>True
 |x::r=>0<d∧dpOne d x∧dpAll d r
end
mutual
theorem spOne_small (deep:Nat) (left n:Int) (hn:0≤n):∀x:Sp,spOne deep left n x<1000000→spOne deep left n x=n+totOne x∧dpOne deep x
 |.mk k s l,h=>by
  unfold spOne at h ⊢;have h0:=spAll_ge (deep-1) (left-(n+1+s.length)) 0 l;obtain⟨h1,h2⟩:=spAll_small (deep-1) (left-(n+1+s.length)) 0 (by omega) l (by omega);unfold totOne dpOne;refine⟨by omega,h2⟩
theorem spAll_small (deep:Nat) (left n:Int) (hn:0≤n):∀l:List Sp,spAll deep left n l<1000000→spAll deep left n l=n+totAll l∧dpAll deep l
 |[],h=>by unfold spAll totAll dpAll;exact⟨by omega,trivial⟩
 |x::r,h=>by
  rw[spAll_cons]at h ⊢;split at h
  ·omega
  ·rename_i hc
   rw[if_neg hc];have g1:=spOne_ge deep left n x;have g2:=spAll_ge deep left (spOne deep left n x) r;obtain⟨h1,h2⟩:=spOne_small deep left n hn x (by omega);obtain⟨h3,h4⟩:=spAll_small deep left (spOne deep left n x) (by omega) r h;unfold dpAll;rw[totAll_cons];exact⟨by omega,by omega,h2,h4⟩
end
theorem drop_cons (l:List Sp) (k:Nat) (h:k<l.length):l.drop k=l[k]::l.drop (k+1):=List.drop_eq_getElem_cons h
set_option maxHeartbeats 3200000 in
set_option maxRecDepth 100000 in
theorem spend_any (m:Nat):∀(l:List Sp) (deep:Nat) (left:Int) (v:Value) (w:World),totAll l≤m→Tr w v l→fitAll reachBytes l→deep≤30→left≤5000→-281474976710656≤left→
  Calls Tryz.prog 84 #[v,.int .i64 deep,.int .i64 left] w fun e w'=>e=.returned (.int .i64 (spAll deep left 0 l))∧w=w':=by
 induction m using Nat.strongRecOn with
 |ind m ih=>
  intro l deep left v w hm ht hf hd hl hl2;obtain⟨ao,ca,rfl⟩:=ht.len;have F:=Lib.hid ht.at;have hlen:=ht.short;have hr:reachBytes≤140737488355328:=by decide
  have HV:Hid (spAll deep left 0 l≤31*140737492355328):=Lib.hid (by
   by_cases h0:(0:Int)<left
   ·have:=spAll_le deep left 0 hl (by omega) l hf h0
    omega
   ·have:=spAll_cut (deep:=deep) (left:=left) (n:=0) (by omega) l
    omega)
  have HX:=Lib.hid (fun k (hk:k<l.length)=>fitAll_at hf l[k] (List.getElem_mem hk))
  have HIH:Hid (∀k (hk:k<l.length) (left':Int) (v':Value) (w':World),0<deep→Tr w' v' l[k].kids→left'≤5000→-281474976710656≤left'→
    Calls Tryz.prog 84 #[v',.int .i64 ((deep:Int)-1),.int .i64 left'] w' fun e w''=>e=.returned (.int .i64 (spAll (deep-1) left' 0 l[k].kids))∧w'=w''):=Lib.hid (fun k hk left' v' w' h0 ht' h1 h2=>by
   have:=ih (totAll l[k].kids) (Nat.lt_of_lt_of_le (totAll_kids (List.getElem_mem hk)) hm) l[k].kids (deep-1) left' v' w' (Nat.le_refl _) ht' (fitOne_kids (fitAll_at hf _ (List.getElem_mem hk))) (by omega) h1 h2;rwa[show((deep-1:Nat):Int)=(deep:Int)-1 by omega]at this)
  have H0:Hid (spAll deep left 0 l=spAll deep left 0 (l.drop 0)):=Lib.hid (by rw[List.drop_zero]);obtain⟨X,hX⟩:∃X,spAll deep left 0 l=X:=⟨_,rfl⟩;rw[hX]at HV H0;rw[hX];clear ih ht hf hm hX;go_enter Tryz.func84,Tryz.ntmps84;go_wp2_with fail;go_loop [7,11] (fun s i=>∃(k:Nat) (n:Int),k≤l.length∧0≤n∧i=.int .i64 k∧s=.int .i64 n∧Hid (X=spAll deep left n (l.drop k))) (fun _ i=>l.length-(intOf i).toNat)
  case atStart=>exact⟨0,0,Nat.zero_le _,by omega,rfl,rfl,H0⟩
  case round=>
   clear H0;obtain⟨k,n,hk,hn,rfl,rfl,HN⟩:=hrel
   have hle:n≤31*140737492355328:=by
    have h1:=HN.out;have h2:=spAll_ge deep left n (l.drop k);have h3:=HV.out;omega
   by_cases hlt:k<l.length
   ·have hnx:=HN.out
    rw[drop_cons l k hlt,spAll_cons]at hnx;have hi1:(k:Int)<(l.length:Int):=by omega
    by_cases hc:deep=0∨left≤n
    ·rw[if_pos hc]at hnx
     have HQ:=Lib.hid hnx;clear hnx HN;by_cases h0:deep=0
     ·have e1:((deep:Int)==0)=true:=by rw[h0];rfl
      clear hc h0;go_wp2_with fail;go_ret;exact⟨ret_int (by rw[HQ.out]),rfl⟩
     ·have e1:((deep:Int)==0)=false:=by rw[beq_eq_false_iff_ne];omega
      have e2:decide (n≥left)=true:=decide_eq_true (by omega);have e3:decide (left≤n)=true:=decide_eq_true (by omega);clear hc h0;go_wp2_with fail;go_ret;exact⟨ret_int (by rw[HQ.out]),rfl⟩
    ·rw[if_neg hc,spOne_eq]at hnx
     have e1:((deep:Int)==0)=false:=by rw[beq_eq_false_iff_ne];omega
     have e2:decide (n≥left)=false:=decide_eq_false (by omega);have e3:decide (left≤n)=false:=decide_eq_false (by omega);obtain⟨b,o,ak,ck,rfl,hb,hC⟩:=F.out k hlt;have c1:=hC.s;have c2:=hC.kids;have hs:=fitOne_s (HX.out k hlt);have hsz:(S l[k].s).size=l[k].s.length:=S_size _;have HC:=Lib.hid (HIH.out k hlt (left-(n+1+l[k].s.length)) _ w (by omega) hC.tr (by omega) (by omega));have HQ:=Lib.hid hnx
     have hval:n+1+(l[k].s.length:Int)+spAll (deep-1) (left-(n+1+l[k].s.length)) 0 l[k].kids≤31*140737492355328:=by
      have h2:=spAll_ge deep left (n+1+(l[k].s.length:Int)+spAll (deep-1) (left-(n+1+l[k].s.length)) 0 l[k].kids) (l.drop (k+1));have h3:=HV.out;omega
     have hval0:=spAll_ge (deep-1) (left-(n+1+l[k].s.length)) 0 l[k].kids;clear hnx HN hC hc;generalize spAll (deep-1) (left-(n+1+l[k].s.length)) 0 l[k].kids=z at *;generalize l[k].kids.length=kn at *;generalize l[k].s=s at *;generalize S s=ss at *;generalize hsl:(s.length:Int)=sl at *;have hsz':(ss.size:Int)=sl:=by omega
     have hsl0:0≤sl∧sl≤140737488355328:=by omega
     have wr1:IntKind.i64.wrap (n+1)=n+1:=by rw[IntKind.wrap_i64];omega
     have wr2:IntKind.i64.wrap (n+1+sl)=n+1+sl:=by rw[IntKind.wrap_i64];omega
     go_wp2_with fail;refine calls_at (by simp) HC.out ?_;rintro e w1 ⟨rfl,rfl⟩;clear HC;go_wp2_with fail;go_round
     case rel=>exact⟨k+1,n+1+sl+z,by omega,by omega,by go_num,rfl,HQ⟩
     case measure=>simp[intOf];omega
   ·obtain rfl:k=l.length:=by omega
    have hnx:=HN.out;rw[List.drop_length]at hnx;have HQ:Hid (X=n):=Lib.hid (by rw[hnx];unfold spAll;rfl);clear hnx HN hlt;go_wp2_with fail;go_ret;exact⟨ret_int (by rw[HQ.out]),rfl⟩
theorem size_any (l:List Sp) (v:Value) (w:World) (ht:Tr w v l) (hf:fitAll reachBytes l):
  Calls Tryz.prog 52 #[v,.int .i64 30] w fun e w'=>e=.returned (.int .i64 (spAll 30 5000 0 l))∧w=w':=by
 have H:=Lib.hid (spend_any (totAll l) l 30 5000 v w (Nat.le_refl _) ht hf (by omega) (by omega) (by omega));clear ht hf;go_enter Tryz.func52,Tryz.ntmps52;go_wp2_with fail;refine H.out.mono ?_;rintro e w1 ⟨rfl,rfl⟩;clear H;go_wp2_with fail;go_ret;exact⟨rfl,rfl⟩
end Sp
namespace Sp
open Go.RowKit
open Tk (S S_size S_app)
theorem ret_bool {x y:Bool} (h:x=y):Ending.returned (.bool x)=Ending.returned (.bool y):=by rw[h]
mutual
def plOne:Sp→List UInt8
 |.mk q s l=>(if q=1∨q=2 then s else [])++plAll l
def plAll:List Sp→List UInt8
 |[]=>[]
 |x::r=>plOne x++plAll r
end
theorem plOne_eq (x:Sp):plOne x=(if x.kind=1∨x.kind=2 then x.s else [])++plAll x.kids:=by obtain⟨q,s,l⟩:=x;unfold plOne;rfl
theorem plAll_cons (x:Sp) (r:List Sp):plAll (x::r)=plOne x++plAll r:=by rw[plAll]
mutual
theorem plOne_len:∀x:Sp,(plOne x).length≤totOne x
 |.mk q s l=>by
  have:=plAll_len l;unfold plOne totOne;rw[List.length_append];split<;>simp<;>omega
theorem plAll_len:∀l:List Sp,(plAll l).length≤totAll l
 |[]=>by unfold plAll totAll;simp
 |x::r=>by
  have h1:=plOne_len x;have h2:=plAll_len r;rw[plAll_cons,totAll_cons,List.length_append];omega
end
theorem ret_str {x y:ByteArray} (h:x=y):Ending.returned (.string x)=Ending.returned (.string y):=by rw[h]
set_option maxHeartbeats 1600000 in
theorem rplain_any (m:Nat):∀(l:List Sp) (v:Value) (w:World),totAll l≤m→m≤9000000→Tr w v l→
  Calls Tryz.prog 58 #[v] w fun e w'=>e=.returned (.string (S (plAll l)))∧w=w':=by
 induction m using Nat.strongRecOn with
 |ind m ih=>
  intro l v w hm hM ht;obtain⟨ao,ca,rfl⟩:=ht.len;have F:=Lib.hid ht.at;have hlen:=ht.short
  have HIH:Hid (∀k (hk:k<l.length) (v':Value) (w':World),Tr w' v' l[k].kids→Calls Tryz.prog 58 #[v'] w' fun e w''=>e=.returned (.string (S (plAll l[k].kids)))∧w'=w''):=Lib.hid (fun k hk v' w' ht'=>by
   have h:=totAll_kids (List.getElem_mem hk);exact ih (totAll l[k].kids) (Nat.lt_of_lt_of_le h hm) l[k].kids v' w' (Nat.le_refl _) (by omega) ht')
  have hpl:(plAll l).length≤9000000:=Nat.le_trans (plAll_len l) (Nat.le_trans hm hM);have H0:Hid (plAll l=[]++plAll (l.drop 0)):=Lib.hid (by rw[List.drop_zero];rfl);obtain⟨X,hX⟩:∃X,plAll l=X:=⟨_,rfl⟩;rw[hX]at H0 hpl;rw[hX];clear ih ht hm hX;go_enter Tryz.func58,Tryz.ntmps58;go_wp2_with fail;go_loop [3,7] (fun s i=>∃(k:Nat) (p:List UInt8),k≤l.length∧i=.int .i64 k∧s=.string (S p)∧Hid (X=p++plAll (l.drop k))) (fun _ i=>l.length-(intOf i).toNat)
  case atStart=>exact⟨0,[],Nat.zero_le _,rfl,rfl,H0⟩
  case round=>
   clear H0;obtain⟨k,p,hk,rfl,rfl,HN⟩:=hrel;by_cases hlt:k<l.length
   ·have hnx:=HN.out
    rw[drop_cons l k hlt,plAll_cons,plOne_eq]at hnx;have hi1:(k:Int)<(l.length:Int):=by omega
    obtain⟨b,o,ak,ck,rfl,hb,hC⟩:=F.out k hlt;have c0:=hC.kind;have c1:=hC.s;have c2:=hC.kids;have HC:=Lib.hid (HIH.out k hlt _ w hC.tr);have HQ:=Lib.hid hnx;have hall:=congrArg List.length hnx;simp only[List.length_append]at hall;clear hnx HN hC;generalize l[k].kids.length=kn at *;generalize plAll l[k].kids=y at *;generalize l[k].kind=z at *;generalize l[k].s=s at *;have z1:(S p).size=p.length:=S_size _;have z2:(S s).size=s.length:=S_size _;have z3:(S y).size=y.length:=S_size _;have hap:=Lib.hid (S_app p s);by_cases hz:z=1∨z=2
    ·rw[if_pos hz]at hall
     have HQ2:Hid (X=((p++s)++y)++plAll (l.drop (k+1))):=Lib.hid (by rw[HQ.out,if_pos hz];simp);have g1:¬9223372036854775807<(S p).size+(S s).size:=by omega
     have g2:¬9223372036854775807<(S p).size+(S s).size+(S y).size:=by omega
     have hap2:=Lib.hid (S_app (p++s) y);clear HQ hall;rcases hz with hz |hz
     ·have e1:(z==1)=true:=by rw[hz];rfl
      clear hz;go_wp2_with fail;refine HC.out.mono ?_;rintro e w1 ⟨rfl,rfl⟩;clear HC;go_wp2_with fail;go_round
      case rel=>exact⟨k+1,(p++s)++y,by omega,by go_num,by rw[hap.out,hap2.out],HQ2⟩
      case measure=>simp[intOf];omega
     ·have e1:(z==1)=false:=by rw[hz];rfl
      have e2:(z==2)=true:=by rw[hz];rfl
      clear hz;go_wp2_with fail;refine HC.out.mono ?_;rintro e w1 ⟨rfl,rfl⟩;clear HC;go_wp2_with fail;go_round
      case rel=>exact⟨k+1,(p++s)++y,by omega,by go_num,by rw[hap.out,hap2.out],HQ2⟩
      case measure=>simp[intOf];omega
    ·rw[if_neg hz]at hall
     have HQ2:Hid (X=(p++y)++plAll (l.drop (k+1))):=Lib.hid (by rw[HQ.out,if_neg hz];simp);have e1:(z==1)=false:=by rw[beq_eq_false_iff_ne];omega
     have e2:(z==2)=false:=by rw[beq_eq_false_iff_ne];omega
     have g1:¬9223372036854775807<(S p).size+(S y).size:=by omega
     have hap2:=Lib.hid (S_app p y);clear HQ hall hz;go_wp2_with fail;refine HC.out.mono ?_;rintro e w1 ⟨rfl,rfl⟩;clear HC;go_wp2_with fail;go_round
     case rel=>exact⟨k+1,p++y,by omega,by go_num,by rw[hap2.out],HQ2⟩
     case measure=>simp[intOf];omega
   ·obtain rfl:k=l.length:=by omega
    have hnx:=HN.out;rw[List.drop_length]at hnx;have HQ:Hid (X=p):=Lib.hid (by rw[hnx];unfold plAll;simp);clear hnx HN hlt;go_wp2_with fail;go_ret;exact⟨ret_str (by rw[HQ.out]),rfl⟩
end Sp
namespace Sp
open Go.RowKit
open Tk (eq8 ne8 at_data)
def spB (c:UInt8):Bool:=decide (c=32)||decide (c=9)
def edB (c:UInt8):Bool:=spB c||decide (c=10)
theorem space_any (c:UInt8) (w:World):
  Calls Tryz.prog 123 #[.int .u8 c.toNat] w fun e w'=>e=.returned (.bool (spB c))∧w=w':=by
 by_cases h1:c=32
 ·subst h1
  go_enter Tryz.func123,Tryz.ntmps123;go_wp2_with fail;go_ret;exact⟨rfl,rfl⟩
 ·have e1:((c.toNat:Int)==32)=false:=ne8 (b:=32) h1
  by_cases h2:c=9
  ·subst h2
   go_enter Tryz.func123,Tryz.ntmps123;go_wp2_with fail;go_ret;exact⟨rfl,rfl⟩
  ·have e2:((c.toNat:Int)==9)=false:=ne8 (b:=9) h2
   have HR:Hid (spB c=false):=Lib.hid (by unfold spB;rw[decide_eq_false h1,decide_eq_false h2];rfl);clear h1 h2;go_enter Tryz.func123,Tryz.ntmps123;go_wp2_with fail;go_ret;exact⟨ret_bool HR.out.symm,rfl⟩
theorem edge_any (c:UInt8) (w:World):
  Calls Tryz.prog 88 #[.int .u8 c.toNat] w fun e w'=>e=.returned (.bool (edB c))∧w=w':=by
 have H:=Lib.hid (space_any c w);have HE:Hid (edB c=(spB c||decide (c=10))):=Lib.hid rfl;cases h1:spB c with
 |true=>
  rw[h1]at H;have HR:Hid (edB c=true):=Lib.hid (by rw[HE.out,h1];rfl);clear h1 HE;go_enter Tryz.func88,Tryz.ntmps88;go_wp2_with fail;refine H.out.mono ?_;rintro e w1 ⟨rfl,rfl⟩;clear H;go_wp2_with fail;go_ret;exact⟨ret_bool HR.out.symm,rfl⟩
 |false=>
  rw[h1]at H;by_cases h2:c=10
  ·have e2:((c.toNat:Int)==10)=true:=eq8 (b:=10) h2
   have HR:Hid (edB c=true):=Lib.hid (by rw[HE.out,decide_eq_true h2];simp);clear h1 h2 HE;go_enter Tryz.func88,Tryz.ntmps88;go_wp2_with fail;refine H.out.mono ?_;rintro e w1 ⟨rfl,rfl⟩;clear H;go_wp2_with fail;go_ret;exact⟨ret_bool HR.out.symm,rfl⟩
  ·have e2:((c.toNat:Int)==10)=false:=ne8 (b:=10) h2
   have HR:Hid (edB c=false):=Lib.hid (by rw[HE.out,h1,decide_eq_false h2];rfl);clear h1 h2 HE;go_enter Tryz.func88,Tryz.ntmps88;go_wp2_with fail;refine H.out.mono ?_;rintro e w1 ⟨rfl,rfl⟩;clear H;go_wp2_with fail;go_ret;exact⟨ret_bool HR.out.symm,rfl⟩
theorem drop_all (s:ByteArray) (k:Nat) (h:¬k<s.size):s.data.toList.drop k=[]:=List.drop_eq_nil_of_le (by simp;omega)
def hsB (c:UInt8) (s:List UInt8):Bool:=s.any (fun b=>decide (b=c))
theorem has_any (s:ByteArray) (c:UInt8) (hs:s.size≤140737488355328) (w:World):
  Calls Tryz.prog 148 #[.string s,.int .u8 c.toNat] w fun e w'=>e=.returned (.bool (hsB c s.data.toList))∧w=w':=by
 have H0:Hid (hsB c s.data.toList=hsB c (s.data.toList.drop 0)):=Lib.hid (by rw[List.drop_zero]);obtain⟨X,hX⟩:∃X,hsB c s.data.toList=X:=⟨_,rfl⟩;rw[hX]at H0;rw[hX];clear hX;go_enter Tryz.func148,Tryz.ntmps148;go_wp2_with fail;go_loop [5] (fun i=>∃k:Nat,k≤s.size∧i=.int .i64 k∧Hid (X=hsB c (s.data.toList.drop k))) (fun i=>s.size-(intOf i).toNat)
 case atStart=>exact⟨0,Nat.zero_le _,rfl,H0⟩
 case round=>
  clear H0;obtain⟨k,hk,rfl,HN⟩:=hrel;by_cases hlt:k<s.size
  ·have hnx:=HN.out
   rw[at_data s k hlt]at hnx;by_cases hc:s[k]=c
   ·have e1:=eq8 hc
    have HR:Hid (X=true):=Lib.hid (by rw[hnx];unfold hsB;simp[hc]);clear hnx HN hc;go_wp2_with fail;go_ret;exact⟨ret_bool HR.out.symm,rfl⟩
   ·have e1:=ne8 hc
    have HR:Hid (X=hsB c (s.data.toList.drop (k+1))):=Lib.hid (by rw[hnx];unfold hsB;rw[List.any_cons,decide_eq_false hc,Bool.false_or]);clear hnx HN hc;go_wp2_with fail;go_round
    case rel=>exact⟨k+1,by omega,by go_num,HR⟩
    case measure=>simp[intOf];omega
  ·have hnx:=HN.out
   rw[drop_all s k hlt]at hnx;have HR:Hid (X=false):=Lib.hid (by rw[hnx];rfl);clear hnx HN;go_wp2_with fail;go_ret;exact⟨ret_bool HR.out.symm,rfl⟩
def marksL:List UInt8:=[46,47,95,45,35,63,38,58,37]
def alB (c:UInt8):Bool:=(decide (97≤(c.toNat:Int))&&decide ((c.toNat:Int)≤122))||(decide (65≤(c.toNat:Int))&&decide ((c.toNat:Int)≤90))||(decide (48≤(c.toNat:Int))&&decide ((c.toNat:Int)≤57))
def dcB (c:UInt8):Bool:=alB c||marksL.any (fun b=>decide (c=b))
def dsB (s:List UInt8):Bool:=s.all dcB&&!s.isEmpty
theorem dest_any (s:ByteArray) (hs:s.size≤140737488355328) (w:World):
  Calls Tryz.prog 62 #[.string s] w fun e w'=>e=.returned (.bool (dsB s.data.toList))∧w=w':=by
 have H0:Hid (dsB s.data.toList=((s.data.toList.drop 0).all dcB&&!s.data.toList.isEmpty)):=Lib.hid (by rw[List.drop_zero];rfl);have HEm:Hid ((!s.toList.isEmpty)= !s.data.toList.isEmpty):=Lib.hid (by rw[Lib.toList_data]);obtain⟨X,hX⟩:∃X,dsB s.data.toList=X:=⟨_,rfl⟩;obtain⟨ne,hne⟩:∃ne,(!s.data.toList.isEmpty)=ne:=⟨_,rfl⟩;rw[hX,hne]at H0;rw[hne]at HEm;rw[hX];have hm9:marksL.length=9:=rfl;clear hX hne;go_enter Tryz.func62,Tryz.ntmps62;go_wp2_with fail;go_loop [3] (fun i=>∃k:Nat,k≤s.size∧i=.int .i64 k∧Hid (X=((s.data.toList.drop k).all dcB&&ne))) (fun i=>s.size-(intOf i).toNat)
 case atStart=>exact⟨0,Nat.zero_le _,rfl,H0⟩
 case round=>
  clear H0;obtain⟨k,hk,rfl,HN⟩:=hrel;by_cases hlt:k<s.size
  ·have hnx:=HN.out
   rw[at_data s k hlt,List.all_cons]at hnx;have HQ:=Lib.hid hnx;have hi1:(k:Int)<(s.size:Int):=by omega
   clear hnx HN;go_upto_region 5 with fail;generalize s[k]=c at *;go_cut [5]from 8 to 54 (fun ok wx=>ok=.bool (alB c)∧w=wx)
   case first=>
    have HAl:Hid (alB c=((decide (97≤(c.toNat:Int))&&decide ((c.toNat:Int)≤122))||(decide (65≤(c.toNat:Int))&&decide ((c.toNat:Int)≤90))||(decide (48≤(c.toNat:Int))&&decide ((c.toNat:Int)≤57)))):=Lib.hid rfl;clear HQ;generalize (c.toNat:Int)=n at *;cases a0:decide (97≤n)with
    |true=>
     cases b0:decide (n≤122)with
     |true=>
      have HT:Hid (alB c=true):=Lib.hid (by rw[HAl.out,a0,b0];simp);go_wp2_with fail;go_meet;exact⟨by rw[HT.out],rfl⟩
     |false=>
      cases a1:decide (65≤n)with
      |true=>
       cases b1:decide (n≤90)with
       |true=>
        have HT:Hid (alB c=true):=Lib.hid (by rw[HAl.out,a0,b0,a1,b1];simp);go_wp2_with fail;go_meet;exact⟨by rw[HT.out],rfl⟩
       |false=>
        cases a2:decide (48≤n)with
        |true=>
         cases b2:decide (n≤57)with
         |true=>
          have HT:Hid (alB c=true):=Lib.hid (by rw[HAl.out,a0,b0,a1,b1,a2,b2];simp);go_wp2_with fail;go_meet;exact⟨by rw[HT.out],rfl⟩
         |false=>
          go_wp2_with fail;go_meet;exact⟨by rw[HAl.out,a0,b0,a1,b1,a2,b2];rfl,rfl⟩
        |false=>
         go_wp2_with fail;go_meet;exact⟨by rw[HAl.out,a0,b0,a1,b1,a2];rfl,rfl⟩
      |false=>
       cases a2:decide (48≤n)with
       |true=>
        cases b2:decide (n≤57)with
        |true=>
         have HT:Hid (alB c=true):=Lib.hid (by rw[HAl.out,a0,b0,a1,a2,b2];simp);go_wp2_with fail;go_meet;exact⟨by rw[HT.out],rfl⟩
        |false=>
         go_wp2_with fail;go_meet;exact⟨by rw[HAl.out,a0,b0,a1,a2,b2];rfl,rfl⟩
       |false=>
        go_wp2_with fail;go_meet;exact⟨by rw[HAl.out,a0,b0,a1,a2];rfl,rfl⟩
    |false=>
     cases a1:decide (65≤n)with
     |true=>
      cases b1:decide (n≤90)with
      |true=>
       have HT:Hid (alB c=true):=Lib.hid (by rw[HAl.out,a0,a1,b1];simp);go_wp2_with fail;go_meet;exact⟨by rw[HT.out],rfl⟩
      |false=>
       cases a2:decide (48≤n)with
       |true=>
        cases b2:decide (n≤57)with
        |true=>
         have HT:Hid (alB c=true):=Lib.hid (by rw[HAl.out,a0,a1,b1,a2,b2];simp);go_wp2_with fail;go_meet;exact⟨by rw[HT.out],rfl⟩
        |false=>
         go_wp2_with fail;go_meet;exact⟨by rw[HAl.out,a0,a1,b1,a2,b2];rfl,rfl⟩
       |false=>
        go_wp2_with fail;go_meet;exact⟨by rw[HAl.out,a0,a1,b1,a2];rfl,rfl⟩
     |false=>
      cases a2:decide (48≤n)with
      |true=>
       cases b2:decide (n≤57)with
       |true=>
        have HT:Hid (alB c=true):=Lib.hid (by rw[HAl.out,a0,a1,a2,b2];simp);go_wp2_with fail;go_meet;exact⟨by rw[HT.out],rfl⟩
       |false=>
        go_wp2_with fail;go_meet;exact⟨by rw[HAl.out,a0,a1,a2,b2];rfl,rfl⟩
      |false=>
       go_wp2_with fail;go_meet;exact⟨by rw[HAl.out,a0,a1,a2];rfl,rfl⟩
   case rest=>
    obtain⟨rfl,rfl⟩:=hcut;have Hd:Hid (dcB c=(alB c||marksL.any (fun b=>decide (c=b)))):=Lib.hid rfl;have HI0:Hid ((alB c||marksL.any (fun b=>decide (c=b)))=((alB c||(marksL.take 0).any (fun b=>decide (c=b)))||(marksL.drop 0).any (fun b=>decide (c=b)))):=Lib.hid (by rw[List.take_zero,List.drop_zero];simp)
    have HMk:Hid (∀j (hj:j<9),marksL[j]? = some ((⟨#[46,47,95,45,35,63,38,58,37]⟩:ByteArray)[j]'(by exact hj))∧marksL.take (j+1)=marksL.take j++[(⟨#[46,47,95,45,35,63,38,58,37]⟩:ByteArray)[j]'(by exact hj)]):=Lib.hid (fun j hj=>by
     match j,hj with
     |0,_=>exact⟨rfl,rfl⟩
     |1,_=>exact⟨rfl,rfl⟩
     |2,_=>exact⟨rfl,rfl⟩
     |3,_=>exact⟨rfl,rfl⟩
     |4,_=>exact⟨rfl,rfl⟩
     |5,_=>exact⟨rfl,rfl⟩
     |6,_=>exact⟨rfl,rfl⟩
     |7,_=>exact⟨rfl,rfl⟩
     |8,_=>exact⟨rfl,rfl⟩)
    go_wp2_with fail;go_loop [5,7] (fun ok j=>∃q:Nat,q≤9∧j=.int .i64 q∧ok=.bool (alB c||(marksL.take q).any (fun b=>decide (c=b)))) (fun _ j=>9-(intOf j).toNat)
    case atStart=>exact⟨0,by omega,rfl,by rw[List.take_zero];simp⟩
    case round=>
     obtain⟨q,hq,rfl,rfl⟩:=hrel;by_cases hlq:q<9
     ·obtain⟨_,hm2⟩:=HMk.out q hlq
      have hsz:(⟨#[46,47,95,45,35,63,38,58,37]⟩:ByteArray).size=9:=rfl;have HN2:Hid ((alB c||(marksL.take (q+1)).any (fun b=>decide (c=b)))=((alB c||(marksL.take q).any (fun b=>decide (c=b)))||decide (c=(⟨#[46,47,95,45,35,63,38,58,37]⟩:ByteArray)[q]'(by exact hlq)))):=Lib.hid (by rw[hm2,List.any_append];simp[Bool.or_assoc]);clear hm2;cases hy:(alB c||(marksL.take q).any (fun b=>decide (c=b)))with
      |true=>
       rw[hy]at HN2;have HR:Hid ((alB c||(marksL.take (q+1)).any (fun b=>decide (c=b)))=true):=Lib.hid (by rw[HN2.out];rfl);clear hy HN2;go_wp2_with fail;go_round
       case rel=>exact⟨q+1,by omega,by go_num,by rw[HR.out]⟩
       case measure=>simp[intOf];omega
      |false=>
       rw[hy]at HN2;have hq2:q<(⟨#[46,47,95,45,35,63,38,58,37]⟩:ByteArray).size:=by omega
       by_cases hc:c=(⟨#[46,47,95,45,35,63,38,58,37]⟩:ByteArray)[q]'hq2
       ·have e1:((c.toNat:Int)==(((⟨#[46,47,95,45,35,63,38,58,37]⟩:ByteArray)[q]'hq2).toNat:Int))=true:=eq8 hc
        have HR:Hid ((alB c||(marksL.take (q+1)).any (fun b=>decide (c=b)))=true):=Lib.hid (by rw[HN2.out,decide_eq_true hc];rfl);clear hy HN2 hc;go_wp2_with fail;go_round
        case rel=>exact⟨q+1,by omega,by go_num,by rw[HR.out]⟩
        case measure=>simp[intOf];omega
       ·have e1:((c.toNat:Int)==(((⟨#[46,47,95,45,35,63,38,58,37]⟩:ByteArray)[q]'hq2).toNat:Int))=false:=ne8 hc
        have HR:Hid ((alB c||(marksL.take (q+1)).any (fun b=>decide (c=b)))=false):=Lib.hid (by rw[HN2.out,decide_eq_false hc];rfl);clear hy HN2 hc;go_wp2_with fail;go_round
        case rel=>exact⟨q+1,by omega,by go_num,by rw[HR.out]⟩
        case measure=>simp[intOf];omega
     ·obtain rfl:q=9:=by omega
      have HR:Hid ((alB c||(marksL.take 9).any (fun b=>decide (c=b)))=dcB c):=Lib.hid (by rw[Hd.out];rfl);rw[HR.out];cases hd:dcB c with
      |true=>
       have HQ2:Hid (X=((s.data.toList.drop (k+1)).all dcB&&ne)):=Lib.hid (by rw[HQ.out,hd];simp);clear HQ HR hd Hd HMk;go_wp2_with fail;go_round
       case rel=>exact⟨k+1,by omega,by go_num,HQ2⟩
       case measure=>simp[intOf];omega
      |false=>
       have HQ2:Hid (X=false):=Lib.hid (by rw[HQ.out,hd];simp);clear HQ HR hd Hd HMk;go_wp2_with fail;go_ret;exact⟨ret_bool HQ2.out.symm,rfl⟩
  ·have hnx:=HN.out
   rw[drop_all s k hlt]at hnx;have HR:Hid (X=!s.toList.isEmpty):=Lib.hid (by rw[hnx,HEm.out];rfl);clear hnx HN HEm;go_wp2_with fail;go_ret;exact⟨ret_bool HR.out.symm,rfl⟩
end Sp
end Go.Proofs.YtpakjdgddomdjabGreatDoor
