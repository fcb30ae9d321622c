import Derived.Test.YthpnbialpkkpgaaGreatDoorPkA
import Derived.Test.YthpnbialpkkpgaaGreatDoorPkB
import Derived.Test.YthpnbialpkkpgaaGreatDoorPkF
import Derived.Test.YthpnbialpkkpgaaGreatDoorPkE
import Derived.BigQuiet
import Derived.Deep.Cut
import Derived.Deep.CutRange
import Derived.Deep.CutBlock
import Derived.Maps.AppendAt
set_option linter.unusedVariables false
namespace Go.Proofs.YthpnbialpkkpgaaGreatDoor
namespace Bt
open Go.RowKit Go.ChangeShapes Go.WideShapes Go.ChangeAt
open Tk (S S_of S_list S_size Rd)
open Sp (Sp Tr)
open Bk (Bk)
mutual
def trOne (w:World) (b o:Nat):Bk→Prop
 |.mk k lv i ls ss l=>w.cell? ⟨b,o,none⟩=some (.int .i64 k)∧w.cell? ⟨b,o+1,none⟩=some (.int .i64 lv)∧w.cell? ⟨b,o+2,none⟩=some (.string (S i))∧
  (∃v,w.cell? ⟨b,o+3,none⟩=some v∧Rd w v ls∧ls.length≤9223372036854775807)∧(∃v,w.cell? ⟨b,o+4,none⟩=some v∧Tr w v ss)∧
  ∃ao cap,w.cell? ⟨b,o+5,none⟩=some (.slice ao l.length cap)∧(l.length≤cap∧cap≤9223372036854775807)∧(l=[]∨∃b' o',ao=some ⟨b',o',none⟩∧b'<w.heap.size∧trAll w b' o' l)
def trAll (w:World) (b o:Nat):List Bk→Prop
 |[]=>True
 |x::r=>trOne w b o x∧trAll w b (o+6) r
end
def TrB (w:World) (v:Value) (l:List Bk):Prop:=
 ∃ao cap,v=.slice ao l.length cap∧(l.length≤cap∧cap≤9223372036854775807)∧(l=[]∨∃b o,ao=some ⟨b,o,none⟩∧b<w.heap.size∧trAll w b o l)
theorem TrB.len {w:World} {v:Value} {l:List Bk} (h:TrB w v l):∃ao cap,v=.slice ao l.length cap:=by
 obtain⟨ao,cap,hv,_⟩:=h;exact⟨ao,cap,hv⟩
theorem TrB.short {w:World} {v:Value} {l:List Bk} (h:TrB w v l):l.length≤9223372036854775807:=by
 obtain⟨_,_,_,hc,_⟩:=h;omega
mutual
theorem trOne_below {w w':World} (hb:Below w.heap.size w w'):∀(x:Bk) (b o:Nat),b<w.heap.size→trOne w b o x→trOne w' b o x
 |.mk k lv i ls ss l,b,o,hlt,h=>by
  unfold trOne at h ⊢
  obtain⟨h0,h1,h2,⟨v3,h3,r3,n3⟩,⟨v4,h4,r4⟩,ao,cap,h5,hc,h6⟩:=h
  refine⟨(hb.cell (by exact hlt)).trans h0,(hb.cell (by exact hlt)).trans h1,(hb.cell (by exact hlt)).trans h2,⟨v3,(hb.cell (by exact hlt)).trans h3,r3.below hb,n3⟩,⟨v4,(hb.cell (by exact hlt)).trans h4,r4.below hb⟩,ao,cap,(hb.cell (by exact hlt)).trans h5,hc,?_⟩
  rcases h6 with h6 |⟨b',o',ha,hl,h6⟩
  ·exact Or.inl h6
  ·exact Or.inr ⟨b',o',ha,Nat.lt_of_lt_of_le hl hb.size,trAll_below hb l b' o' hl h6⟩
theorem trAll_below {w w':World} (hb:Below w.heap.size w w'):∀(l:List Bk) (b o:Nat),b<w.heap.size→trAll w b o l→trAll w' b o l
 |[],_,_,_,_=>by unfold trAll;trivial
 |x::r,b,o,hlt,h=>by
  unfold trAll at h ⊢
  exact⟨trOne_below hb x b o hlt h.1,trAll_below hb r b (o+6) hlt h.2⟩
end
theorem TrB.below {w w':World} {v:Value} {l:List Bk} (h:TrB w v l) (hb:Below w.heap.size w w'):TrB w' v l:=by
 obtain⟨ao,cap,hv,hc,h⟩:=h
 refine⟨ao,cap,hv,hc,?_⟩
 rcases h with h |⟨b,o,ha,hl,h⟩
 ·exact Or.inl h
 ·exact Or.inr ⟨b,o,ha,Nat.lt_of_lt_of_le hl hb.size,trAll_below hb l b o hl h⟩
theorem trAll_at {w:World} {b:Nat}:∀(l:List Bk) (o:Nat),trAll w b o l→∀i (hi:i<l.length),trOne w b (o+i*6) l[i]
 |[],_,_,i,hi=>absurd hi (Nat.not_lt_zero _)
 |x::r,o,h,0,_=>by unfold trAll at h;simpa using h.1
 |x::r,o,h,i+1,hi=>by
  unfold trAll at h
  have:=trAll_at r (o+6) h.2 i (by simpa using hi)
  rw[show o+(i+1)*6=o+6+i*6 by omega]
  simpa using this
theorem trAll_of {w:World} {b:Nat}:∀(l:List Bk) (o:Nat),(∀i (hi:i<l.length),trOne w b (o+i*6) l[i])→trAll w b o l
 |[],_,_=>by unfold trAll;trivial
 |x::r,o,h=>by
  unfold trAll
  refine⟨h 0 (by simp),trAll_of r (o+6) (fun i hi=>?_)⟩
  have:=h (i+1) (by simpa using hi)
  rw[show o+(i+1)*6=o+6+i*6 by omega]at this
  simpa using this
structure Cells (w:World) (b o:Nat) (x:Bk) (vl vs:Value) (ao:Option Addr) (cap:Nat):Prop where
 kind:w.cell? ⟨b,o,none⟩=some (.int .i64 x.kind)
 level:w.cell? ⟨b,o+1,none⟩=some (.int .i64 x.level)
 info:w.cell? ⟨b,o+2,none⟩=some (.string (S x.info))
 lines:w.cell? ⟨b,o+3,none⟩=some vl
 spans:w.cell? ⟨b,o+4,none⟩=some vs
 kids:w.cell? ⟨b,o+5,none⟩=some (.slice ao x.kids.length cap)
 rd:Rd w vl x.lines
 short:x.lines.length≤9223372036854775807
 sp:Tr w vs x.spans
 tr:TrB w (.slice ao x.kids.length cap) x.kids
theorem trOne_cells {w:World} {b o:Nat} {x:Bk} (h:trOne w b o x):∃vl vs ao cap,Cells w b o x vl vs ao cap:=by
 obtain⟨k,lv,i,ls,ss,l⟩:=x
 unfold trOne at h
 obtain⟨h0,h1,h2,⟨v3,h3,r3,n3⟩,⟨v4,h4,r4⟩,ao,cap,h5,hc,h6⟩:=h
 exact⟨v3,v4,ao,cap,h0,h1,h2,h3,h4,h5,r3,n3,r4,⟨ao,cap,rfl,hc,h6⟩⟩
theorem trOne_of {w:World} {b o:Nat} {x:Bk} {vl vs:Value} {ao:Option Addr} {cap:Nat} (h:Cells w b o x vl vs ao cap):trOne w b o x:=by
 obtain⟨k,lv,i,ls,ss,l⟩:=x
 obtain⟨h0,h1,h2,h3,h4,h5,r3,n3,r4,ao',cap',hv,hc,h6⟩:=h
 simp only[Value.slice.injEq]at hv
 obtain⟨rfl,_,rfl⟩:=hv
 unfold trOne
 exact⟨h0,h1,h2,⟨vl,h3,r3,n3⟩,⟨vs,h4,r4⟩,ao,cap,h5,hc,h6⟩
theorem TrB.at {w:World} {ao:Option Addr} {n c:Nat} {l:List Bk} (h:TrB w (.slice ao n c) l):∀i (hi:i<l.length),∃b o vl vs ak ck,ao=some ⟨b,o,none⟩∧b<w.heap.size∧Cells w b (o+i*6) l[i] vl vs ak ck:=by
 intro i hi
 obtain⟨ao',cap',hv,_,hx⟩:=h
 simp only[Value.slice.injEq]at hv
 obtain⟨rfl,_,_⟩:=hv
 rcases hx with hx |⟨b,o,rfl,hb,hx⟩
 ·subst hx;exact absurd hi (Nat.not_lt_zero _)
 ·obtain⟨vl,vs,ak,ck,hc⟩:=trOne_cells (trAll_at l o hx i hi)
  exact⟨b,o,vl,vs,ak,ck,rfl,hb,hc⟩
mutual
def fitOne (R:Nat):Bk→Prop
 |.mk k lv i ls ss l=>(-9223372036854775808≤k∧k≤9223372036854775807)∧(-9223372036854775808≤lv∧lv≤9223372036854775807)∧i.length≤R∧(∀s∈ls,s.length≤R)∧Sp.fitAll R ss∧fitAll R l
def fitAll (R:Nat):List Bk→Prop
 |[]=>True
 |x::r=>fitOne R x∧fitAll R r
end
theorem fitAll_at {R:Nat}:∀{l:List Bk},fitAll R l→∀x∈l,fitOne R x
 |[],_,x,hx=>by cases hx
 |y::r,h,x,hx=>by
  unfold fitAll at h
  rcases List.mem_cons.1 hx with rfl |hx
  ·exact h.1
  ·exact fitAll_at h.2 x hx
theorem fitOne_eq {R:Nat} {x:Bk}:fitOne R x↔(-9223372036854775808≤x.kind∧x.kind≤9223372036854775807)∧(-9223372036854775808≤x.level∧x.level≤9223372036854775807)∧x.info.length≤R∧(∀s∈x.lines,s.length≤R)∧Sp.fitAll R x.spans∧fitAll R x.kids:=by
 obtain⟨k,lv,i,ls,ss,l⟩:=x
 rw[fitOne]
 rfl
def lnTot:List (List UInt8)→Nat
 |[]=>0
 |s::r=>1+s.length+lnTot r
mutual
def ttOne:Bk→Nat
 |.mk _ _ i ls ss l=>1+i.length+lnTot ls+Sp.totAll ss+ttAll l
def ttAll:List Bk→Nat
 |[]=>0
 |x::r=>ttOne x+ttAll r
end
theorem ttOne_eq (x:Bk):ttOne x=1+x.info.length+lnTot x.lines+Sp.totAll x.spans+ttAll x.kids:=by obtain⟨k,lv,i,ls,ss,l⟩:=x;rw[ttOne];rfl
theorem ttAll_cons (x:Bk) (r:List Bk):ttAll (x::r)=ttOne x+ttAll r:=by rw[ttAll]
structure Bulk {H:Type} (f:DataW H→Nat) (fa:List (DataW H)→Nat):Prop where
 str:∀b,b.length+1≤f (.lit (.string b))
 strp:∀b,0<f (.lit (.string b))
 slice:∀e s,fa e≤f (.slice e s)
 agg:∀p,fa p+1≤f (.agg p)
 cons:∀d r,fa (d::r)=f d+fa r
 nil:fa []=0
end Bt
namespace Bt
open Go.RowKit
open Tk (S S_of S_list S_size S_toList S_app ret_int Rd)
open Sp (Sp Tr)
open Bk (Bk)
open Cm (calls_at Rk Rk.of_own flat_get)
theorem infoBk:(Tryz.prog.info? 46).map (fun i=>(i.zero,i.size,i.bytes))=some (some (.agg #[.int .i64 0,.int .i64 0,.string ⟨#[]⟩,.slice none 0 0,.slice none 0 0,.slice none 0 0]),6,104):=by kernel_rfl
def encT (p:Bk × Value × Value × Value):List Value:=[.int .i64 p.1.kind,.int .i64 p.1.level,.string (S p.1.info),p.2.1,p.2.2.1,p.2.2.2]
theorem encT_len (p:Bk × Value × Value × Value):(encT p).length=6:=rfl
structure KB (w:World) (p:Bk × Value × Value × Value):Prop where
 rd:Rd w p.2.1 p.1.lines
 short:p.1.lines.length≤9223372036854775807
 sp:Tr w p.2.2.1 p.1.spans
 tr:TrB w p.2.2.2 p.1.kids
theorem TrB.of_own {w:World} {B:Nat} {e:TypeId} {v:Value} {ps:List (Bk × Value × Value × Value)} (h:w.ownsRow B e 6 v ps.length (ps.flatMap encT)) (hk:∀p∈ps,KB w p):TrB w v (ps.map (·.1)):=by
 have hr:=Rk.of_own encT_len h
 rcases h.2 with ⟨hv,hn⟩|⟨g,cap,cur,hv,hB,hg,hn,hm,hsz,ht⟩
 ·have:ps=[]:=List.eq_nil_of_length_eq_zero hn
  subst this
  exact⟨none,0,hv,⟨Nat.le_refl _,by omega⟩,Or.inl rfl⟩
 ·obtain⟨ao,cap',hv',hc',hx⟩:=hr
  rw[hv]at hv'
  simp only[Value.slice.injEq]at hv'
  obtain⟨rfl,_,rfl⟩:=hv'
  refine⟨some ⟨g,0,none⟩,cap,by rw[hv,List.length_map],⟨by rw[List.length_map];exact hn,by unfold maxLen at hm;omega⟩,?_⟩
  rcases hx with hx |⟨b,o,hbo,hlt,hcell⟩
  ·exact Or.inl (by rw[hx];rfl)
  ·simp only[Option.some.injEq,Addr.mk.injEq,and_true]at hbo
   obtain⟨rfl,rfl⟩:=hbo
   refine Or.inr ⟨g,0,rfl,hlt,trAll_of _ _ (fun i hi=>?_)⟩
   have hil:i<ps.length:=by simpa using hi
   have hc:=hcell i ps[i] (List.getElem?_eq_getElem hil)
   have htr:=hk ps[i] (List.getElem_mem hil)
   obtain⟨ak,ck,hkv⟩:=htr.tr.len
   rw[List.getElem_map]
   refine trOne_of (vl:=ps[i].2.1) (vs:=ps[i].2.2.1) (ao:=ak) (cap:=ck) ⟨hc 0 _ rfl,hc 1 _ rfl,hc 2 _ rfl,hc 3 _ rfl,hc 4 _ rfl,?_,htr.rd,htr.short,htr.sp,by rw[←hkv];exact htr.tr⟩
   rw[←hkv]
   exact hc 5 _ rfl
theorem encT_one {w:World} {ps:List (Bk × Value × Value × Value)} (hk:∀p∈ps,KB w p):∀u∈ps.flatMap encT,u.oneCell'=true:=by
 intro u hu
 obtain⟨p,hp,hu⟩:=List.mem_flatMap.1 hu
 obtain⟨ak,ck,hv⟩:=(hk p hp).tr.len
 obtain⟨al,cl,hv1⟩:=(hk p hp).rd.len
 obtain⟨as',cs,hv2⟩:=(hk p hp).sp.len
 simp[encT]at hu
 rcases hu with rfl |rfl |rfl |rfl |rfl |rfl
 ·rfl
 ·rfl
 ·rfl
 ·rw[hv1];rfl
 ·rw[hv2];rfl
 ·rw[hv];rfl
end Bt
namespace Bt
open Go.RowKit
open Tk (S S_of S_list S_size ret_int)
open Cm (calls_at)
open Bk (Bk)
mutual
def szOne:Bk→Nat
 |.mk _ _ _ _ _ l=>1+szAll l
def szAll:List Bk→Nat
 |[]=>0
 |x::r=>szOne x+szAll r
end
theorem szOne_eq (x:Bk):szOne x=1+szAll x.kids:=by obtain⟨k,lv,i,ls,ss,l⟩:=x;rw[szOne];rfl
theorem szAll_cons (x:Bk) (r:List Bk):szAll (x::r)=szOne x+szAll r:=by rw[szAll]
theorem szAll_mem:∀{l:List Bk} {x:Bk},x∈l→szOne x≤szAll l
 |[],x,h=>by cases h
 |y::r,x,h=>by
  rw[szAll_cons]
  rcases List.mem_cons.1 h with rfl |h
  ·omega
  ·have:=szAll_mem h;omega
theorem szAll_kids {l:List Bk} {x:Bk} (h:x∈l):szAll x.kids<szAll l:=by
 have h1:=szAll_mem h
 rw[szOne_eq]at h1
 omega
theorem szAll_len:∀l:List Bk,l.length≤szAll l
 |[]=>Nat.zero_le _
 |x::r=>by
  have:=szAll_len r
  rw[szAll_cons,szOne_eq,List.length_cons]
  omega
theorem drop_cons (l:List Bk) (k:Nat) (h:k<l.length):l.drop k=l[k]::l.drop (k+1):=List.drop_eq_getElem_cons h
mutual
def cntAll (n:Int):List Bk→Int
 |[]=>n
 |x::r=>cntAll (cntOne n x) r
def cntOne (n:Int):Bk→Int
 |.mk _ _ _ _ _ l=>IntKind.i64.wrap (n+cntAll (l.length:Int) l)
end
def cnt (l:List Bk):Int:=cntAll (l.length:Int) l
end Bt
namespace Bt
open Go.RowKit
open Tk (S S_of S_list S_size ret_int Rd)
open Cm (calls_at)
open Sp (Sp Tr ret_bool)
open Bk (Bk)
theorem Rd.at {w:World} {ao:Option Addr} {n c:Nat} {xs:List (List UInt8)} (h:Rd w (.slice ao n c) xs):∀j (hj:j<xs.length),∃b o,ao=some ⟨b,o,none⟩∧w.cell? ⟨b,o+j,none⟩=some (.string (S xs[j])):=by
 intro j hj
 obtain⟨ao',cap,hv,_,hx⟩:=h
 simp only[Value.slice.injEq]at hv
 obtain⟨rfl,_,_⟩:=hv
 rcases hx with hx |⟨b,o,rfl,_,hc⟩
 ·subst hx;exact absurd hj (Nat.not_lt_zero _)
 ·exact⟨b,o,rfl,hc j _ (List.getElem?_eq_getElem hj)⟩
end Bt
namespace Bt
open Go.RowKit
open Tk (S S_of S_list S_size ret_int)
open Cm (calls_at)
open Bk (Bk)
def boxB (k:Int):Bool:=decide (k=5)||decide (k=6)||decide (k=7)
mutual
def dpOne (n:Int):Bk→Int
 |.mk k _ _ _ _ l=>if boxB k=true then max n (IntKind.i64.wrap (1+dpAll 0 l))else max n (dpAll 0 l)
def dpAll (n:Int):List Bk→Int
 |[]=>n
 |x::r=>dpAll (dpOne n x) r
end
def dp (l:List Bk):Int:=dpAll 0 l
theorem dpAll_cons (n:Int) (x:Bk) (r:List Bk):dpAll n (x::r)=dpAll (if boxB x.kind=true then max n (IntKind.i64.wrap (1+dp x.kids))else max n (dp x.kids)) r:=by
 obtain⟨k,lv,i,ls,ss,l⟩:=x
 rw[dpAll,dpOne]
 rfl
end Bt
namespace Pa
open Go.RowKit
open Tk (S S_of S_list S_size S_toList S_app ret_int Rd)
open Cm (Rk Rk.of_own flat_get Keep own_keep cell_at alloc_new alloc_at lt_of_at own_obj newsK)
open Sp (Sp Tr)
open Bk (Bk Tx)
open Bt (TrB KB encT encT_len encT_one infoBk)
variable {α:Type} {k:Nat} {e:TypeId} {enc:α→List Value} {R:World→α→Prop}
structure OutG (k:Nat) (e:TypeId) (enc:α→List Value) (R:World→α→Prop) (B:Nat) (w:World) (v:Value) (ps:List α):Prop where
 size:B≤w.heap.size
 own:w.ownsRow B e k v ps.length (ps.flatMap enc)
 kid:∀p∈ps,∀w',Keep (fun j=>j<B∨some j=v.ownBlock) w w'→R w' p
theorem OutG.nil {B:Nat} {w:World} (h:B≤w.heap.size):OutG k e enc R B w (.slice none 0 0) []:=⟨h,World.ownsRow_nil _ _ _ _,fun p h=>by cases h⟩
theorem OutG.block {B:Nat} {w:World} {v:Value} {ps:List α} (h:OutG k e enc R B w v ps):∀j,v.ownBlock=some j→B≤j∧j<w.heap.size:=h.own.lt
theorem OutG.go {B:Nat} {w w':World} {v:Value} {ps:List α} (h:OutG k e enc R B w v ps) (hk:Keep (fun j=>j<B) w w'):OutG k e enc R B w' v ps:=
 ⟨Nat.le_trans h.size hk.size,own_keep h.own hk (fun g hg=>by have:=(h.block g hg).1;omega),fun p hp w'' k2=>h.kid p hp w'' ((hk.mono (fun j _ hj=>Or.inl hj)).trans k2)⟩
theorem OutG.at {B:Nat} {w:World} {v:Value} {ps:List α} (h:OutG k e enc R B w v ps):∀p∈ps,R w p:=fun p hp=>h.kid p hp w (Keep.refl _ _)
theorem OutG.rk {B:Nat} {w:World} {v:Value} {ps:List α} (h:OutG k e enc R B w v ps) (hk:∀x,(enc x).length=k):Rk k enc w v ps:=Rk.of_own hk h.own
def Fr {β:Type} (Q:World→Value→β→Prop) (B:Nat) (w:World) (v:Value) (x:β):Prop:=∀w',Keep (fun j=>j<B) w w'→Q w' v x
theorem Fr.now {β:Type} {Q:World→Value→β→Prop} {B:Nat} {w:World} {v:Value} {x:β} (h:Fr Q B w v x):Q w v x:=h w (Keep.refl _ _)
theorem Fr.go {β:Type} {Q:World→Value→β→Prop} {B:Nat} {w w':World} {v:Value} {x:β} (h:Fr Q B w v x) (hk:Keep (fun j=>j<B) w w'):Fr Q B w' v x:=fun w'' k2=>h w'' (hk.trans k2)
theorem Fr.mono {β:Type} {Q:World→Value→β→Prop} {B B':Nat} {w:World} {v:Value} {x:β} (h:Fr Q B' w v x) (hB:B≤B'):Fr Q B w v x:=fun w' k2=>h w' (k2.mono (fun j _ hj=>Nat.lt_of_lt_of_le hj hB))
theorem OutG.push {ts:TypeId} {zero:Value} {bytes:Nat} (hu:Tryz.prog.underlying ts=some (.slice e)) (hinfo:(Tryz.prog.info? e).map (fun i=>(i.zero,i.size,i.bytes))=some (some zero,k,bytes)) (hz:zero.cells.size=k) (hk0:0<k) (hby:bytes≤200)
  (hk:∀x,(enc x).length=k) {B:Nat} {w:World} {v:Value} {ps:List α} (h:OutG k e enc R B w v ps) {x:α} (hx:∀w',Keep (fun j=>j<B∨some j=v.ownBlock) w w'→R w' x) (h1:∀u∈enc x,u.oneCell'=true) (hl:ps.length+1≤1000000):
  ∃v' w',(∀ty,(Builtin.append_ #[ts,ts] ty #[v,.slice (some ⟨w.heap.size,0,none⟩) 1 1]).run Tryz.prog (w.alloc (.cells (enc x).toArray e))= .ok v' w')∧OutG k e enc R B w' v' (ps++[x])∧Keep (fun j=>some j=v.ownBlock) w w':=by
 obtain⟨i0,hi,hz0,hz1,hz2⟩:=info_parts hinfo
 have hsz:(w.alloc (.cells (enc x).toArray e)).heap.size=w.heap.size+1:=by simp
 have kAl:Keep (fun j=>some j=v.ownBlock) w (w.alloc (.cells (enc x).toArray e)):=(Keep.refl _ _).alloc _
 have hown:(w.alloc (.cells (enc x).toArray e)).ownsRow B e k v ps.length (ps.flatMap enc):=own_keep h.own (S:=fun j=>j<B) ((Keep.refl _ _).alloc _) (fun g hg=>by have:=(h.block g hg).1;omega)
 have hcells:∀j u,(enc x)[j]? = some u→(w.alloc (.cells (enc x).toArray e)).cell? (Addr.add ⟨w.heap.size,0,none⟩ j)=some u:=newsK
 have hb2:(ps.length+1)*bytes≤140737488355328:=by
  have:(ps.length+1)*bytes≤1000000*200:=Nat.mul_le_mul hl hby
  omega
 obtain⟨v',w',g1,g2,g3,_,g5⟩:=run_append_own_at (P:=Tryz.prog) (w:=w.alloc (.cells (enc x).toArray e)) B ts 0 e i0 zero k bytes hu hi hz0 hz1 hz2 hz hk0 v ps.length (ps.flatMap enc) hown ⟨w.heap.size,0,none⟩ 1 1 (enc x) (by rw[hk,Nat.one_mul]) hcells h1 (by unfold maxLen;omega) hb2 (by rw[hsz];have:=h.size;omega)
 have kG:Keep (fun j=>some j=v.ownBlock) w w':=kAl.grown g3 (fun j hj=>Or.inl hj.symm)
 have hkeep:∀p:α,(∀w',Keep (fun j=>j<B∨some j=v.ownBlock) w w'→R w' p)→∀w'',Keep (fun j=>j<B∨some j=v'.ownBlock) w' w''→R w'' p:=fun p hp w'' k2=>by
  refine hp w'' ⟨k2.os.trans kG.os,k2.tape.trans kG.tape,k2.output.trans kG.output,Nat.le_trans kG.size k2.size,fun j hj hS=>?_⟩
  rw[←kG.block j hj (fun h'=>hS (Or.inr h'))]
  refine k2.block j (Nat.lt_of_lt_of_le hj kG.size) (fun hS'=>?_)
  rcases hS' with h' |h'
  ·exact hS (Or.inl h')
  ·rcases g5 with hg |hg
   ·exact hS (Or.inr (by rw[h',hg]))
   ·rw[hg]at h'
    simp only[Option.some.injEq]at h'
    rw[hsz]at h'
    omega
 refine⟨v',w',fun ty=>g1,⟨Nat.le_trans h.size kG.size,?_,fun p hp=>?_⟩,kG⟩
 ·rw[List.length_append,List.flatMap_append]
  have:[x].flatMap enc=enc x:=by simp[List.flatMap_cons]
  rw[this]
  exact g2
 ·rcases List.mem_append.1 hp with hp |hp
  ·exact hkeep p (h.kid p hp)
  ·rw[List.mem_singleton]at hp
   subst hp
   exact hkeep p hx
theorem OutG.below {B:Nat} {w w':World} {v:Value} {ps:List α} (h:OutG k e enc R B w v ps) (hk:Keep (fun j=>some j=v.ownBlock) w w'):Below B w w':=
 hk.below (fun j hj=>(h.block j hj.symm).1) h.size
def OutB (B:Nat) (w:World) (v:Value) (ps:List (Bk × Value × Value × Value)):Prop:=OutG 6 46 encT KB B w v ps
theorem OutB.tr {B:Nat} {w:World} {v:Value} {ps:List (Bk × Value × Value × Value)} (h:OutB B w v ps):TrB w v (ps.map (·.1)):=TrB.of_own (OutG.own h) (OutG.at h)
theorem OutB.fresh {B:Nat} {w:World} {v:Value} {ps:List (Bk × Value × Value × Value)} (h:OutB B w v ps):Fr TrB B w v (ps.map (·.1)):=fun w' k2=>OutB.tr (OutG.go h k2)
theorem OutB.push {B:Nat} {w:World} {v:Value} {ps:List (Bk × Value × Value × Value)} (h:OutB B w v ps) {x:Bk × Value × Value × Value} (hx:∀w',Keep (fun j=>j<B∨some j=v.ownBlock) w w'→KB w' x) (hl:ps.length+1≤1000000):
  ∃v' w',(∀ty,(Builtin.append_ #[22,22] ty #[v,.slice (some ⟨w.heap.size,0,none⟩) 1 1]).run Tryz.prog (w.alloc (.cells #[.int .i64 x.1.kind,.int .i64 x.1.level,.string (S x.1.info),x.2.1,x.2.2.1,x.2.2.2] 46))= .ok v' w')∧OutB B w' v' (ps++[x])∧Keep (fun j=>some j=v.ownBlock) w w':=
 OutG.push (ts:=22) Tryz.underlying22 infoBk rfl (by decide) (by decide) encT_len h hx (by
  have h2:=encT_one (w:=w) (ps:=[x]) (fun p hp=>by rw[List.mem_singleton]at hp;subst hp;exact hx w (Keep.refl _ _))
  have:[x].flatMap encT=encT x:=by simp[List.flatMap_cons]
  rwa[this]at h2) hl
def encX (x:Tx):List Value:=[.string (S x)]
theorem encX_map:∀l:List Tx,l.flatMap encX=l.map encStr
 |[]=>rfl
 |x::r=>by rw[List.flatMap_cons,encX_map r];rfl
def OutS (B:Nat) (w:World) (v:Value) (l:List Tx):Prop:=OutG 1 9 encX (fun _ _=>True) B w v l
theorem OutS.rd {B:Nat} {w:World} {v:Value} {l:List Tx} (h:OutS B w v l):Rd w v l:=by
 have:=OutG.own h
 rw[encX_map]at this
 exact Rd.of_own this
theorem OutS.fresh {B:Nat} {w:World} {v:Value} {l:List Tx} (h:OutS B w v l):Fr Rd B w v l:=fun w' k2=>OutS.rd (OutG.go h k2)
theorem infoX:(Tryz.prog.info? 9).map (fun i=>(i.zero,i.size,i.bytes))=some (some (.string ⟨#[]⟩),1,16):=by kernel_rfl
theorem OutS.push {B:Nat} {w:World} {v:Value} {l:List Tx} (h:OutS B w v l) (x:Tx) (hl:l.length+1≤1000000):
  ∃v' w',(∀ty,(Builtin.append_ #[23,23] ty #[v,.slice (some ⟨w.heap.size,0,none⟩) 1 1]).run Tryz.prog (w.alloc (.cells #[.string (S x)] 9))= .ok v' w')∧OutS B w' v' (l++[x])∧Keep (fun j=>some j=v.ownBlock) w w':=
 OutG.push (ts:=23) Tryz.underlying23 infoX rfl (by decide) (by decide) (fun _=>rfl) h (fun _ _=>trivial) (fun u hu=>by rw[encX,List.mem_singleton]at hu;subst hu;rfl) hl
end Pa
end Go.Proofs.YthpnbialpkkpgaaGreatDoor
