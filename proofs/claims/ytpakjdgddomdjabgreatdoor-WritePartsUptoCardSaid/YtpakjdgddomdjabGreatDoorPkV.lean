import Derived.Test.YtpakjdgddomdjabGreatDoorPkA
import Derived.Test.YtpakjdgddomdjabGreatDoorPkB
import Derived.Test.YtpakjdgddomdjabGreatDoorPkF
import Derived.Test.YtpakjdgddomdjabGreatDoorPkE
import Derived.BigQuiet
import Derived.Deep.Cut
import Derived.Deep.CutRange
import Derived.Deep.CutBlock
import Derived.Maps.AppendAt
set_option linter.unusedVariables false
namespace Go.Proofs.YtpakjdgddomdjabGreatDoor
namespace Bt
open Go.RowKit Go.ChangeShapes Go.WideShapes Go.ChangeAt
open Tk (S S_of Rd)
open Sp (Sp Tr cellsInt cellsStr cellsSps mem_all)
open Bk (Bk)
mutual
def trOne (w:World) (b o:Nat):Bk→Prop
 |.mk k lv i ls ss l=>w.cell? ⟨b,o,none⟩=some (.int .i64 k)∧w.cell? ⟨b,o+1,none⟩=some (.int .i64 lv)∧w.cell? ⟨b,o+2,none⟩=some (.string (S i))∧
  (∃v,w.cell? ⟨b,o+3,none⟩=some v∧Rd w v ls∧ls.length≤9223372036854775807)∧(∃v,w.cell? ⟨b,o+4,none⟩=some v∧Tr w v ss)∧
  ∃ao cap,w.cell? ⟨b,o+5,none⟩=some (.slice ao l.length cap)∧(l.length≤cap∧cap≤9223372036854775807)∧(l=[]∨∃b' o',ao=some ⟨b',o',none⟩∧b'<w.heap.size∧trAll w b' o' l)
def trAll (w:World) (b o:Nat):List Bk→Prop
 |[]=>True
 |x::r=>trOne w b o x∧trAll w b (o+6) r
end
def TrB (w:World) (v:Value) (l:List Bk):Prop:=
 ∃ao cap,v=.slice ao l.length cap∧(l.length≤cap∧cap≤9223372036854775807)∧(l=[]∨∃b o,ao=some ⟨b,o,none⟩∧b<w.heap.size∧trAll w b o l)
theorem TrB.len {w:World} {v:Value} {l:List Bk} (h:TrB w v l):∃ao cap,v=.slice ao l.length cap:=by
 obtain⟨ao,cap,hv,_⟩:=h;exact⟨ao,cap,hv⟩
theorem TrB.short {w:World} {v:Value} {l:List Bk} (h:TrB w v l):l.length≤9223372036854775807:=by
 obtain⟨_,_,_,hc,_⟩:=h;omega
mutual
theorem trOne_below {w w':World} (hb:Below w.heap.size w w'):∀(x:Bk) (b o:Nat),b<w.heap.size→trOne w b o x→trOne w' b o x
 |.mk k lv i ls ss l,b,o,hlt,h=>by
  unfold trOne at h ⊢;obtain⟨h0,h1,h2,⟨v3,h3,r3,n3⟩,⟨v4,h4,r4⟩,ao,cap,h5,hc,h6⟩:=h;refine⟨(hb.cell (by exact hlt)).trans h0,(hb.cell (by exact hlt)).trans h1,(hb.cell (by exact hlt)).trans h2,⟨v3,(hb.cell (by exact hlt)).trans h3,r3.below hb,n3⟩,⟨v4,(hb.cell (by exact hlt)).trans h4,r4.below hb⟩,ao,cap,(hb.cell (by exact hlt)).trans h5,hc,?_⟩;rcases h6 with h6 |⟨b',o',ha,hl,h6⟩
  ·exact Or.inl h6
  ·exact Or.inr ⟨b',o',ha,Nat.lt_of_lt_of_le hl hb.size,trAll_below hb l b' o' hl h6⟩
theorem trAll_below {w w':World} (hb:Below w.heap.size w w'):∀(l:List Bk) (b o:Nat),b<w.heap.size→trAll w b o l→trAll w' b o l
 |[],_,_,_,_=>by unfold trAll;trivial
 |x::r,b,o,hlt,h=>by
  unfold trAll at h ⊢;exact⟨trOne_below hb x b o hlt h.1,trAll_below hb r b (o+6) hlt h.2⟩
end
theorem TrB.below {w w':World} {v:Value} {l:List Bk} (h:TrB w v l) (hb:Below w.heap.size w w'):TrB w' v l:=by
 obtain⟨ao,cap,hv,hc,h⟩:=h;refine⟨ao,cap,hv,hc,?_⟩;rcases h with h |⟨b,o,ha,hl,h⟩
 ·exact Or.inl h
 ·exact Or.inr ⟨b,o,ha,Nat.lt_of_lt_of_le hl hb.size,trAll_below hb l b o hl h⟩
theorem TrB.drewN {w:World} {v:Value} {l:List Bk} (h:TrB w v l) (n:Nat):TrB (w.drewN n) v l:=h.below (below_drewN (Below.refl _ _) n)
theorem trAll_at {w:World} {b:Nat}:∀(l:List Bk) (o:Nat),trAll w b o l→∀i (hi:i<l.length),trOne w b (o+i*6) l[i]
 |[],_,_,i,hi=>absurd hi (Nat.not_lt_zero _)
 |x::r,o,h,0,_=>by unfold trAll at h;simpa using h.1
 |x::r,o,h,i+1,hi=>by
  unfold trAll at h;have:=trAll_at r (o+6) h.2 i (by simpa using hi);rw[show o+(i+1)*6=o+6+i*6 by omega]
  simpa using this
theorem trAll_of {w:World} {b:Nat}:∀(l:List Bk) (o:Nat),(∀i (hi:i<l.length),trOne w b (o+i*6) l[i])→trAll w b o l
 |[],_,_=>by unfold trAll;trivial
 |x::r,o,h=>by
  unfold trAll;refine⟨h 0 (by simp),trAll_of r (o+6) (fun i hi=>?_)⟩;have:=h (i+1) (by simpa using hi);rw[show o+(i+1)*6=o+6+i*6 by omega]at this
  simpa using this
structure Cells (w:World) (b o:Nat) (x:Bk) (vl vs:Value) (ao:Option Addr) (cap:Nat):Prop where
 kind:w.cell? ⟨b,o,none⟩=some (.int .i64 x.kind)
 level:w.cell? ⟨b,o+1,none⟩=some (.int .i64 x.level)
 info:w.cell? ⟨b,o+2,none⟩=some (.string (S x.info))
 lines:w.cell? ⟨b,o+3,none⟩=some vl
 spans:w.cell? ⟨b,o+4,none⟩=some vs
 kids:w.cell? ⟨b,o+5,none⟩=some (.slice ao x.kids.length cap)
 rd:Rd w vl x.lines
 short:x.lines.length≤9223372036854775807
 sp:Tr w vs x.spans
 tr:TrB w (.slice ao x.kids.length cap) x.kids
theorem trOne_cells {w:World} {b o:Nat} {x:Bk} (h:trOne w b o x):∃vl vs ao cap,Cells w b o x vl vs ao cap:=by
 obtain⟨k,lv,i,ls,ss,l⟩:=x;unfold trOne at h;obtain⟨h0,h1,h2,⟨v3,h3,r3,n3⟩,⟨v4,h4,r4⟩,ao,cap,h5,hc,h6⟩:=h;exact⟨v3,v4,ao,cap,h0,h1,h2,h3,h4,h5,r3,n3,r4,⟨ao,cap,rfl,hc,h6⟩⟩
theorem trOne_of {w:World} {b o:Nat} {x:Bk} {vl vs:Value} {ao:Option Addr} {cap:Nat} (h:Cells w b o x vl vs ao cap):trOne w b o x:=by
 obtain⟨k,lv,i,ls,ss,l⟩:=x;obtain⟨h0,h1,h2,h3,h4,h5,r3,n3,r4,ao',cap',hv,hc,h6⟩:=h;simp only[Value.slice.injEq]at hv;obtain⟨rfl,_,rfl⟩:=hv;unfold trOne;exact⟨h0,h1,h2,⟨vl,h3,r3,n3⟩,⟨vs,h4,r4⟩,ao,cap,h5,hc,h6⟩
theorem TrB.at {w:World} {ao:Option Addr} {n c:Nat} {l:List Bk} (h:TrB w (.slice ao n c) l):∀i (hi:i<l.length),∃b o vl vs ak ck,ao=some ⟨b,o,none⟩∧b<w.heap.size∧Cells w b (o+i*6) l[i] vl vs ak ck:=by
 intro i hi;obtain⟨ao',cap',hv,_,hx⟩:=h;simp only[Value.slice.injEq]at hv;obtain⟨rfl,_,_⟩:=hv;rcases hx with hx |⟨b,o,rfl,hb,hx⟩
 ·subst hx;exact absurd hi (Nat.not_lt_zero _)
 ·obtain⟨vl,vs,ak,ck,hc⟩:=trOne_cells (trAll_at l o hx i hi)
  exact⟨b,o,vl,vs,ak,ck,rfl,hb,hc⟩
mutual
def fitOne (R:Nat):Bk→Prop
 |.mk k lv i ls ss l=>(-9223372036854775808≤k∧k≤9223372036854775807)∧(-9223372036854775808≤lv∧lv≤9223372036854775807)∧i.length≤R∧(∀s∈ls,s.length≤R)∧Sp.fitAll R ss∧fitAll R l
def fitAll (R:Nat):List Bk→Prop
 |[]=>True
 |x::r=>fitOne R x∧fitAll R r
end
theorem fitAll_at {R:Nat}:∀{l:List Bk},fitAll R l→∀x∈l,fitOne R x
 |[],_,x,hx=>by cases hx
 |y::r,h,x,hx=>by
  unfold fitAll at h;rcases List.mem_cons.1 hx with rfl |hx
  ·exact h.1
  ·exact fitAll_at h.2 x hx
theorem fitAll_of {R:Nat}:∀{l:List Bk},(∀x∈l,fitOne R x)→fitAll R l
 |[],_=>by unfold fitAll;trivial
 |y::r,h=>by
  unfold fitAll;exact⟨h y (List.mem_cons_self ..),fitAll_of (fun x hx=>h x (List.mem_cons_of_mem _ hx))⟩
theorem fitOne_eq {R:Nat} {x:Bk}:fitOne R x↔(-9223372036854775808≤x.kind∧x.kind≤9223372036854775807)∧(-9223372036854775808≤x.level∧x.level≤9223372036854775807)∧x.info.length≤R∧(∀s∈x.lines,s.length≤R)∧Sp.fitAll R x.spans∧fitAll R x.kids:=by
 obtain⟨k,lv,i,ls,ss,l⟩:=x;rw[fitOne];rfl
def lnTot:List (List UInt8)→Nat
 |[]=>0
 |s::r=>1+s.length+lnTot r
mutual
def ttOne:Bk→Nat
 |.mk _ _ i ls ss l=>1+i.length+lnTot ls+Sp.totAll ss+ttAll l
def ttAll:List Bk→Nat
 |[]=>0
 |x::r=>ttOne x+ttAll r
end
theorem ttOne_eq (x:Bk):ttOne x=1+x.info.length+lnTot x.lines+Sp.totAll x.spans+ttAll x.kids:=by obtain⟨k,lv,i,ls,ss,l⟩:=x;rw[ttOne];rfl
theorem ttAll_cons (x:Bk) (r:List Bk):ttAll (x::r)=ttOne x+ttAll r:=by rw[ttAll]
structure Bulk {H:Type} (f:DataW H→Nat) (fa:List (DataW H)→Nat):Prop where
 str:∀b,b.length+1≤f (.lit (.string b))
 strp:∀b,0<f (.lit (.string b))
 slice:∀e s,fa e≤f (.slice e s)
 agg:∀p,fa p+1≤f (.agg p)
 cons:∀d r,fa (d::r)=f d+fa r
 nil:fa []=0
theorem Bulk.sum {H:Type} {f:DataW H→Nat} {fa:List (DataW H)→Nat} (B:Bulk f fa) {α:Type} (g:α→Nat):∀(L:List α) (D:List (DataW H)),L.length=D.length→(∀i (hi:i<L.length) (hi':i<D.length),g L[i]≤f D[i])→(L.map g).sum≤fa D
 |[],[],_,_=>by simp
 |x::L,d::D,h,hg=>by
  rw[B.cons,List.map_cons,List.sum_cons];have h0:=hg 0 (by simp) (by simp);have h1:=Bulk.sum B g L D (by simpa using h) (fun i hi hi'=>by have:=hg (i+1) (by simpa using hi) (by simpa using hi');simpa using this);simp only[List.getElem_cons_zero]at h0;omega
theorem sum_le:∀(L M:List Nat),L.length=M.length→(∀i (hi:i<L.length) (hi':i<M.length),L[i]≤M[i])→L.sum≤M.sum
 |[],[],_,_=>by simp
 |x::L,d::D,h,hg=>by
  rw[List.sum_cons,List.sum_cons];have h0:=hg 0 (by simp) (by simp);have h1:=sum_le L D (by simpa using h) (fun i hi hi'=>by have:=hg (i+1) (by simpa using hi) (by simpa using hi');simpa using this);simp only[List.getElem_cons_zero]at h0;omega
theorem Bulk.one {H:Type} {f:DataW H→Nat} {fa:List (DataW H)→Nat} (B:Bulk f fa):∀D:List (DataW H),fa D=(D.map f).sum
 |[]=>by simp[B.nil]
 |d::r=>by rw[B.cons,List.map_cons,List.sum_cons,←Bulk.one B r]
theorem sp_sum:∀l:List Sp,Sp.totAll l=(l.map Sp.totOne).sum
 |[]=>by rw[Sp.totAll];rfl
 |x::r=>by rw[Sp.totAll_cons,sp_sum r];simp
theorem tt_sum:∀l:List Bk,ttAll l=(l.map ttOne).sum
 |[]=>by rw[ttAll];rfl
 |x::r=>by rw[ttAll_cons,tt_sum r];simp
theorem ln_sum:∀l:List (List UInt8),lnTot l=(l.map (fun s=>1+s.length)).sum
 |[]=>by rw[lnTot];rfl
 |x::r=>by rw[lnTot,ln_sum r];simp
theorem cellsStrs:Tryz.prog.cellsOf 31=1:=by kernel_rfl
theorem cellsBks:Tryz.prog.cellsOf 22=1:=by kernel_rfl
theorem cellsBk:Tryz.prog.cellsOf 40=6:=by kernel_rfl
set_option maxRecDepth 100000 in
theorem sp_fuel {H:Type} {enc:TypeId × Value→H} {W:World} {base:Nat} {sp:Nat→Bool} {held:Bool} (fuel:Nat):∀(v:Value) (x:DataW H × List MemPlace),
  DataW.trod enc Tryz.prog W base sp held fuel 38 [v]=some x→∃l:List Sp,Tr W v l∧((∀n∈x.1.weights Tryz.prog 38,n≤reachBytes)→Sp.fitAll reachBytes l)∧∀(f:DataW H→Nat) (fa:List (DataW H)→Nat),Bulk f fa→Sp.totAll l≤f x.1:=by
 induction fuel using Nat.strongRecOn with
 |ind fuel ih=>
  intro v x h;rcases DataW.trod_slice Tryz.underlying38 h with ⟨hcs,hx⟩|⟨a,len,cap,elems,rest,n,hn,hcs,hx,hbase,hl,hm,hlen,hel,_,_⟩
  ·simp at hcs
   subst hcs;exact⟨[],⟨none,0,rfl,⟨Nat.le_refl _,by omega⟩,Or.inl rfl⟩,fun _=>by unfold Sp.fitAll;trivial,fun f fa B=>by rw[Sp.totAll];omega⟩
  ·simp at hcs
   subst hcs
   have hsp:0<len→a.spot=none:=by
    intro h0;have hi2:=hel 0 h0;have hil:0<elems.length:=by omega
    rw[List.getElem?_eq_getElem hil]at hi2;obtain⟨cs',hc1,hc2⟩:=Option.bind_eq_some_iff.1 hi2;rw[Sp.cellsSp]at hc1;obtain⟨_,hcl,hcell⟩:=World.cells?_some hc1
    match cs',hcl with
    |[c0,c1,c2],_=>
     have e0:=hcell 0 (by omega)
     simpa [Addr.add]using World.cell?_spot e0
   have each:∀i,i<len→∃(y:Sp),Sp.trOne W a.block (a.off+i*3) y∧a.spot=none∧a.block<W.heap.size∧((∀n∈x.1.weights Tryz.prog 38,n≤reachBytes)→Sp.fitOne reachBytes y)∧(∀(f:DataW H→Nat) (fa:List (DataW H)→Nat),Bulk f fa→∀hi:i<elems.length,Sp.totOne y≤f (elems[i]).1):=by
    intro i hi;have hi2:=hel i hi;have hil:i<elems.length:=by omega
    rw[List.getElem?_eq_getElem hil]at hi2;obtain⟨cs',hc1,hc2⟩:=Option.bind_eq_some_iff.1 hi2;rw[Sp.cellsSp]at hc1;have hblk:=World.cells?_block hc1 (by omega);obtain⟨_,hcl,hcell⟩:=World.cells?_some hc1;obtain⟨ys,k,hk,hxy,_,hyl,hf⟩:=DataW.trod_struct Tryz.underlying71 hc2
    match ys,hyl,cs',hcl with
    |[y0,y1,y2],_,[c0,c1,c2],_=>
     have g0:=hf 0 _ rfl;have g1:=hf 1 _ rfl;have g2:=hf 2 _ rfl;simp[cellsInt,cellsStr,cellsSps]at g0 g1 g2;have e0:=hcell 0 (by omega);have e1:=hcell 1 (by omega);have e2:=hcell 2 (by omega);obtain⟨b,off,spot⟩:=a;have hspot:spot=none:=hsp (by omega);subst hspot;rw[Go.Deep.add_add,add_plain]at e0 e1 e2;rw[add_plain]at hblk;simp at e0 e1 e2;obtain⟨z,q0,hy0,hz⟩:=DataW.trod_int Tryz.underlying3 g0;simp at q0;subst q0;obtain⟨s,q1,hy1,_⟩:=DataW.trod_string Tryz.underlying9 g1;simp at q1;subst q1;obtain⟨l,ht,hfit,hbk⟩:=ih k (by omega) c2 y2 g2;have ht':=ht;obtain⟨ao,ck,rfl,hck,htr⟩:=ht';refine⟨.mk z s.data.toList l,?_,rfl,hblk,fun hw=>?_,fun f fa B hi'=>?_⟩
     ·unfold Sp.trOne
      exact⟨e0,by rw[S_of,Nat.add_assoc];exact e1,ao,ck,by rw[Nat.add_assoc];exact e2,hck,htr⟩
     ·have hmem:(elems[i]).1∈elems.map (·.1):=List.mem_map.2 ⟨_,List.getElem_mem hil,rfl⟩
      have hall:∀m∈(elems[i]).1.weights Tryz.prog 71,m≤reachBytes:=fun m hm'=>hw m (by
       rw[hx];simp only[DataW.weights,Tryz.underlying38,List.mem_cons,List.mem_append];exact Or.inr (Or.inl (mem_all hm' hmem)))
      rw[hxy]at hall;simp only[DataW.weights,Tryz.underlying71,List.map_cons,List.map_nil,DataW.weightsEach,List.mem_append]at hall;have hz':-9223372036854775808≤z∧z≤9223372036854775807:=by simpa [Lit.wf,IntKind.min,IntKind.max,IntKind.signed,IntKind.bits]using hz
      unfold Sp.fitOne;refine⟨hz',?_,hfit (fun m hm'=>hall m ?_)⟩
      ·refine hall _ ?_
       rw[hy1];simp[DataW.weights]
      ·simp[hm']
     ·rw[hxy]
      have h1:=B.agg (List.map (·.1) [y0,y1,y2]);simp only[List.map_cons,List.map_nil,B.cons]at h1;have h2:=hbk f fa B;have h3:=B.str s.data.toList;rw[hy1]at h1;simp only at h1 h3;rw[Sp.totOne_eq];simp only[Sp.s,Sp.kids];simp only[List.map_cons,List.map_nil];rw[hy1];dsimp only;omega
   have build:∀m,m≤len→∃L:List Sp,L.length=m∧(∀i (hi:i<L.length),Sp.trOne W a.block (a.off+i*3) L[i])∧(∀i (hi:i<L.length),(∀n∈x.1.weights Tryz.prog 38,n≤reachBytes)→Sp.fitOne reachBytes L[i])∧(∀(f:DataW H→Nat) (fa:List (DataW H)→Nat),Bulk f fa→∀i (hi:i<L.length) (hi':i<elems.length),Sp.totOne L[i]≤f (elems[i]).1):=by
    intro m;induction m with
    |zero=>exact fun _=>⟨[],rfl,fun i hi=>absurd hi (Nat.not_lt_zero _),fun i hi=>absurd hi (Nat.not_lt_zero _),fun _ _ _ i hi=>absurd hi (Nat.not_lt_zero _)⟩
    |succ m ihm=>
     intro hm';obtain⟨L,hL,h1,h2,h3⟩:=ihm (by omega);obtain⟨y,hy,_,_,hyf,hyb⟩:=each m (by omega);refine⟨L++[y],by simp[hL],fun i hi=>?_,fun i hi hw=>?_,fun f fa B i hi hi'=>?_⟩
     ·by_cases him:i<L.length
      ·rw[List.getElem_append_left him];exact h1 i him
      ·have:i=L.length:=by simp at hi;omega
       subst this;rw[List.getElem_append_right (Nat.le_refl _)]
       simpa [hL]using hy
     ·by_cases him:i<L.length
      ·rw[List.getElem_append_left him];exact h2 i him hw
      ·have:i=L.length:=by simp at hi;omega
       subst this;rw[List.getElem_append_right (Nat.le_refl _)]
       simpa using hyf hw
     ·by_cases him:i<L.length
      ·have:=h3 f fa B i him hi'
       rw[List.getElem_append_left him];exact this
      ·have:i=L.length:=by simp at hi;omega
       subst this;rw[List.getElem_append_right (Nat.le_refl _)];have hh:=hyb f fa B (by omega);simp only[←hL]at hh
       simpa using hh
   obtain⟨L,hL,h1,h2,h3⟩:=build len (Nat.le_refl _);refine⟨L,⟨some a,cap,by rw[hL],⟨by omega,by unfold maxLen at hm;omega⟩,?_⟩,fun hw=>Sp.fitAll_of (fun y hy=>?_),fun f fa B=>?_⟩
   ·by_cases h0:len=0
    ·exact Or.inl (List.eq_nil_of_length_eq_zero (by omega))
    ·obtain⟨_,_,hsp0,hlt,_,_⟩:=each 0 (by omega)
     obtain⟨b,off,spot⟩:=a;simp only at hsp0;subst hsp0;exact Or.inr ⟨b,off,rfl,hlt,Sp.trAll_of L off h1⟩
   ·obtain⟨i,hi,rfl⟩:=List.getElem_of_mem hy
    exact h2 i hi hw
   ·rw[hx]
    refine Nat.le_trans ?_ (B.slice _ _);rw[sp_sum];refine B.sum Sp.totOne L _ (by rw[List.length_map];omega) (fun i hi hi'=>?_);rw[List.getElem_map];exact h3 f fa B i hi (by simpa using hi')
set_option maxRecDepth 100000 in
theorem rd_fuel {H:Type} {enc:TypeId × Value→H} {W:World} {base:Nat} {sp:Nat→Bool} {held:Bool} (fuel:Nat) (v:Value) (x:DataW H × List MemPlace)
  (h:DataW.trod enc Tryz.prog W base sp held fuel 31 [v]=some x):
  ∃xs:List (List UInt8),Rd W v xs∧xs.length≤9223372036854775807∧((∀n∈x.1.weights Tryz.prog 31,n≤reachBytes)→∀y∈xs,y.length≤reachBytes)∧∀(f:DataW H→Nat) (fa:List (DataW H)→Nat),Bulk f fa→lnTot xs≤f x.1:=by
 rcases DataW.trod_slice Tryz.underlying31 h with ⟨hcs,hx⟩|⟨a,len,cap,elems,rest,n,hn,hcs,hx,hbase,hl,hm,hlen,hel,_,_⟩
 ·simp at hcs
  subst hcs;exact⟨[],⟨none,0,rfl,Nat.le_refl _,Or.inl rfl⟩,by simp,fun _ y hy=>(by cases hy),fun f fa B=>by rw[lnTot];omega⟩
 ·simp at hcs
  subst hcs
  have hsp:0<len→a.spot=none:=by
   intro h0;have hi2:=hel 0 h0;have hil:0<elems.length:=by omega
   rw[List.getElem?_eq_getElem hil]at hi2;obtain⟨cs',hc1,hc2⟩:=Option.bind_eq_some_iff.1 hi2;rw[cellsStr]at hc1;obtain⟨_,hcl,hcell⟩:=World.cells?_some hc1
   match cs',hcl with
   |[c0],_=>
    have e0:=hcell 0 (by omega)
    simpa [Addr.add]using World.cell?_spot e0
  have each:∀i,i<len→∃y:List UInt8,a.spot=none∧a.block<W.heap.size∧W.cell? ⟨a.block,a.off+i,none⟩=some (.string (S y))∧((∀n∈x.1.weights Tryz.prog 31,n≤reachBytes)→y.length≤reachBytes)∧(∀(f:DataW H→Nat) (fa:List (DataW H)→Nat),Bulk f fa→∀hi:i<elems.length,1+y.length≤f (elems[i]).1):=by
   intro i hi;have hi2:=hel i hi;have hil:i<elems.length:=by omega
   rw[List.getElem?_eq_getElem hil]at hi2;obtain⟨cs',hc1,hc2⟩:=Option.bind_eq_some_iff.1 hi2;rw[cellsStr]at hc1;have hblk:=World.cells?_block hc1 (by omega);obtain⟨_,hcl,hcell⟩:=World.cells?_some hc1
   match cs',hcl with
   |[c0],_=>
    have e0:=hcell 0 (by omega);obtain⟨b,off,spot⟩:=a;have hspot:spot=none:=hsp (by omega);subst hspot;rw[Go.Deep.add_add,add_plain]at e0;rw[add_plain]at hblk;simp at e0;obtain⟨s,q0,hy0,_⟩:=DataW.trod_string Tryz.underlying9 hc2;simp at q0;subst q0;refine⟨s.data.toList,rfl,hblk,by rw[S_of];exact e0,fun hw=>?_,fun f fa B hi'=>by rw[hy0];have h1:=B.str s.data.toList;have h2:=B.strp s.data.toList;simp only at h1 h2 ⊢;omega⟩;have hmem:(elems[i]).1∈elems.map (·.1):=List.mem_map.2 ⟨_,List.getElem_mem hil,rfl⟩;refine hw _ ?_;rw[hx];simp only[DataW.weights,Tryz.underlying31,List.mem_cons,List.mem_append];refine Or.inr (Or.inl (mem_all ?_ hmem));rw[hy0];simp[DataW.weights]
  have build:∀m,m≤len→∃L:List (List UInt8),L.length=m∧(∀i (hi:i<L.length),W.cell? ⟨a.block,a.off+i,none⟩=some (.string (S L[i])))∧((∀n∈x.1.weights Tryz.prog 31,n≤reachBytes)→∀y∈L,y.length≤reachBytes)∧(∀(f:DataW H→Nat) (fa:List (DataW H)→Nat),Bulk f fa→∀i (hi:i<L.length) (hi':i<elems.length),1+(L[i]).length≤f (elems[i]).1):=by
   intro m;induction m with
   |zero=>exact fun _=>⟨[],rfl,fun i hi=>absurd hi (Nat.not_lt_zero _),fun _ y hy=>(by cases hy),fun _ _ _ i hi=>absurd hi (Nat.not_lt_zero _)⟩
   |succ m ihm=>
    intro hm';obtain⟨L,hL,h1,h2,h3⟩:=ihm (by omega);obtain⟨y,_,_,hy,hyf,hyb⟩:=each m (by omega);refine⟨L++[y],by simp[hL],fun i hi=>?_,fun hw z hz=>?_,fun f fa B i hi hi'=>?_⟩
    ·by_cases him:i<L.length
     ·rw[List.getElem_append_left him];exact h1 i him
     ·have:i=L.length:=by simp at hi;omega
      subst this;rw[List.getElem_append_right (Nat.le_refl _)]
      simpa [hL]using hy
    ·rcases List.mem_append.1 hz with hz |hz
     ·exact h2 hw z hz
     ·rw[List.mem_singleton.1 hz];exact hyf hw
    ·by_cases him:i<L.length
     ·have:=h3 f fa B i him hi'
      rw[List.getElem_append_left him];exact this
     ·have:i=L.length:=by simp at hi;omega
      subst this;rw[List.getElem_append_right (Nat.le_refl _)];have hh:=hyb f fa B (by omega);simp only[←hL]at hh
      simpa using hh
  obtain⟨L,hL,h1,h2,h3⟩:=build len (Nat.le_refl _);unfold maxLen at hm;refine⟨L,⟨some a,cap,by rw[hL],by omega,?_⟩,by omega,h2,fun f fa B=>?_⟩
  rotate_left
  ·rw[hx]
   refine Nat.le_trans ?_ (B.slice _ _);rw[ln_sum];rw[B.one];refine sum_le _ _ (by simp;omega) (fun i hi hi'=>?_);simp only[List.getElem_map];exact h3 f fa B i (by simpa using hi) (by simpa using hi')
  by_cases h0:len=0
  ·exact Or.inl (List.eq_nil_of_length_eq_zero (by omega))
  ·obtain⟨_,hsp0,hlt,_,_,_⟩:=each 0 (by omega)
   obtain⟨b,off,spot⟩:=a;simp only at hsp0;subst hsp0;refine Or.inr ⟨b,off,rfl,hlt,fun j y hj=>?_⟩;obtain⟨hjl,rfl⟩:=List.getElem?_eq_some_iff.1 hj;exact h1 j hjl
set_option maxRecDepth 100000 in
theorem open_fuel {H:Type} {enc:TypeId × Value→H} {W:World} {base:Nat} {sp:Nat→Bool} {held:Bool} (fuel:Nat):∀(v:Value) (x:DataW H × List MemPlace),
  DataW.trod enc Tryz.prog W base sp held fuel 22 [v]=some x→∃l:List Bk,TrB W v l∧((∀n∈x.1.weights Tryz.prog 22,n≤reachBytes)→fitAll reachBytes l)∧∀(f:DataW H→Nat) (fa:List (DataW H)→Nat),Bulk f fa→ttAll l≤f x.1:=by
 induction fuel using Nat.strongRecOn with
 |ind fuel ih=>
  intro v x h;rcases DataW.trod_slice Tryz.underlying22 h with ⟨hcs,hx⟩|⟨a,len,cap,elems,rest,n,hn,hcs,hx,hbase,hl,hm,hlen,hel,_,_⟩
  ·simp at hcs
   subst hcs;exact⟨[],⟨none,0,rfl,⟨Nat.le_refl _,by omega⟩,Or.inl rfl⟩,fun _=>by unfold fitAll;trivial,fun f fa B=>by rw[ttAll];omega⟩
  ·simp at hcs
   subst hcs
   have hsp:0<len→a.spot=none:=by
    intro h0;have hi2:=hel 0 h0;have hil:0<elems.length:=by omega
    rw[List.getElem?_eq_getElem hil]at hi2;obtain⟨cs',hc1,hc2⟩:=Option.bind_eq_some_iff.1 hi2;rw[cellsBk]at hc1;obtain⟨_,hcl,hcell⟩:=World.cells?_some hc1
    match cs',hcl with
    |[c0,c1,c2,c3,c4,c5],_=>
     have e0:=hcell 0 (by omega)
     simpa [Addr.add]using World.cell?_spot e0
   have each:∀i,i<len→∃(y:Bk),trOne W a.block (a.off+i*6) y∧a.spot=none∧a.block<W.heap.size∧((∀n∈x.1.weights Tryz.prog 22,n≤reachBytes)→fitOne reachBytes y)∧(∀(f:DataW H→Nat) (fa:List (DataW H)→Nat),Bulk f fa→∀hi:i<elems.length,ttOne y≤f (elems[i]).1):=by
    intro i hi;have hi2:=hel i hi;have hil:i<elems.length:=by omega
    rw[List.getElem?_eq_getElem hil]at hi2;obtain⟨cs',hc1,hc2⟩:=Option.bind_eq_some_iff.1 hi2;rw[cellsBk]at hc1;have hblk:=World.cells?_block hc1 (by omega);obtain⟨_,hcl,hcell⟩:=World.cells?_some hc1;obtain⟨ys,k,hk,hxy,_,hyl,hf⟩:=DataW.trod_struct Tryz.underlying40 hc2
    match ys,hyl,cs',hcl with
    |[y0,y1,y2,y3,y4,y5],_,[c0,c1,c2,c3,c4,c5],_=>
     have g0:=hf 0 _ rfl;have g1:=hf 1 _ rfl;have g2:=hf 2 _ rfl;have g3:=hf 3 _ rfl;have g4:=hf 4 _ rfl;have g5:=hf 5 _ rfl;simp[cellsInt,cellsStr,cellsStrs,cellsSps,cellsBks]at g0 g1 g2 g3 g4 g5;have e0:=hcell 0 (by omega);have e1:=hcell 1 (by omega);have e2:=hcell 2 (by omega);have e3:=hcell 3 (by omega);have e4:=hcell 4 (by omega);have e5:=hcell 5 (by omega);obtain⟨b,off,spot⟩:=a;have hspot:spot=none:=hsp (by omega);subst hspot;rw[Go.Deep.add_add,add_plain]at e0 e1 e2 e3 e4 e5;rw[add_plain]at hblk;simp at e0 e1 e2 e3 e4 e5;obtain⟨z,q0,hy0,hz⟩:=DataW.trod_int Tryz.underlying3 g0;simp at q0;subst q0;obtain⟨z1,q1,hy1,hz1⟩:=DataW.trod_int Tryz.underlying3 g1;simp at q1;subst q1;obtain⟨s,q2,hy2,_⟩:=DataW.trod_string Tryz.underlying9 g2;simp at q2;subst q2;obtain⟨xs,hrd,hxl,hxf,hxb⟩:=rd_fuel k c3 y3 g3;obtain⟨sl,hst,hsf,hsb⟩:=sp_fuel k c4 y4 g4;obtain⟨l,ht,hfit,hbk⟩:=ih k (by omega) c5 y5 g5;have ht':=ht;obtain⟨ao,ck,rfl,hck,htr⟩:=ht';refine⟨.mk z z1 s.data.toList xs sl l,?_,rfl,hblk,fun hw=>?_,fun f fa B hi'=>?_⟩
     ·unfold trOne
      exact⟨e0,by rw[Nat.add_assoc];exact e1,by rw[S_of,Nat.add_assoc];exact e2,⟨c3,by rw[Nat.add_assoc];exact e3,hrd,hxl⟩,⟨c4,by rw[Nat.add_assoc];exact e4,hst⟩,ao,ck,by rw[Nat.add_assoc];exact e5,hck,htr⟩
     ·have hmem:(elems[i]).1∈elems.map (·.1):=List.mem_map.2 ⟨_,List.getElem_mem hil,rfl⟩
      have hall:∀m∈(elems[i]).1.weights Tryz.prog 40,m≤reachBytes:=fun m hm'=>hw m (by
       rw[hx];simp only[DataW.weights,Tryz.underlying22,List.mem_cons,List.mem_append];exact Or.inr (Or.inl (mem_all hm' hmem)))
      rw[hxy]at hall;simp only[DataW.weights,Tryz.underlying40,List.map_cons,List.map_nil,DataW.weightsEach,List.mem_append]at hall;have hz':-9223372036854775808≤z∧z≤9223372036854775807:=by simpa [Lit.wf,IntKind.min,IntKind.max,IntKind.signed,IntKind.bits]using hz
      have hz1':-9223372036854775808≤z1∧z1≤9223372036854775807:=by simpa [Lit.wf,IntKind.min,IntKind.max,IntKind.signed,IntKind.bits]using hz1
      rw[fitOne];refine⟨hz',hz1',?_,hxf (fun m hm'=>hall m ?_),hsf (fun m hm'=>hall m ?_),hfit (fun m hm'=>hall m ?_)⟩
      ·refine hall _ ?_
       rw[hy2];simp[DataW.weights]
      ·simp[hm']
      ·simp[hm']
      ·simp[hm']
     ·rw[hxy]
      have h1:=B.agg (List.map (·.1) [y0,y1,y2,y3,y4,y5]);simp only[List.map_cons,List.map_nil,B.cons]at h1;have h2:=hbk f fa B;have h3:=B.str s.data.toList;have h4:=hxb f fa B;have h5:=hsb f fa B;rw[hy2]at h1;rw[ttOne];simp only[List.map_cons,List.map_nil];rw[hy2];dsimp only at h1 ⊢;omega
   have build:∀m,m≤len→∃L:List Bk,L.length=m∧(∀i (hi:i<L.length),trOne W a.block (a.off+i*6) L[i])∧(∀i (hi:i<L.length),(∀n∈x.1.weights Tryz.prog 22,n≤reachBytes)→fitOne reachBytes L[i])∧(∀(f:DataW H→Nat) (fa:List (DataW H)→Nat),Bulk f fa→∀i (hi:i<L.length) (hi':i<elems.length),ttOne L[i]≤f (elems[i]).1):=by
    intro m;induction m with
    |zero=>exact fun _=>⟨[],rfl,fun i hi=>absurd hi (Nat.not_lt_zero _),fun i hi=>absurd hi (Nat.not_lt_zero _),fun _ _ _ i hi=>absurd hi (Nat.not_lt_zero _)⟩
    |succ m ihm=>
     intro hm';obtain⟨L,hL,h1,h2,h3⟩:=ihm (by omega);obtain⟨y,hy,_,_,hyf,hyb⟩:=each m (by omega);refine⟨L++[y],by simp[hL],fun i hi=>?_,fun i hi hw=>?_,fun f fa B i hi hi'=>?_⟩
     ·by_cases him:i<L.length
      ·rw[List.getElem_append_left him];exact h1 i him
      ·have:i=L.length:=by simp at hi;omega
       subst this;rw[List.getElem_append_right (Nat.le_refl _)]
       simpa [hL]using hy
     ·by_cases him:i<L.length
      ·rw[List.getElem_append_left him];exact h2 i him hw
      ·have:i=L.length:=by simp at hi;omega
       subst this;rw[List.getElem_append_right (Nat.le_refl _)]
       simpa using hyf hw
     ·by_cases him:i<L.length
      ·have:=h3 f fa B i him hi'
       rw[List.getElem_append_left him];exact this
      ·have:i=L.length:=by simp at hi;omega
       subst this;rw[List.getElem_append_right (Nat.le_refl _)];have hh:=hyb f fa B (by omega);simp only[←hL]at hh
       simpa using hh
   obtain⟨L,hL,h1,h2,h3⟩:=build len (Nat.le_refl _);refine⟨L,⟨some a,cap,by rw[hL],⟨by omega,by unfold maxLen at hm;omega⟩,?_⟩,fun hw=>fitAll_of (fun y hy=>?_),fun f fa B=>?_⟩
   ·by_cases h0:len=0
    ·exact Or.inl (List.eq_nil_of_length_eq_zero (by omega))
    ·obtain⟨_,_,hsp0,hlt,_,_⟩:=each 0 (by omega)
     obtain⟨b,off,spot⟩:=a;simp only at hsp0;subst hsp0;exact Or.inr ⟨b,off,rfl,hlt,trAll_of L off h1⟩
   ·obtain⟨i,hi,rfl⟩:=List.getElem_of_mem hy
    exact h2 i hi hw
   ·rw[hx]
    refine Nat.le_trans ?_ (B.slice _ _);rw[tt_sum,B.one];refine sum_le _ _ (by simp;omega) (fun i hi hi'=>?_);simp only[List.getElem_map];exact h3 f fa B i (by simpa using hi) (by simpa using hi')
end Bt
namespace Bt
open Go.RowKit
open Tk (S Rd)
open Sp (Tr)
open Bk (Bk)
open Cm (Rk Rk.of_own)
theorem infoBk:(Tryz.prog.info? 40).map (fun i=>(i.zero,i.size,i.bytes))=some (some (.agg #[.int .i64 0,.int .i64 0,.string ⟨#[]⟩,.slice none 0 0,.slice none 0 0,.slice none 0 0]),6,104):=by kernel_rfl
def encT (p:Bk × Value × Value × Value):List Value:=[.int .i64 p.1.kind,.int .i64 p.1.level,.string (S p.1.info),p.2.1,p.2.2.1,p.2.2.2]
theorem encT_len (p:Bk × Value × Value × Value):(encT p).length=6:=rfl
structure KB (w:World) (p:Bk × Value × Value × Value):Prop where
 rd:Rd w p.2.1 p.1.lines
 short:p.1.lines.length≤9223372036854775807
 sp:Tr w p.2.2.1 p.1.spans
 tr:TrB w p.2.2.2 p.1.kids
theorem TrB.of_own {w:World} {B:Nat} {e:TypeId} {v:Value} {ps:List (Bk × Value × Value × Value)} (h:w.ownsRow B e 6 v ps.length (ps.flatMap encT)) (hk:∀p∈ps,KB w p):TrB w v (ps.map (·.1)):=by
 have hr:=Rk.of_own encT_len h;rcases h.2 with ⟨hv,hn⟩|⟨g,cap,cur,hv,hB,hg,hn,hm,hsz,ht⟩
 ·have:ps=[]:=List.eq_nil_of_length_eq_zero hn
  subst this;exact⟨none,0,hv,⟨Nat.le_refl _,by omega⟩,Or.inl rfl⟩
 ·obtain⟨ao,cap',hv',hc',hx⟩:=hr
  rw[hv]at hv';simp only[Value.slice.injEq]at hv';obtain⟨rfl,_,rfl⟩:=hv';refine⟨some ⟨g,0,none⟩,cap,by rw[hv,List.length_map],⟨by rw[List.length_map];exact hn,by unfold maxLen at hm;omega⟩,?_⟩;rcases hx with hx |⟨b,o,hbo,hlt,hcell⟩
  ·exact Or.inl (by rw[hx];rfl)
  ·simp only[Option.some.injEq,Addr.mk.injEq,and_true]at hbo
   obtain⟨rfl,rfl⟩:=hbo;refine Or.inr ⟨g,0,rfl,hlt,trAll_of _ _ (fun i hi=>?_)⟩;have hil:i<ps.length:=by simpa using hi
   have hc:=hcell i ps[i] (List.getElem?_eq_getElem hil);have htr:=hk ps[i] (List.getElem_mem hil);obtain⟨ak,ck,hkv⟩:=htr.tr.len;rw[List.getElem_map];refine trOne_of (vl:=ps[i].2.1) (vs:=ps[i].2.2.1) (ao:=ak) (cap:=ck) ⟨hc 0 _ rfl,hc 1 _ rfl,hc 2 _ rfl,hc 3 _ rfl,hc 4 _ rfl,?_,htr.rd,htr.short,htr.sp,by rw[←hkv];exact htr.tr⟩;rw[←hkv];exact hc 5 _ rfl
theorem encT_one {w:World} {ps:List (Bk × Value × Value × Value)} (hk:∀p∈ps,KB w p):∀u∈ps.flatMap encT,u.oneCell'=true:=by
 intro u hu;obtain⟨p,hp,hu⟩:=List.mem_flatMap.1 hu;obtain⟨ak,ck,hv⟩:=(hk p hp).tr.len;obtain⟨al,cl,hv1⟩:=(hk p hp).rd.len;obtain⟨as',cs,hv2⟩:=(hk p hp).sp.len;simp[encT]at hu;rcases hu with rfl |rfl |rfl |rfl |rfl |rfl
 ·rfl
 ·rfl
 ·rfl
 ·rw[hv1];rfl
 ·rw[hv2];rfl
 ·rw[hv];rfl
end Bt
namespace Bt
open Go.RowKit
open Bk (Bk)
mutual
def szOne:Bk→Nat
 |.mk _ _ _ _ _ l=>1+szAll l
def szAll:List Bk→Nat
 |[]=>0
 |x::r=>szOne x+szAll r
end
theorem szOne_eq (x:Bk):szOne x=1+szAll x.kids:=by obtain⟨k,lv,i,ls,ss,l⟩:=x;rw[szOne];rfl
theorem szAll_cons (x:Bk) (r:List Bk):szAll (x::r)=szOne x+szAll r:=by rw[szAll]
theorem szAll_mem:∀{l:List Bk} {x:Bk},x∈l→szOne x≤szAll l
 |[],x,h=>by cases h
 |y::r,x,h=>by
  rw[szAll_cons];rcases List.mem_cons.1 h with rfl |h
  ·omega
  ·have:=szAll_mem h;omega
theorem szAll_kids {l:List Bk} {x:Bk} (h:x∈l):szAll x.kids<szAll l:=by
 have h1:=szAll_mem h;rw[szOne_eq]at h1;omega
theorem szAll_len:∀l:List Bk,l.length≤szAll l
 |[]=>Nat.zero_le _
 |x::r=>by
  have:=szAll_len r;rw[szAll_cons,szOne_eq,List.length_cons];omega
theorem drop_cons (l:List Bk) (k:Nat) (h:k<l.length):l.drop k=l[k]::l.drop (k+1):=List.drop_eq_getElem_cons h
mutual
def cntAll (n:Int):List Bk→Int
 |[]=>n
 |x::r=>cntAll (cntOne n x) r
def cntOne (n:Int):Bk→Int
 |.mk _ _ _ _ _ l=>IntKind.i64.wrap (n+cntAll (l.length:Int) l)
end
def cnt (l:List Bk):Int:=cntAll (l.length:Int) l
end Bt
namespace Bt
open Go.RowKit
open Tk (S S_size ret_int Rd)
open Sp (Sp)
open Bk (Bk)
theorem Rd.at {w:World} {ao:Option Addr} {n c:Nat} {xs:List (List UInt8)} (h:Rd w (.slice ao n c) xs):∀j (hj:j<xs.length),∃b o,ao=some ⟨b,o,none⟩∧w.cell? ⟨b,o+j,none⟩=some (.string (S xs[j])):=by
 intro j hj;obtain⟨ao',cap,hv,_,hx⟩:=h;simp only[Value.slice.injEq]at hv;obtain⟨rfl,_,_⟩:=hv;rcases hx with hx |⟨b,o,rfl,_,hc⟩
 ·subst hx;exact absurd hj (Nat.not_lt_zero _)
 ·exact⟨b,o,rfl,hc j _ (List.getElem?_eq_getElem hj)⟩
def lnW (n:Int):List (List UInt8)→Int
 |[]=>n
 |s::r=>lnW (IntKind.i64.wrap (IntKind.i64.wrap (n+1)+s.length)) r
def hdW (n:Int) (x:Bk):Int:=lnW (IntKind.i64.wrap (IntKind.i64.wrap (IntKind.i64.wrap (n+1)+x.info.length)+Sp.spAll 30 5000 0 x.spans)) x.lines
mutual
def spOne (deep:Nat) (left n:Int):Bk→Int
 |.mk _ _ i ls ss l=>
  IntKind.i64.wrap (lnW (IntKind.i64.wrap (IntKind.i64.wrap (IntKind.i64.wrap (n+1)+i.length)+Sp.spAll 30 5000 0 ss)) ls
   + spAll (deep-1) (IntKind.i64.wrap (left-lnW (IntKind.i64.wrap (IntKind.i64.wrap (IntKind.i64.wrap (n+1)+i.length)+Sp.spAll 30 5000 0 ss)) ls)) 0 l)
def spAll (deep:Nat) (left n:Int):List Bk→Int
 |[]=>n
 |x::r=>if deep=0∨left≤n then IntKind.i64.wrap (n+1000000)else spAll deep left (spOne deep left n x) r
end
theorem spOne_eq (deep:Nat) (left n:Int) (x:Bk):spOne deep left n x=IntKind.i64.wrap (hdW n x+spAll (deep-1) (IntKind.i64.wrap (left-hdW n x)) 0 x.kids):=by
 obtain⟨k,lv,i,ls,ss,l⟩:=x;rw[spOne];rfl
theorem spAll_cons (deep:Nat) (left n:Int) (x:Bk) (r:List Bk):spAll deep left n (x::r)=if deep=0∨left≤n then IntKind.i64.wrap (n+1000000)else spAll deep left (spOne deep left n x) r:=by rw[spAll]
set_option maxHeartbeats 6400000 in
set_option maxRecDepth 100000 in
theorem spend_any (m:Nat):∀(l:List Bk) (deep:Nat) (left:Int) (v:Value) (w:World),szAll l≤m→TrB w v l→fitAll reachBytes l→deep≤40→
  Calls Tryz.prog 32 #[v,.int .i64 deep,.int .i64 left] w fun e w'=>e=.returned (.int .i64 (spAll deep left 0 l))∧∃n,w'=w.drewN n:=by
 induction m using Nat.strongRecOn with
 |ind m ih=>
  intro l deep left v w hm ht hf hd;obtain⟨ao,ca,rfl⟩:=ht.len;have HT:=Lib.hid ht;have hlen:=ht.short;have hr:reachBytes≤140737488355328:=by decide
  have HX:=Lib.hid (fun k (hk:k<l.length)=>fitOne_eq.1 (fitAll_at hf l[k] (List.getElem_mem hk)))
  have HIH:Hid (∀k (hk:k<l.length) (left':Int) (v':Value) (w':World),0<deep→TrB w' v' l[k].kids→
    Calls Tryz.prog 32 #[v',.int .i64 ((deep:Int)-1),.int .i64 left'] w' fun e w''=>e=.returned (.int .i64 (spAll (deep-1) left' 0 l[k].kids))∧∃n,w''=w'.drewN n):=Lib.hid (fun k hk left' v' w' h0 ht'=>by
   have:=ih (szAll l[k].kids) (Nat.lt_of_lt_of_le (szAll_kids (List.getElem_mem hk)) hm) l[k].kids (deep-1) left' v' w' (Nat.le_refl _) ht' (fitOne_eq.1 (fitAll_at hf _ (List.getElem_mem hk))).2.2.2.2.2 (by omega);rwa[show((deep-1:Nat):Int)=(deep:Int)-1 by omega]at this)
  have H0:Hid (spAll deep left 0 l=spAll deep left 0 (l.drop 0)):=Lib.hid (by rw[List.drop_zero]);obtain⟨X,hX⟩:∃X,spAll deep left 0 l=X:=⟨_,rfl⟩;rw[hX]at H0;rw[hX];clear ih ht hf hm hX;go_enter Tryz.func32,Tryz.ntmps32;go_wp2_with fail;go_loopw [7,12] (fun s i wr=>∃(k q:Nat) (n:Int),k≤l.length∧i=.int .i64 k∧s=.int .i64 n∧wr=w.drewN q∧Hid (X=spAll deep left n (l.drop k))) (fun _ i _=>l.length-(intOf i).toNat)
  case atStart=>exact⟨0,0,0,Nat.zero_le _,rfl,rfl,rfl,H0⟩
  case round=>
   clear H0;obtain⟨k,q,n,hk,rfl,rfl,hwr,HN⟩:=hrel;have HW:=Lib.hid hwr;by_cases hlt:k<l.length
   ·have hnx:=HN.out
    rw[drop_cons l k hlt,spAll_cons]at hnx;have hi1:(k:Int)<(l.length:Int):=by omega
    by_cases hc:deep=0∨left≤n
    ·rw[if_pos hc]at hnx
     have HQ:=Lib.hid hnx;clear hnx HN hwr;by_cases h0:deep=0
     ·have e1:((deep:Int)==0)=true:=by rw[h0];rfl
      clear hc h0;go_wp2_with fail;go_ret;exact⟨ret_int (by rw[HQ.out];exact(Go.IntWalk.i64_left _).symm),q,HW.out⟩
     ·have e1:((deep:Int)==0)=false:=by rw[beq_eq_false_iff_ne];omega
      have e2:decide (n≥left)=true:=decide_eq_true (by omega);have e3:decide (left≤n)=true:=decide_eq_true (by omega);clear hc h0;go_wp2_with fail;go_ret;exact⟨ret_int (by rw[HQ.out];exact(Go.IntWalk.i64_left _).symm),q,HW.out⟩
    ·rw[if_neg hc,spOne_eq]at hnx
     have e1:((deep:Int)==0)=false:=by rw[beq_eq_false_iff_ne];omega
     have e2:decide (n≥left)=false:=decide_eq_false (by omega);have e3:decide (left≤n)=false:=decide_eq_false (by omega);have HTr:=Lib.hid ((HT.out.drewN q));rw[←hwr]at HTr;obtain⟨b,o,vl,vs,ak,ck,rfl,hb,hC⟩:=HTr.out.at k hlt;obtain⟨al,cl,rfl⟩:=hC.rd.len;have RL:=Lib.hid (fun g=>Rd.at (hC.rd.below (below_drewN (Below.refl _ wr) g)));have c2:=hC.info;have c3:=hC.lines;have c4:=hC.spans;have c5:=hC.kids;have hss:=HX.out k hlt;have hsz:(S l[k].info).size=l[k].info.length:=S_size _;have hsl:=hC.short;have hil:l[k].info.length≤140737488355328:=Nat.le_trans hss.2.2.1 hr;have HS:=Lib.hid (fun g=>Sp.size_any l[k].spans vs (wr.drewN g) (hC.sp.drewN g) hss.2.2.2.2.1);have HC:=Lib.hid (fun left' g=>HIH.out k hlt left' _ (wr.drewN g) (by omega) (hC.tr.drewN g));have HQ:=Lib.hid hnx;have HH:Hid (hdW n l[k]=lnW (IntKind.i64.wrap (IntKind.i64.wrap (IntKind.i64.wrap (n+1)+l[k].info.length)+Sp.spAll 30 5000 0 l[k].spans)) (l[k].lines.drop 0)):=Lib.hid (by rw[List.drop_zero];rfl);have HLL:Hid (∀s∈l[k].lines,s.length≤140737488355328):=Lib.hid (fun s hs=>Nat.le_trans (hss.2.2.2.1 s hs) hr);clear hnx HN hC hc hss hwr HTr;generalize l[k].kids.length=kn at *;generalize hdW n l[k]=M at *;generalize l[k].lines=ls at *;generalize Sp.spAll 30 5000 0 l[k].spans=ssn at *;generalize l[k].info=s at *;generalize S s=ss at *;generalize hsl2:(s.length:Int)=sl at *;have hsz':(ss.size:Int)=sl:=by omega
     obtain⟨m1,w1⟩:∃m,IntKind.i64.wrap (n+1)=m:=⟨_,rfl⟩;obtain⟨m2,w2⟩:∃m,IntKind.i64.wrap (m1+sl)=m:=⟨_,rfl⟩;obtain⟨m3,w3⟩:∃m,IntKind.i64.wrap (m2+ssn)=m:=⟨_,rfl⟩;rw[w1,w2,w3]at HH;go_wp2_with fail;go_quiet (first |(go_at_call 52;exact Calls.quiet_of_same ((HS.out _).mono (fun _ _ h=>⟨h.1,h.2.symm⟩))));have HKc:Hid (∀g,(wr.drewN g).cell? ⟨b,o+k*6+3,none⟩=some (.slice al ls.length cl)∧(wr.drewN g).cell? ⟨b,o+k*6+5,none⟩=some (.slice ak kn ck)):=Lib.hid (fun g=>⟨((below_drewN (Below.refl _ wr) g).cell (by exact hb)).trans c3,((below_drewN (Below.refl _ wr) g).cell (by exact hb)).trans c5⟩);obtain⟨k3,k5⟩:=HKc.out nq;clear c2 c3 c4 c5 HS;go_wp2_with fail;go_loopw [7,46] (fun s i w2=>∃(j g:Nat) (m:Int),j≤ls.length∧i=.int .i64 j∧s=.int .i64 m∧w2=wr.drewN g∧Hid (M=lnW m (ls.drop j))) (fun _ i _=>ls.length-(intOf i).toNat)
     case atStart=>exact⟨0,nq,m3,Nat.zero_le _,rfl,rfl,rfl,HH⟩
     case round=>
      clear HH k3 k5;obtain⟨j,g,m,hj,rfl,rfl,hw2,HM⟩:=hrel;have HG:=Lib.hid hw2;obtain⟨k3,k5⟩:=HKc.out g;rw[←hw2]at k3 k5;by_cases hlj:j<ls.length
      ·have hmx:=HM.out
       rw[List.drop_eq_getElem_cons hlj,lnW]at hmx;have hj1:(j:Int)<(ls.length:Int):=by omega
       obtain⟨bl,ol,rfl,kl⟩:=RL.out g j hlj;rw[←hw2]at kl;have hsj:(S ls[j]).size=ls[j].length:=S_size _;have hlj2:=HLL.out ls[j] (List.getElem_mem hlj);have HM2:=Lib.hid hmx;clear hmx HM hw2;generalize hx:ls[j]=x at *;clear hx;generalize S x=xx at *;generalize hxl:(x.length:Int)=xl at *;have hxz:(xx.size:Int)=xl:=by omega
       obtain⟨p1,v1⟩:∃p,IntKind.i64.wrap (m+1)=p:=⟨_,rfl⟩;obtain⟨p2,v2⟩:∃p,IntKind.i64.wrap (p1+xl)=p:=⟨_,rfl⟩;rw[v1,v2]at HM2;go_wp2_with fail;go_roundw
       case rel=>exact⟨j+1,g,p2,by omega,by go_num,rfl,HG.out,HM2⟩
       case measure=>simp[intOf]<;>omega
      ·obtain rfl:j=ls.length:=by omega
       have hmx:=HM.out;rw[List.drop_length]at hmx;have hM:M=m:=by rw[hmx];rfl
       obtain⟨lf,w4⟩:∃m',IntKind.i64.wrap (left-m)=m':=⟨_,rfl⟩;have HCc:=Lib.hid (HC.out lf g);rw[←hw2]at HCc;rw[hM,w4]at HQ;clear hmx HM hM HKc hw2;obtain⟨z,hz⟩:∃z,spAll (deep-1) lf 0 l[k].kids=z:=⟨_,rfl⟩;rw[hz]at HCc HQ;obtain⟨m5,w5⟩:∃m',IntKind.i64.wrap (m+z)=m':=⟨_,rfl⟩;rw[w5]at HQ;clear hz;go_wp2_with fail;refine HCc.out.mono ?_;rintro e w6 ⟨rfl,n6,rfl⟩;clear HCc HC;go_wp2_with fail;go_roundw
       case rel=>exact⟨k+1,q+(g+n6),m5,by omega,by go_num,rfl,by rw[HG.out,HW.out,World.drewN_drewN,World.drewN_drewN],HQ⟩
       case measure=>simp[intOf]<;>omega
   ·obtain rfl:k=l.length:=by omega
    have hnx:=HN.out;rw[List.drop_length]at hnx;have HQ:Hid (X=n):=Lib.hid (by rw[hnx];unfold spAll;rfl);clear hnx HN hlt hwr;go_wp2_with fail;go_ret;exact⟨ret_int (by rw[HQ.out]),q,HW.out⟩
theorem sizeB_any (l:List Bk) (v:Value) (w:World) (ht:TrB w v l) (hf:fitAll reachBytes l):
  Calls Tryz.prog 16 #[v,.int .i64 40] w fun e w'=>e=.returned (.int .i64 (spAll 40 5000 0 l))∧∃n,w'=w.drewN n:=by
 have H:=Lib.hid (spend_any (szAll l) l 40 5000 v w (Nat.le_refl _) ht hf (by omega));clear ht hf;generalize spAll 40 5000 0 l=z at *;go_enter Tryz.func16,Tryz.ntmps16;go_wp2_with fail;refine H.out.mono ?_;rintro e w1 ⟨rfl,n,rfl⟩;clear H;go_wp2_with fail;go_ret;exact⟨rfl,n,rfl⟩
end Bt
namespace Bt
open Go.RowKit
open Tk (ret_int)
open Bk (Bk)
def boxB (k:Int):Bool:=decide (k=5)||decide (k=6)||decide (k=7)
mutual
def dpOne (n:Int):Bk→Int
 |.mk k _ _ _ _ l=>if boxB k=true then max n (IntKind.i64.wrap (1+dpAll 0 l))else max n (dpAll 0 l)
def dpAll (n:Int):List Bk→Int
 |[]=>n
 |x::r=>dpAll (dpOne n x) r
end
def dp (l:List Bk):Int:=dpAll 0 l
theorem dpAll_cons (n:Int) (x:Bk) (r:List Bk):dpAll n (x::r)=dpAll (if boxB x.kind=true then max n (IntKind.i64.wrap (1+dp x.kids))else max n (dp x.kids)) r:=by
 obtain⟨k,lv,i,ls,ss,l⟩:=x;rw[dpAll,dpOne];rfl
set_option maxHeartbeats 3200000 in
set_option maxRecDepth 100000 in
theorem rdeep_any (m:Nat):∀(l:List Bk) (v:Value) (w:World),szAll l≤m→TrB w v l→
  Calls Tryz.prog 19 #[v] w fun e w'=>e=.returned (.int .i64 (dp l))∧w=w':=by
 induction m using Nat.strongRecOn with
 |ind m ih=>
  intro l v w hm ht;obtain⟨ao,ca,rfl⟩:=ht.len;have F:=Lib.hid ht.at;have hlen:=ht.short
  have HIH:Hid (∀k (hk:k<l.length) (v':Value) (w':World),TrB w' v' l[k].kids→
    Calls Tryz.prog 19 #[v'] w' fun e w''=>e=.returned (.int .i64 (dp l[k].kids))∧w'=w''):=Lib.hid (fun k hk v' w' ht'=>
   ih (szAll l[k].kids) (Nat.lt_of_lt_of_le (szAll_kids (List.getElem_mem hk)) hm) l[k].kids v' w' (Nat.le_refl _) ht')
  have H0:Hid (dp l=dpAll 0 (l.drop 0)):=Lib.hid (by rw[List.drop_zero];rfl);obtain⟨X,hX⟩:∃X,dp l=X:=⟨_,rfl⟩;rw[hX]at H0;rw[hX];clear ih ht hm hX;go_enter Tryz.func19,Tryz.ntmps19;go_wp2_with fail;go_loop [3,8] (fun s i=>∃(k:Nat) (n:Int),k≤l.length∧i=.int .i64 k∧s=.int .i64 n∧Hid (X=dpAll n (l.drop k))) (fun _ i=>l.length-(intOf i).toNat)
  case atStart=>exact⟨0,0,Nat.zero_le _,rfl,rfl,H0⟩
  case round=>
   clear H0;obtain⟨k,n,hk,rfl,rfl,HN⟩:=hrel;by_cases hlt:k<l.length
   ·have hnx:=HN.out
    rw[drop_cons l k hlt,dpAll_cons]at hnx;have hi1:(k:Int)<(l.length:Int):=by omega
    obtain⟨b,o,vl,vs,ak,ck,rfl,hb,hC⟩:=F.out k hlt;have c0:=hC.kind;have c5:=hC.kids;have HC:=Lib.hid (HIH.out k hlt _ w hC.tr);have HQ:=Lib.hid hnx;clear hnx HN hC;generalize dp l[k].kids=z at *;generalize l[k].kids.length=kn at *;generalize l[k].kind=q at *;obtain⟨z1,hz1⟩:∃z1,IntKind.i64.wrap (1+z)=z1:=⟨_,rfl⟩;rw[hz1]at HQ;by_cases q5:q=5
    ·have f5:(q==5)=true:=by rw[q5];rfl
     have HR:Hid (X=dpAll (max n z1) (l.drop (k+1))):=Lib.hid (by rw[HQ.out,show boxB q=true by rw[q5];rfl,if_pos rfl]);clear HQ q5;go_wp2_with fail;refine HC.out.mono ?_;rintro e w1 ⟨rfl,rfl⟩;clear HC;go_wp2_with fail;go_round
     case rel=>exact⟨k+1,max n z1,by omega,by go_num,rfl,HR⟩
     case measure=>simp[intOf];omega
    ·have f5:(q==5)=false:=beq_eq_false_iff_ne.2 q5
     by_cases q6:q=6
     ·have f6:(q==6)=true:=by rw[q6];rfl
      have HR:Hid (X=dpAll (max n z1) (l.drop (k+1))):=Lib.hid (by rw[HQ.out,show boxB q=true by rw[q6];rfl,if_pos rfl]);clear HQ q5 q6;go_wp2_with fail;refine HC.out.mono ?_;rintro e w1 ⟨rfl,rfl⟩;clear HC;go_wp2_with fail;go_round
      case rel=>exact⟨k+1,max n z1,by omega,by go_num,rfl,HR⟩
      case measure=>simp[intOf];omega
     ·have f6:(q==6)=false:=beq_eq_false_iff_ne.2 q6
      by_cases q7:q=7
      ·have f7:(q==7)=true:=by rw[q7];rfl
       have HR:Hid (X=dpAll (max n z1) (l.drop (k+1))):=Lib.hid (by rw[HQ.out,show boxB q=true by rw[q7];rfl,if_pos rfl]);clear HQ q5 q6 q7;go_wp2_with fail;refine HC.out.mono ?_;rintro e w1 ⟨rfl,rfl⟩;clear HC;go_wp2_with fail;go_round
       case rel=>exact⟨k+1,max n z1,by omega,by go_num,rfl,HR⟩
       case measure=>simp[intOf];omega
      ·have f7:(q==7)=false:=beq_eq_false_iff_ne.2 q7
       have HR:Hid (X=dpAll (max n z) (l.drop (k+1))):=Lib.hid (by rw[HQ.out,show boxB q=false by unfold boxB;rw[decide_eq_false q5,decide_eq_false q6,decide_eq_false q7];rfl,if_neg (by decide)]);clear HQ q5 q6 q7;go_wp2_with fail;refine HC.out.mono ?_;rintro e w1 ⟨rfl,rfl⟩;clear HC;go_wp2_with fail;go_round
       case rel=>exact⟨k+1,max n z,by omega,by go_num,rfl,HR⟩
       case measure=>simp[intOf];omega
   ·obtain rfl:k=l.length:=by omega
    have hnx:=HN.out;rw[List.drop_length]at hnx;have HQ:Hid (X=n):=Lib.hid (by rw[hnx];unfold dpAll;rfl);clear hnx HN hlt;go_wp2_with fail;go_ret;exact⟨ret_int (by rw[HQ.out]),rfl⟩
end Bt
namespace Pa
open Go.RowKit
open Tk (S Rd)
open Cm (Rk Rk.of_own Keep own_keep newsK)
open Bk (Bk Tx)
open Bt (TrB KB encT encT_len encT_one infoBk)
variable {α:Type} {k:Nat} {e:TypeId} {enc:α→List Value} {R:World→α→Prop}
structure OutG (k:Nat) (e:TypeId) (enc:α→List Value) (R:World→α→Prop) (B:Nat) (w:World) (v:Value) (ps:List α):Prop where
 size:B≤w.heap.size
 own:w.ownsRow B e k v ps.length (ps.flatMap enc)
 kid:∀p∈ps,∀w',Keep (fun j=>j<B∨some j=v.ownBlock) w w'→R w' p
theorem OutG.nil {B:Nat} {w:World} (h:B≤w.heap.size):OutG k e enc R B w (.slice none 0 0) []:=⟨h,World.ownsRow_nil _ _ _ _,fun p h=>by cases h⟩
theorem OutG.block {B:Nat} {w:World} {v:Value} {ps:List α} (h:OutG k e enc R B w v ps):∀j,v.ownBlock=some j→B≤j∧j<w.heap.size:=h.own.lt
theorem OutG.go {B:Nat} {w w':World} {v:Value} {ps:List α} (h:OutG k e enc R B w v ps) (hk:Keep (fun j=>j<B) w w'):OutG k e enc R B w' v ps:=
 ⟨Nat.le_trans h.size hk.size,own_keep h.own hk (fun g hg=>by have:=(h.block g hg).1;omega),fun p hp w'' k2=>h.kid p hp w'' ((hk.mono (fun j _ hj=>Or.inl hj)).trans k2)⟩
theorem OutG.at {B:Nat} {w:World} {v:Value} {ps:List α} (h:OutG k e enc R B w v ps):∀p∈ps,R w p:=fun p hp=>h.kid p hp w (Keep.refl _ _)
theorem OutG.rk {B:Nat} {w:World} {v:Value} {ps:List α} (h:OutG k e enc R B w v ps) (hk:∀x,(enc x).length=k):Rk k enc w v ps:=Rk.of_own hk h.own
def Fr {β:Type} (Q:World→Value→β→Prop) (B:Nat) (w:World) (v:Value) (x:β):Prop:=∀w',Keep (fun j=>j<B) w w'→Q w' v x
theorem Fr.now {β:Type} {Q:World→Value→β→Prop} {B:Nat} {w:World} {v:Value} {x:β} (h:Fr Q B w v x):Q w v x:=h w (Keep.refl _ _)
theorem Fr.go {β:Type} {Q:World→Value→β→Prop} {B:Nat} {w w':World} {v:Value} {x:β} (h:Fr Q B w v x) (hk:Keep (fun j=>j<B) w w'):Fr Q B w' v x:=fun w'' k2=>h w'' (hk.trans k2)
theorem Fr.mono {β:Type} {Q:World→Value→β→Prop} {B B':Nat} {w:World} {v:Value} {x:β} (h:Fr Q B' w v x) (hB:B≤B'):Fr Q B w v x:=fun w' k2=>h w' (k2.mono (fun j _ hj=>Nat.lt_of_lt_of_le hj hB))
theorem OutG.push {ts:TypeId} {zero:Value} {bytes:Nat} (hu:Tryz.prog.underlying ts=some (.slice e)) (hinfo:(Tryz.prog.info? e).map (fun i=>(i.zero,i.size,i.bytes))=some (some zero,k,bytes)) (hz:zero.cells.size=k) (hk0:0<k) (hby:bytes≤200)
  (hk:∀x,(enc x).length=k) {B:Nat} {w:World} {v:Value} {ps:List α} (h:OutG k e enc R B w v ps) {x:α} (hx:∀w',Keep (fun j=>j<B∨some j=v.ownBlock) w w'→R w' x) (h1:∀u∈enc x,u.oneCell'=true) (hl:ps.length+1≤1000000):
  ∃v' w',(∀ty,(Builtin.append_ #[ts,ts] ty #[v,.slice (some ⟨w.heap.size,0,none⟩) 1 1]).run Tryz.prog (w.alloc (.cells (enc x).toArray e))= .ok v' w')∧OutG k e enc R B w' v' (ps++[x])∧Keep (fun j=>some j=v.ownBlock) w w':=by
 obtain⟨i0,hi,hz0,hz1,hz2⟩:=info_parts hinfo;have hsz:(w.alloc (.cells (enc x).toArray e)).heap.size=w.heap.size+1:=by simp
 have kAl:Keep (fun j=>some j=v.ownBlock) w (w.alloc (.cells (enc x).toArray e)):=(Keep.refl _ _).alloc _;have hown:(w.alloc (.cells (enc x).toArray e)).ownsRow B e k v ps.length (ps.flatMap enc):=own_keep h.own (S:=fun j=>j<B) ((Keep.refl _ _).alloc _) (fun g hg=>by have:=(h.block g hg).1;omega);have hcells:∀j u,(enc x)[j]? = some u→(w.alloc (.cells (enc x).toArray e)).cell? (Addr.add ⟨w.heap.size,0,none⟩ j)=some u:=newsK
 have hb2:(ps.length+1)*bytes≤140737488355328:=by
  have:(ps.length+1)*bytes≤1000000*200:=Nat.mul_le_mul hl hby;omega
 obtain⟨v',w',g1,g2,g3,_,g5⟩:=run_append_own_at (P:=Tryz.prog) (w:=w.alloc (.cells (enc x).toArray e)) B ts 0 e i0 zero k bytes hu hi hz0 hz1 hz2 hz hk0 v ps.length (ps.flatMap enc) hown ⟨w.heap.size,0,none⟩ 1 1 (enc x) (by rw[hk,Nat.one_mul]) hcells h1 (by unfold maxLen;omega) hb2 (by rw[hsz];have:=h.size;omega);have kG:Keep (fun j=>some j=v.ownBlock) w w':=kAl.grown g3 (fun j hj=>Or.inl hj.symm)
 have hkeep:∀p:α,(∀w',Keep (fun j=>j<B∨some j=v.ownBlock) w w'→R w' p)→∀w'',Keep (fun j=>j<B∨some j=v'.ownBlock) w' w''→R w'' p:=fun p hp w'' k2=>by
  refine hp w'' ⟨k2.os.trans kG.os,k2.tape.trans kG.tape,k2.output.trans kG.output,Nat.le_trans kG.size k2.size,fun j hj hS=>?_⟩;rw[←kG.block j hj (fun h'=>hS (Or.inr h'))];refine k2.block j (Nat.lt_of_lt_of_le hj kG.size) (fun hS'=>?_);rcases hS' with h' |h'
  ·exact hS (Or.inl h')
  ·rcases g5 with hg |hg
   ·exact hS (Or.inr (by rw[h',hg]))
   ·rw[hg]at h'
    simp only[Option.some.injEq]at h';rw[hsz]at h';omega
 refine⟨v',w',fun ty=>g1,⟨Nat.le_trans h.size kG.size,?_,fun p hp=>?_⟩,kG⟩
 ·rw[List.length_append,List.flatMap_append]
  have:[x].flatMap enc=enc x:=by simp[List.flatMap_cons]
  rw[this];exact g2
 ·rcases List.mem_append.1 hp with hp |hp
  ·exact hkeep p (h.kid p hp)
  ·rw[List.mem_singleton]at hp
   subst hp;exact hkeep p hx
theorem OutG.below {B:Nat} {w w':World} {v:Value} {ps:List α} (h:OutG k e enc R B w v ps) (hk:Keep (fun j=>some j=v.ownBlock) w w'):Below B w w':=
 hk.below (fun j hj=>(h.block j hj.symm).1) h.size
def OutB (B:Nat) (w:World) (v:Value) (ps:List (Bk × Value × Value × Value)):Prop:=OutG 6 40 encT KB B w v ps
theorem OutB.tr {B:Nat} {w:World} {v:Value} {ps:List (Bk × Value × Value × Value)} (h:OutB B w v ps):TrB w v (ps.map (·.1)):=TrB.of_own (OutG.own h) (OutG.at h)
theorem OutB.fresh {B:Nat} {w:World} {v:Value} {ps:List (Bk × Value × Value × Value)} (h:OutB B w v ps):Fr TrB B w v (ps.map (·.1)):=fun w' k2=>OutB.tr (OutG.go h k2)
theorem OutB.push {B:Nat} {w:World} {v:Value} {ps:List (Bk × Value × Value × Value)} (h:OutB B w v ps) {x:Bk × Value × Value × Value} (hx:∀w',Keep (fun j=>j<B∨some j=v.ownBlock) w w'→KB w' x) (hl:ps.length+1≤1000000):
  ∃v' w',(∀ty,(Builtin.append_ #[22,22] ty #[v,.slice (some ⟨w.heap.size,0,none⟩) 1 1]).run Tryz.prog (w.alloc (.cells #[.int .i64 x.1.kind,.int .i64 x.1.level,.string (S x.1.info),x.2.1,x.2.2.1,x.2.2.2] 40))= .ok v' w')∧OutB B w' v' (ps++[x])∧Keep (fun j=>some j=v.ownBlock) w w':=
 OutG.push (ts:=22) Tryz.underlying22 infoBk rfl (by decide) (by decide) encT_len h hx (by
  have h2:=encT_one (w:=w) (ps:=[x]) (fun p hp=>by rw[List.mem_singleton]at hp;subst hp;exact hx w (Keep.refl _ _));have:[x].flatMap encT=encT x:=by simp[List.flatMap_cons]
  rwa[this]at h2) hl
def encX (x:Tx):List Value:=[.string (S x)]
theorem encX_map:∀l:List Tx,l.flatMap encX=l.map encStr
 |[]=>rfl
 |x::r=>by rw[List.flatMap_cons,encX_map r];rfl
def OutS (B:Nat) (w:World) (v:Value) (l:List Tx):Prop:=OutG 1 9 encX (fun _ _=>True) B w v l
theorem OutS.rd {B:Nat} {w:World} {v:Value} {l:List Tx} (h:OutS B w v l):Rd w v l:=by
 have:=OutG.own h;rw[encX_map]at this;exact Rd.of_own this
theorem OutS.fresh {B:Nat} {w:World} {v:Value} {l:List Tx} (h:OutS B w v l):Fr Rd B w v l:=fun w' k2=>OutS.rd (OutG.go h k2)
theorem infoX:(Tryz.prog.info? 9).map (fun i=>(i.zero,i.size,i.bytes))=some (some (.string ⟨#[]⟩),1,16):=by kernel_rfl
theorem OutS.push {B:Nat} {w:World} {v:Value} {l:List Tx} (h:OutS B w v l) (x:Tx) (hl:l.length+1≤1000000):
  ∃v' w',(∀ty,(Builtin.append_ #[31,31] ty #[v,.slice (some ⟨w.heap.size,0,none⟩) 1 1]).run Tryz.prog (w.alloc (.cells #[.string (S x)] 9))= .ok v' w')∧OutS B w' v' (l++[x])∧Keep (fun j=>some j=v.ownBlock) w w':=
 OutG.push (ts:=31) Tryz.underlying31 infoX rfl (by decide) (by decide) (fun _=>rfl) h (fun _ _=>trivial) (fun u hu=>by rw[encX,List.mem_singleton]at hu;subst hu;rfl) hl
def RL (w:World) (p:List Tx × Value):Prop:=Rd w p.2 p.1
end Pa
end Go.Proofs.YtpakjdgddomdjabGreatDoor
