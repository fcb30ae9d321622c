import Derived.Test.YtihihgfcklkkhaaGreatDoorPkE
import Derived.Test.YtihihgfcklkkhaaGreatDoorPkB
import Derived.Deep.RegionLaw
import Derived.Maps.AppendAt
import Derived.Test.YtihihgfcklkkhaaGreatDoorPkY
import Derived.Lib.Walk
import Derived.WalkSpells
import Derived.WalkLawsBesides
namespace Go.Proofs.YtihihgfcklkkhaaGreatDoor.Sp
open Go.RowKit
open Go.Proofs.YtihihgfcklkkhaaGreatDoor.Tk (S S_of S_list S_size S_toList S_app ret_int)
open Go.Proofs.YtihihgfcklkkhaaGreatDoor.Cm (calls_at Rk Rk.of_own flat_get)
set_option linter.unusedVariables false
theorem infoSp:(Tryz.prog.info? 47).map (fun i=>(i.zero,i.size,i.bytes))=some (some (.agg #[.int .i64 0,.string ⟨#[]⟩,.slice none 0 0]),3,48):=by kernel_rfl
def encT (p:Sp × Value):List Value:=[.int .i64 p.1.kind,.string (S p.1.s),p.2]
theorem encT_len (p:Sp × Value):(encT p).length=3:=rfl
theorem flat_len:∀ ps:List (Sp × Value),(ps.flatMap encT).length=ps.length*3
 | []=>rfl
 | p :: r=>by rw [List.flatMap_cons,List.length_append,flat_len r,encT_len,List.length_cons];omega
theorem Tr.of_own {w:World} {B:Nat} {e:TypeId} {v:Value} {ps:List (Sp × Value)} (h:w.ownsRow B e 3 v ps.length (ps.flatMap encT)) (hk:∀ p∈ps,Tr w p.2 p.1.kids):Tr w v (ps.map (·.1)):=by
 have hr:=Rk.of_own encT_len h
 rcases h.2 with ⟨hv,hn⟩ | ⟨g,cap,cur,hv,hB,hg,hn,hm,hsz,ht⟩
 · have:ps=[]:=List.eq_nil_of_length_eq_zero hn
   subst this
   exact ⟨none,0,hv,⟨Nat.le_refl _,by omega⟩,Or.inl rfl⟩
 · obtain ⟨ao,cap',hv',hc',hx⟩:=hr
   rw [hv] at hv'
   simp only [Value.slice.injEq] at hv'
   obtain ⟨rfl,_,rfl⟩:=hv'
   refine ⟨some ⟨g,0,none⟩,cap,by rw [hv,List.length_map],⟨by rw [List.length_map];exact hn,by unfold maxLen at hm;omega⟩,?_⟩
   rcases hx with hx | ⟨b,o,hbo,hlt,hcell⟩
   · exact Or.inl (by rw [hx];rfl)
   · simp only [Option.some.injEq,Addr.mk.injEq,and_true] at hbo
     obtain ⟨rfl,rfl⟩:=hbo
     refine Or.inr ⟨g,0,rfl,hlt,trAll_of _ _ (fun i hi=>?_)⟩
     have hil:i < ps.length:=by simpa using hi
     have hc:=hcell i ps[i] (List.getElem?_eq_getElem hil)
     have htr:=hk ps[i] (List.getElem_mem hil)
     obtain ⟨ak,ck,hkv⟩:=htr.len
     rw [List.getElem_map]
     refine trOne_of (ao:=ak) (cap:=ck) ⟨hc 0 _ rfl,hc 1 _ rfl,?_,by rw [← hkv];exact htr⟩
     rw [← hkv]
     exact hc 2 _ rfl
theorem encT_one {w:World} {ps:List (Sp × Value)} (hk:∀ p∈ps,Tr w p.2 p.1.kids):∀ u∈ps.flatMap encT,u.oneCell'=true:=by
 intro u hu
 obtain ⟨p,hp,hu⟩:=List.mem_flatMap.1 hu
 obtain ⟨ak,ck,hv⟩:=(hk p hp).len
 simp [encT] at hu
 rcases hu with rfl | rfl | rfl
 · rfl
 · rfl
 · rw [hv];rfl
end Go.Proofs.YtihihgfcklkkhaaGreatDoor.Sp
namespace Go.Proofs.YtihihgfcklkkhaaGreatDoor.Cm
open Go.RowKit
set_option linter.unusedVariables false
theorem step_append_run {P:Program} {ops:Array Oper} {o:Oper} {a:Act} {w:World} {K:Act→World→Prop} {Q:Exit→Act→World→Prop} {E:Prop}
   (hg:o.guard=none) (s x:Operand) (t tn:TypeId) (hop:o.op=Op.call { callee:=Callee.builtin Builtin.append,args:=#[s,x],argTypes:=#[t,tn] })
   (vs vx:Value) (hs:a.eval s=vs) (hx:a.eval x=vx) (v':Value) (w':World) (hr:∀ ty,(Builtin.append_ #[t,tn] ty #[vs,vx]).run P w = .ok v' w') (hK:K (a.put o.dst v') w') :
   if Region.wanted o (yielded ops a.tmps)=true then Oper.wp P o a w K Q else E:=by
 have hw:Region.wanted o (yielded ops a.tmps)=true:=by simp [Region.wanted,hg]
 rw [if_pos hw]
 have hrun:=hr o.type
 unfold Oper.wp
 simp [execOp,hop,resolve,invoke,builtin,hs,hx,hrun,Result.andThen]
 exact hK
end Go.Proofs.YtihihgfcklkkhaaGreatDoor.Cm
namespace Go.Proofs.YtihihgfcklkkhaaGreatDoor.Sp
open Go.RowKit
open Go.Proofs.YtihihgfcklkkhaaGreatDoor.Tk (S S_of S_list S_size S_toList S_app ret_int)
open Go.Proofs.YtihihgfcklkkhaaGreatDoor.Cm (calls_at Rk Rk.of_own flat_get Keep own_keep cell_at alloc_new alloc_at lt_of_at step_append_run)
set_option linter.unusedVariables false
structure Acc (w0 w:World) (v:Value) (ps:List (Sp × Value)):Prop where
 bel:Below w0.heap.size w0 w
 own:w.ownsRow w0.heap.size 47 3 v ps.length (ps.flatMap encT)
theorem bel_a {w0 w:World} (h:Below w0.heap.size w0 w) (o:Obj):Below w0.heap.size w0 (w.alloc o):=h.alloc h.size o
theorem bel_d {w0 w:World} (h:Below w0.heap.size w0 w):Below w0.heap.size w0 w.drew:=h.drew
theorem Acc.go {w0 w w':World} {v:Value} {ps:List (Sp × Value)} (h:Acc w0 w v ps) (hb:Below w.heap.size w w'):Acc w0 w' v ps :=
 ⟨h.bel.trans (hb.mono h.bel.size),own_keep h.own (Keep.of_below (S:=fun _=>False) hb) (fun _ _ h=>h)⟩
theorem Acc.alloc {w0 w:World} {v:Value} {ps:List (Sp × Value)} (h:Acc w0 w v ps) (o:Obj):Acc w0 (w.alloc o) v ps:=h.go ((Below.refl _ _).alloc (Nat.le_refl _) _)
end Go.Proofs.YtihihgfcklkkhaaGreatDoor.Sp
namespace Go.Proofs.YtihihgfcklkkhaaGreatDoor.Sp
open Go.RowKit
open Go.Proofs.YtihihgfcklkkhaaGreatDoor.Tk (S S_of S_list S_size S_toList S_app ret_int)
open Go.Proofs.YtihihgfcklkkhaaGreatDoor.Cm (calls_at Rk Rk.of_own flat_get Keep own_keep cell_at alloc_new alloc_at lt_of_at own_obj)
set_option linter.unusedVariables false
def KidS (B:Nat) (g:Option Nat) (w:World) (p:Sp × Value):Prop:=∀ w',Keep (fun k=>k < B∨some k=g) w w'→Tr w' p.2 p.1.kids
def Fresh (B:Nat) (w:World) (v:Value) (l:List Sp):Prop:=∀ w',Keep (fun k=>k < B) w w'→Tr w' v l
theorem Fresh.kid {B B':Nat} {g:Option Nat} {w:World} {v:Value} {l:List Sp} (h:Fresh B' w v l) (hB:B≤B') (hg:∀ k,g=some k→k < B') (q:Int) (s:List UInt8):KidS B g w (.mk q s l,v) :=
 fun w' k=>h w' (k.mono (fun j _ hj=>hj.elim (fun h=>Nat.lt_of_lt_of_le h hB) (fun h=>hg j h.symm)))
theorem KidS.nil {B:Nat} {g:Option Nat} {w:World} (q:Int) (s:List UInt8):KidS B g w (.mk q s [],.slice none 0 0):=fun w' _=>tr_nil w'
theorem KidS.go {B:Nat} {g:Option Nat} {w w':World} {p:Sp × Value} (h:KidS B g w p) (hb:Below w.heap.size w w'):KidS B g w' p :=
 fun w'' k=>h w'' ((Keep.of_below hb).trans k)
theorem KidS.tr {B:Nat} {g:Option Nat} {w:World} {p:Sp × Value} (h:KidS B g w p):Tr w p.2 p.1.kids:=h w (Keep.refl _ _)
theorem KidS.grown {B n:Nat} {g g':Option Nat} {w w1 w':World} {p:Sp × Value} (h:KidS B g w p) (k1:Keep (fun k=>k < B∨some k=g) w w') (hn:w.heap.size≤n) (hg:g'=g∨g'=some n):KidS B g' w' p:=by
 intro w'' k
 refine h w'' ⟨k.os.trans k1.os,k.tape.trans k1.tape,k.output.trans k1.output,Nat.le_trans k1.size k.size,fun j hj hS=>?_⟩
 rw [← k1.block j hj hS]
 refine k.block j (Nat.lt_of_lt_of_le hj k1.size) (fun hS'=>?_)
 rcases hS' with h' | h'
 · exact hS (Or.inl h')
 · rcases hg with hg | hg
   · exact hS (Or.inr (by rw [h',hg]))
   · rw [hg] at h'
     simp only [Option.some.injEq] at h'
     omega
structure Out (w0 w:World) (v:Value) (L:List Sp):Prop where
 ex:∃ ps:List (Sp × Value),ps.map (·.1)=L∧Acc w0 w v ps∧∀ p∈ps,KidS w0.heap.size v.ownBlock w p
theorem Out.nil {w0 w:World} (hb:Below w0.heap.size w0 w):Out w0 w (.slice none 0 0) [] :=
 ⟨[],rfl,⟨hb,World.ownsRow_nil _ _ _ _⟩,fun p h=>by cases h⟩
theorem Out.go {w0 w w':World} {v:Value} {L:List Sp} (h:Out w0 w v L) (hb:Below w.heap.size w w'):Out w0 w' v L:=by
 obtain ⟨ps,h1,h2,h3⟩:=h.ex
 exact ⟨ps,h1,h2.go hb,fun p hp=>(h3 p hp).go hb⟩
theorem Out.bel {w0 w:World} {v:Value} {L:List Sp} (h:Out w0 w v L):Below w0.heap.size w0 w:=by
 obtain ⟨ps,h1,h2,h3⟩:=h.ex
 exact h2.bel
theorem Out.tr {w0 w:World} {v:Value} {L:List Sp} (h:Out w0 w v L):Tr w v L:=by
 obtain ⟨ps,rfl,h2,h3⟩:=h.ex
 exact Tr.of_own h2.own (fun p hp=>(h3 p hp).tr)
theorem Out.fresh {w0 w:World} {v:Value} {L:List Sp} (h:Out w0 w v L):Fresh w0.heap.size w v L:=by
 obtain ⟨ps,rfl,h2,h3⟩:=h.ex
 intro w' k
 refine Tr.of_own (own_keep h2.own k (fun g hg=>?_)) (fun p hp=>h3 p hp w' (k.mono (fun j _ hj=>Or.inl hj)))
 have:=(h2.own.lt g hg).1
 omega
theorem Out.block {w0 w:World} {v:Value} {L:List Sp} (h:Out w0 w v L):∀ k,v.ownBlock=some k→k < w.heap.size:=by
 obtain ⟨ps,rfl,h2,h3⟩:=h.ex
 intro k hk
 obtain ⟨cur,hc⟩:=own_obj h2.own hk
 exact lt_of_at hc
theorem add_zero (b j:Nat):(Addr.add ⟨b,0,none⟩ j)=⟨b,j,none⟩:=by
 by_cases h:j=0 <;> simp [Addr.add,h]
theorem flat_one (p:Sp × Value):[p].flatMap encT=encT p:=by simp [List.flatMap_cons]
theorem Out.push {w0 w:World} {v:Value} {L:List Sp} (h:Out w0 w v L) {x:Sp} {vk:Value} (hk:KidS w0.heap.size v.ownBlock w (x,vk)) (hl:L.length+1≤1000000) :
   ∃ v' w',(∀ ty,(Builtin.append_ #[40,40] ty #[v,.slice (some ⟨w.heap.size,0,none⟩) 1 1]).run Tryz.prog (w.alloc (.cells #[.int .i64 x.kind,.string (S x.s),vk] 47)) = .ok v' w')∧Out w0 w' v' (L++[x]):=by
 obtain ⟨ps,h1,h2,h3⟩:=h.ex
 have hps:ps.length+1≤1000000:=by rw [← h1,List.length_map] at hl;exact hl
 obtain ⟨i0,hi,hz0,hz1,hz2⟩:=info_parts infoSp
 have a1:=h2.alloc (.cells #[.int .i64 x.kind,.string (S x.s),vk] 47)
 have hnew:=alloc_new w (.cells #[.int .i64 x.kind,.string (S x.s),vk] 47)
 have hsz:(w.alloc (.cells #[.int .i64 x.kind,.string (S x.s),vk] 47)).heap.size=w.heap.size+1:=by simp
 have kAl:Keep (fun k=>k < w0.heap.size∨some k=v.ownBlock) w (w.alloc (.cells #[.int .i64 x.kind,.string (S x.s),vk] 47)):=(Keep.refl _ _).alloc _
 have hcells:∀ j u,(encT (x,vk))[j]? = some u→(w.alloc (.cells #[.int .i64 x.kind,.string (S x.s),vk] 47)).cell? (Addr.add ⟨w.heap.size,0,none⟩ j)=some u:=fun j u hj=>by
   rw [add_zero,cell_at hnew]
   simpa [encT] using hj
 obtain ⟨v',w',g1,g2,g3,_,g5⟩:=run_append_own_at (P:=Tryz.prog) (w.alloc (.cells #[.int .i64 x.kind,.string (S x.s),vk] 47)) w0.heap.size 40 0 47 i0 (.agg #[.int .i64 0,.string ⟨#[]⟩,.slice none 0 0]) 3 48 Tryz.underlying40 hi hz0 hz1 hz2 rfl (by decide) v ps.length (ps.flatMap encT) a1.own ⟨w.heap.size,0,none⟩ 1 1 (encT (x,vk)) rfl hcells (by
   have:=encT_one (w:=w) (ps:=[(x,vk)]) (fun p hp=>by rw [List.mem_singleton] at hp;subst hp;exact hk.tr)
   rwa [flat_one] at this) (by unfold maxLen;omega) (by omega) a1.bel.size
 have kG:Keep (fun k=>k < w0.heap.size∨some k=v.ownBlock) w w':=kAl.grown g3 (fun k hk'=>Or.inl (Or.inr hk'.symm))
 refine ⟨v',w',fun ty=>g1,ps++[(x,vk)],by rw [List.map_append,h1];rfl,⟨?_,?_⟩,fun p hp=>?_⟩
 · exact a1.bel.grown g3 a1.bel.size (fun k hk'=>(a1.own.lt k hk').1)
 · rw [List.length_append,List.flatMap_append,flat_one]
   exact g2
 · rcases List.mem_append.1 hp with hp | hp
   · exact (h3 p hp).grown (w1:=w) (n:=w.heap.size+1) kG (by omega) (g5.imp id (fun h=>by rw [h,hsz]))
   · rw [List.mem_singleton] at hp
     subst hp
     exact hk.grown (w1:=w) (n:=w.heap.size+1) kG (by omega) (g5.imp id (fun h=>by rw [h,hsz]))
theorem Out.relast {w0 w:World} {v:Value} {L:List Sp} {x:Sp} (h:Out w0 w v (L++[x])) (hl:L.length+1≤1000000) :
   ∃ g cap ak ck,v = .slice (some ⟨g,0,none⟩) (L.length+1) cap∧L.length+1≤cap∧cap≤9223372036854775807∧g < w.heap.size ∧
     (w.cell? ⟨g,L.length*3,none⟩=some (.int .i64 x.kind)∧w.cell? ⟨g,L.length*3+1,none⟩=some (.string (S x.s))∧w.cell? ⟨g,L.length*3+2,none⟩=some (.slice ak x.kids.length ck)) ∧
     ∀ (w2:World) (c:Nat) (s':List UInt8),Below w.heap.size w w2→w2.heap[c]? = some (Obj.cells #[.int .i64 x.kind,.string (S s'),.slice ak x.kids.length ck] 47 (0,0)) →
       ∃ v' w',(∀ ty,(Builtin.append_ #[40,40] ty #[.slice (some ⟨g,0,none⟩) L.length L.length,.slice (some ⟨c,0,none⟩) 1 1]).run Tryz.prog w2 = .ok v' w')∧Out w0 w' v' (L++[.mk x.kind s' x.kids]):=by
 obtain ⟨ps,h1,h2,h3⟩:=h.ex
 obtain ⟨qs,pl,hps,hq,hpl⟩:=List.map_eq_append_iff.1 h1
 obtain ⟨p,hp1,hp2⟩:∃ p,pl=[p]∧p.1=x:=by
   match pl,hpl with
   | [p],hpl=>exact ⟨p,rfl,by simpa using hpl⟩
 subst hp1
 subst hps
 have hql:qs.length=L.length:=by rw [← hq,List.length_map]
 have hown:=h2.own
 have hkp:=h3 p (by simp)
 obtain ⟨ak,ck,hkv⟩:=hkp.tr.len
 rw [hp2] at hkv
 rcases hown.2 with ⟨_,h0⟩ | ⟨g,cap,cur,hv,hbg,hg,hnc,hcm,hcs,htake⟩
 · simp at h0
 have hlen:(qs++[p]).length=L.length+1:=by simp [hql]
 rw [hlen] at hv hnc
 have hcell:∀ j u,(encT p)[j]? = some u→w.cell? ⟨g,L.length*3+j,none⟩=some u:=fun j u hj=>by
   have h4:((qs++[p]).flatMap encT)[qs.length*3+j]? = some u:=flat_get encT_len (qs++[p]) qs.length p (by simp) j u hj
   have hjl:j < 3:=(List.getElem?_eq_some_iff.1 hj).1
   have hown2:=hown
   rw [hlen,hv] at hown2
   have:=hown2.cellAt (L.length*3+j) (by omega)
   rw [this,← hql]
   exact h4
 refine ⟨g,cap,ak,ck,hv,hnc,by unfold maxLen at hcm;omega,lt_of_at hg,⟨?_,?_,?_⟩,fun w2 c s' hb hc=>?_⟩
 · have:=hcell 0 _ rfl
   rw [hp2] at this
   exact this
 · have:=hcell 1 _ rfl
   rw [hp2] at this
   exact this
 · have:=hcell 2 _ rfl
   rw [hkv] at this
   exact this
 · obtain ⟨i0,hi,hz0,hz1,hz2⟩:=info_parts infoSp
   have a2:=h2.go hb
   have k2:∀ p'∈qs++[p],KidS w0.heap.size v.ownBlock w2 p':=fun p' hp'=>(h3 p' hp').go hb
   have hown2:=a2.own
   rw [hlen,hv] at hown2
   have holds:∀ j u,(qs.flatMap encT)[j]? = some u→w2.cell? ((⟨g,0,none⟩:Addr).add j)=some u:=fun j u hj=>by
     have hjl:j < qs.length*3:=by rw [← flat_len];exact (List.getElem?_eq_some_iff.1 hj).1
     rw [add_zero,hown2.cellAt j (by omega),List.flatMap_append,List.getElem?_append_left (by rw [flat_len];exact hjl)]
     exact hj
   have hnews:∀ j u,(encT (Sp.mk x.kind s' x.kids,Value.slice ak x.kids.length ck))[j]? = some u→w2.cell? ((⟨c,0,none⟩:Addr).add j)=some u:=fun j u hj=>by
     rw [add_zero,cell_at hc]
     have hj':([.int .i64 x.kind,.string (S s'),.slice ak x.kids.length ck]:List Value)[j]? = some u:=hj
     simpa using hj'
   have hr:=run_append_grow (P:=Tryz.prog) w2 40 0 47 i0 (.agg #[.int .i64 0,.string ⟨#[]⟩,.slice none 0 0]) Tryz.underlying40 hi hz0 ⟨g,0,none⟩ L.length L.length (qs.flatMap encT) (by rw [flat_len,hql,hz1]) holds ⟨c,0,none⟩ 1 1 (encT (Sp.mk x.kind s' x.kids,Value.slice ak x.kids.length ck)) (by rw [hz1];rfl) hnews (by omega) (by omega) (growslice_fits (by omega) (by rw [hz2];omega))
   have hsz:=h2.bel.size
   have hsz2:=hb.size
   refine ⟨_,_,fun ty=>hr,qs++[(Sp.mk x.kind s' x.kids,Value.slice ak x.kids.length ck)],by rw [List.map_append,hq];rfl,⟨?_,?_⟩,fun p' hp'=>?_⟩
   · exact (a2.bel.drew).alloc (by have:=a2.bel.size;exact this) _
   · have hge:=grownCap_ge w2 (L.length+1) L.length 47
     have hcm2:grownCap w2 (L.length+1) L.length 47≤maxLen:=grownCap_le_maxLen w2 (L.length+1) L.length 47 (by unfold maxLen;omega)
     have hll:(qs++[(Sp.mk x.kind s' x.kids,Value.slice ak x.kids.length ck)]).length=L.length+1:=by simp [hql]
     refine ⟨by rw [flat_len],.inr ⟨w2.heap.size,_,_,by rw [hll],by omega,heap_alloc_new w2.drew _,by rw [hll];exact hge,hcm2,?_,?_⟩⟩
     · simp only [Array.size_append,List.size_toArray,size_zeroCells,flat_len,encT_len,hql]
       simp [Value.cells]
       omega
     · rw [hll,List.flatMap_append,flat_one]
       simp only [Array.toList_append]
       rw [List.take_left' (by rw [List.length_append,flat_len,encT_len,hql];omega)]
   · have kA:Keep (fun k=>k < w0.heap.size∨some k=v.ownBlock) w2 (w2.drew.alloc (.cells ((qs.flatMap encT).toArray++(encT (Sp.mk x.kind s' x.kids,Value.slice ak x.kids.length ck)).toArray++Builtin.zeroCells (Value.agg #[.int .i64 0,.string ⟨#[]⟩,.slice none 0 0]).cells (grownCap w2 (L.length+1) L.length 47 - (L.length+1))) 47)):=(Keep.refl _ _).drew.alloc _
     rcases List.mem_append.1 hp' with hp' | hp'
     · exact (k2 p' (List.mem_append_left _ hp')).grown (w1:=w2) (n:=w2.heap.size) kA (Nat.le_refl _) (Or.inr rfl)
     · rw [List.mem_singleton] at hp'
       subst hp'
       have:=(k2 p (by simp)).grown (w1:=w2) (n:=w2.heap.size) (g':=some w2.heap.size) kA (Nat.le_refl _) (Or.inr rfl)
       intro w'' k
       have:=this w'' k
       rw [hp2,hkv] at this
       exact this
end Go.Proofs.YtihihgfcklkkhaaGreatDoor.Sp
namespace Go.Proofs.YtihihgfcklkkhaaGreatDoor.Sp
open Go.RowKit
open Go.Proofs.YtihihgfcklkkhaaGreatDoor.Tk (S S_of S_list S_size S_toList S_app ret_int)
open Go.Proofs.YtihihgfcklkkhaaGreatDoor.Cm (calls_at Rk Keep cell_at alloc_new alloc_at lt_of_at step_append_run set_at)
set_option linter.unusedVariables false
theorem step_run_ex {P:Program} {ops:Array Oper} {o:Oper} {a:Act} {w:World} {K:Act→World→Prop} {Q:Exit→Act→World→Prop} {E:Prop} {R:Value→World→Prop}
   (hg:o.guard=none) (s x:Operand) (t tn:TypeId) (hop:o.op=Op.call { callee:=Callee.builtin Builtin.append,args:=#[s,x],argTypes:=#[t,tn] })
   (vs vx:Value) (hs:a.eval s=vs) (hx:a.eval x=vx) (hr:∃ v' w',(∀ ty,(Builtin.append_ #[t,tn] ty #[vs,vx]).run P w = .ok v' w')∧R v' w') (hK:∀ v' w',R v' w'→K (a.put o.dst v') w') :
   if Region.wanted o (yielded ops a.tmps)=true then Oper.wp P o a w K Q else E:=by
 obtain ⟨v',w',h1,h2⟩:=hr
 exact step_append_run hg s x t tn hop vs vx hs hx v' w' h1 (hK v' w' h2)
def OutAns (w0:World) (L:List Sp) (e:Ending) (w':World):Prop:=∃ v',e = .returned v'∧Out w0 w' v' L
set_option maxHeartbeats 6400000 in
set_option maxRecDepth 100000 in
theorem rtext_any {w0 w:World} {v:Value} {L:List Sp} (h:Out w0 w v L) (s:List UInt8) (hs:s.length≤1000000) (hL:∀ x∈L,x.s.length≤1000000) (hn:L.length+1≤1000000) :
   Calls Tryz.prog 131 #[v,.string (S s)] w (OutAns w0 (snocT L s)):=by
 have HP:Hid (∃ v' w',(∀ ty,(Builtin.append_ #[40,40] ty #[v,.slice (some ⟨w.heap.size,0,none⟩) 1 1]).run Tryz.prog (w.alloc (.cells #[.int .i64 1,.string (S s),.slice none 0 0] 47)) = .ok v' w')∧Out w0 w' v' (L++[.mk 1 s []])):=Lib.hid (h.push (x:=.mk 1 s []) (KidS.nil 1 s) hn)
 rcases List.eq_nil_or_concat L with rfl | ⟨M,x,rfl⟩
 · obtain ⟨v',w',hr,ho⟩:=HP.out
   obtain ⟨ao,ca,rfl⟩:=h.tr.len
   have HO:=Lib.hid ho
   clear ho h HP hL
   generalize S s=t at *
   go_enter Tryz.func131,Tryz.ntmps131
   go_wp2_with (at_builtin;refine Lib.wpList_append_run _ rfl _ _ _ _ rfl _ _ rfl rfl _ _ (hr _) ?_)
   go_ret
   exact ⟨_,rfl,HO.out⟩
 · rw [List.concat_eq_append] at h hL hn HP ⊢
   rw [List.length_append,List.length_singleton] at hn
   by_cases hk:x.kind=1
   · have hxs:=hL x (by simp)
     obtain ⟨g,cap,ak,ck,rfl,hc1,hc2,hg,⟨c0,c1,c2⟩,hrun⟩:=h.relast (by omega)
     have HO:Hid (snocT (M++[x]) s=M++[.mk x.kind (x.s++s) x.kids]):=Lib.hid (by rw [snocT_app,if_pos hk])
     have HRun:=Lib.hid (fun w2 c (hb:Below w.heap.size w w2)=>hrun w2 c (x.s++s) hb)
     have hap:=Lib.hid (S_app x.s s)
     have z1:(S x.s).size=x.s.length:=S_size _
     have z2:(S s).size=s.length:=S_size _
     have g1:¬ 9223372036854775807 < (S x.s).size+(S s).size:=by omega
     have e1:(x.kind == 1)=true:=by rw [hk];rfl
     have hm:((M.length+1:Nat):Int) - 1=(M.length:Int):=by omega
     have hgt:0 < ((M.length+1:Nat):Int):=by omega
     rw [HO.out]
     clear h HP hL hrun hxs HO hk
     generalize S x.s=tx at *
     generalize S s=t at *
     generalize S (x.s++s)=tn at *
     generalize x.kids.length=kn at *
     generalize x.kind=z at *
     go_enter Tryz.func131,Tryz.ntmps131
     go_upto_region 4 with fail
     rw [hap.out]
     have HB1:=Lib.hid ((Below.refl w.heap.size w).alloc (Nat.le_refl _) (.cells #[.int .i64 z,.string tn,.slice ak kn ck] 47))
     have HC1:=Lib.hid (alloc_new w (.cells #[.int .i64 z,.string tn,.slice ak kn ck] 47))
     generalize w.alloc (.cells #[.int .i64 z,.string tn,.slice ak kn ck] 47)=w1 at *
     have a0:w1.cell? ⟨w.heap.size,0,none⟩=some (.int .i64 z):=cell_at HC1.out 0
     have a1:w1.cell? ⟨w.heap.size,1,none⟩=some (.string tn):=cell_at HC1.out 1
     have a2:w1.cell? ⟨w.heap.size,2,none⟩=some (.slice ak kn ck):=cell_at HC1.out 2
     have hmc:M.length≤cap:=by omega
     have hwr:IntKind.i64.wrap (M.length:Int)=(M.length:Int):=by
       unfold IntKind.wrap
       simp [IntKind.bits,IntKind.signed]
       omega
     have hmx:max (M.length:Int) 0=(M.length:Int):=by omega
     clear c0 c1 c2 hap
     go_region_law (first
       | (refine step_run_ex rfl (.tmp 37) (.tmp 39) _ _ rfl _ _ rfl rfl (HRun.out _ _ (by repeat (first | exact HB1.out | apply bel_d | apply bel_a)) (by first | exact alloc_new _ _ | exact alloc_new _ _)) ?_
          intro v7 w7 H7))
     all_goals (
       have HF:=Lib.hid H7
       clear H7
       go_simp
       go_wp2_with fail
       go_ret
       exact ⟨_,rfl,HF.out⟩)
   · obtain ⟨v',w',hr,ho⟩:=HP.out
     have HO:Hid (Out w0 w' v' (snocT (M++[x]) s)):=Lib.hid (by rw [snocT_app,if_neg hk];simpa using ho)
     have hx:=h.tr
     obtain ⟨ao,ca,rfl⟩:=hx.len
     have hml:(M++[x]).length=M.length+1:=by simp
     obtain ⟨b,o,ak,ck,rfl,hbl,hC⟩:=hx.at M.length (by omega)
     rw [List.getElem_append_right (Nat.le_refl _)] at hC
     simp only [Nat.sub_self,List.getElem_cons_zero] at hC
     have c0:=hC.kind
     have e1:(x.kind == 1)=false:=by rw [beq_eq_false_iff_ne];exact hk
     rw [hml] at hr ⊢
     clear ho h HP hL hC hx hml
     generalize S s=t at *
     generalize x.kind=z at *
     generalize M.length=n at *
     go_enter Tryz.func131,Tryz.ntmps131
     go_wp2_with (at_builtin;refine Lib.wpList_append_run _ rfl _ _ _ _ rfl _ _ rfl rfl _ _ (hr _) ?_)
     go_ret
     exact ⟨_,rfl,HO.out⟩
end Go.Proofs.YtihihgfcklkkhaaGreatDoor.Sp
namespace Go.Proofs.YtihihgfcklkkhaaGreatDoor.Tk
open Go.RowKit
set_option linter.unusedVariables false
def clsI (c:Int):Int :=
 if c=10∨c=13 then 3 else if c=9∨c=32 then 2
 else if (33≤c∧c≤47)∨(58≤c∧c≤64)∨(91≤c∧c≤96)∨(123≤c∧c≤126) then 4 else 1
theorem clsI3 (c:Int) (h:c=10∨c=13):clsI c=3:=by unfold clsI;rw [if_pos h]
theorem clsI2 (c:Int) (h:c=9∨c=32):clsI c=2:=by unfold clsI;rw [if_neg (by omega),if_pos h]
theorem clsI4 (c:Int) (h:(33≤c∧c≤47)∨(58≤c∧c≤64)∨(91≤c∧c≤96)∨(123≤c∧c≤126)):clsI c=4:=by
 unfold clsI;rw [if_neg (by omega),if_neg (by omega),if_pos h]
theorem clsI1 (c:Int) (h1:¬ (c=10∨c=13)) (h2:¬ (c=9∨c=32)) (h:¬ ((33≤c∧c≤47)∨(58≤c∧c≤64)∨(91≤c∧c≤96)∨(123≤c∧c≤126))):clsI c=1:=by
 unfold clsI;rw [if_neg h1,if_neg h2,if_neg h]
theorem clsI_cases (c:Int):(c=10∨c=13)∨(c=9∨c=32)∨(33≤c∧c≤47)∨(58≤c∧c≤64)∨(91≤c∧c≤96)∨(123≤c∧c≤126)∨(c < 9∨(11≤c∧c≤12)∨(14≤c∧c≤31)∨(48≤c∧c≤57)∨(65≤c∧c≤90)∨(97≤c∧c≤122)∨127≤c):=by omega
set_option maxHeartbeats 2000000 in
theorem class_any (c:Int) (w:World) :
   Calls Tryz.prog 168 #[.int .i64 c] w fun e w'=>e = .returned (.int .i64 (clsI c))∧w=w':=by
 rcases clsI_cases c with (h | h) | (h | h) | h | h | h | h | (h | h | h | h | h | h | h)
 · subst h;have H:=Lib.hid (clsI3 10 (Or.inl rfl))
   go_enter Tryz.func168,Tryz.ntmps168
   go_wp2
   all_goals go_ret
   all_goals exact ⟨ret_int H.out.symm,rfl⟩
 · subst h;have H:=Lib.hid (clsI3 13 (Or.inr rfl))
   go_enter Tryz.func168,Tryz.ntmps168
   go_wp2
   all_goals go_ret
   all_goals exact ⟨ret_int H.out.symm,rfl⟩
 · subst h;have H:=Lib.hid (clsI2 9 (Or.inl rfl))
   go_enter Tryz.func168,Tryz.ntmps168
   go_wp2
   all_goals go_ret
   all_goals exact ⟨ret_int H.out.symm,rfl⟩
 · subst h;have H:=Lib.hid (clsI2 32 (Or.inr rfl))
   go_enter Tryz.func168,Tryz.ntmps168
   go_wp2
   all_goals go_ret
   all_goals exact ⟨ret_int H.out.symm,rfl⟩
 · have H:=Lib.hid (clsI4 c (by omega))
   have e10:(c == 10)=false:=beq_eq_false_iff_ne.2 (by omega)
   have e13:(c == 13)=false:=beq_eq_false_iff_ne.2 (by omega)
   have e9:(c == 9)=false:=beq_eq_false_iff_ne.2 (by omega)
   have e32:(c == 32)=false:=beq_eq_false_iff_ne.2 (by omega)
   go_enter Tryz.func168,Tryz.ntmps168
   go_wp2
   all_goals go_ret
   all_goals exact ⟨ret_int H.out.symm,rfl⟩
 · have H:=Lib.hid (clsI4 c (by omega))
   have e10:(c == 10)=false:=beq_eq_false_iff_ne.2 (by omega)
   have e13:(c == 13)=false:=beq_eq_false_iff_ne.2 (by omega)
   have e9:(c == 9)=false:=beq_eq_false_iff_ne.2 (by omega)
   have e32:(c == 32)=false:=beq_eq_false_iff_ne.2 (by omega)
   go_enter Tryz.func168,Tryz.ntmps168
   go_wp2
   all_goals go_ret
   all_goals exact ⟨ret_int H.out.symm,rfl⟩
 · have H:=Lib.hid (clsI4 c (by omega))
   have e10:(c == 10)=false:=beq_eq_false_iff_ne.2 (by omega)
   have e13:(c == 13)=false:=beq_eq_false_iff_ne.2 (by omega)
   have e9:(c == 9)=false:=beq_eq_false_iff_ne.2 (by omega)
   have e32:(c == 32)=false:=beq_eq_false_iff_ne.2 (by omega)
   go_enter Tryz.func168,Tryz.ntmps168
   go_wp2
   all_goals go_ret
   all_goals exact ⟨ret_int H.out.symm,rfl⟩
 · have H:=Lib.hid (clsI4 c (by omega))
   have e10:(c == 10)=false:=beq_eq_false_iff_ne.2 (by omega)
   have e13:(c == 13)=false:=beq_eq_false_iff_ne.2 (by omega)
   have e9:(c == 9)=false:=beq_eq_false_iff_ne.2 (by omega)
   have e32:(c == 32)=false:=beq_eq_false_iff_ne.2 (by omega)
   go_enter Tryz.func168,Tryz.ntmps168
   go_wp2
   all_goals go_ret
   all_goals exact ⟨ret_int H.out.symm,rfl⟩
 · have H:=Lib.hid (clsI1 c (by omega) (by omega) (by omega))
   have e10:(c == 10)=false:=beq_eq_false_iff_ne.2 (by omega)
   have e13:(c == 13)=false:=beq_eq_false_iff_ne.2 (by omega)
   have e9:(c == 9)=false:=beq_eq_false_iff_ne.2 (by omega)
   have e32:(c == 32)=false:=beq_eq_false_iff_ne.2 (by omega)
   go_enter Tryz.func168,Tryz.ntmps168
   go_wp2
   all_goals go_ret
   all_goals exact ⟨ret_int H.out.symm,rfl⟩
 · have H:=Lib.hid (clsI1 c (by omega) (by omega) (by omega))
   have e10:(c == 10)=false:=beq_eq_false_iff_ne.2 (by omega)
   have e13:(c == 13)=false:=beq_eq_false_iff_ne.2 (by omega)
   have e9:(c == 9)=false:=beq_eq_false_iff_ne.2 (by omega)
   have e32:(c == 32)=false:=beq_eq_false_iff_ne.2 (by omega)
   go_enter Tryz.func168,Tryz.ntmps168
   go_wp2
   all_goals go_ret
   all_goals exact ⟨ret_int H.out.symm,rfl⟩
 · have H:=Lib.hid (clsI1 c (by omega) (by omega) (by omega))
   have e10:(c == 10)=false:=beq_eq_false_iff_ne.2 (by omega)
   have e13:(c == 13)=false:=beq_eq_false_iff_ne.2 (by omega)
   have e9:(c == 9)=false:=beq_eq_false_iff_ne.2 (by omega)
   have e32:(c == 32)=false:=beq_eq_false_iff_ne.2 (by omega)
   go_enter Tryz.func168,Tryz.ntmps168
   go_wp2
   all_goals go_ret
   all_goals exact ⟨ret_int H.out.symm,rfl⟩
 · have H:=Lib.hid (clsI1 c (by omega) (by omega) (by omega))
   have e10:(c == 10)=false:=beq_eq_false_iff_ne.2 (by omega)
   have e13:(c == 13)=false:=beq_eq_false_iff_ne.2 (by omega)
   have e9:(c == 9)=false:=beq_eq_false_iff_ne.2 (by omega)
   have e32:(c == 32)=false:=beq_eq_false_iff_ne.2 (by omega)
   go_enter Tryz.func168,Tryz.ntmps168
   go_wp2
   all_goals go_ret
   all_goals exact ⟨ret_int H.out.symm,rfl⟩
 · have H:=Lib.hid (clsI1 c (by omega) (by omega) (by omega))
   have e10:(c == 10)=false:=beq_eq_false_iff_ne.2 (by omega)
   have e13:(c == 13)=false:=beq_eq_false_iff_ne.2 (by omega)
   have e9:(c == 9)=false:=beq_eq_false_iff_ne.2 (by omega)
   have e32:(c == 32)=false:=beq_eq_false_iff_ne.2 (by omega)
   go_enter Tryz.func168,Tryz.ntmps168
   go_wp2
   all_goals go_ret
   all_goals exact ⟨ret_int H.out.symm,rfl⟩
 · have H:=Lib.hid (clsI1 c (by omega) (by omega) (by omega))
   have e10:(c == 10)=false:=beq_eq_false_iff_ne.2 (by omega)
   have e13:(c == 13)=false:=beq_eq_false_iff_ne.2 (by omega)
   have e9:(c == 9)=false:=beq_eq_false_iff_ne.2 (by omega)
   have e32:(c == 32)=false:=beq_eq_false_iff_ne.2 (by omega)
   go_enter Tryz.func168,Tryz.ntmps168
   go_wp2
   all_goals go_ret
   all_goals exact ⟨ret_int H.out.symm,rfl⟩
 · have H:=Lib.hid (clsI1 c (by omega) (by omega) (by omega))
   have e10:(c == 10)=false:=beq_eq_false_iff_ne.2 (by omega)
   have e13:(c == 13)=false:=beq_eq_false_iff_ne.2 (by omega)
   have e9:(c == 9)=false:=beq_eq_false_iff_ne.2 (by omega)
   have e32:(c == 32)=false:=beq_eq_false_iff_ne.2 (by omega)
   go_enter Tryz.func168,Tryz.ntmps168
   go_wp2
   all_goals go_ret
   all_goals exact ⟨ret_int H.out.symm,rfl⟩
set_option maxHeartbeats 2000000 in
theorem rclass_any (c:Int) (w:World) :
   Calls Tryz.prog 130 #[.int .i64 c] w fun e w'=>e = .returned (.int .i64 (clsI c))∧w=w':=by
 rcases clsI_cases c with (h | h) | (h | h) | h | h | h | h | (h | h | h | h | h | h | h)
 · subst h;have H:=Lib.hid (clsI3 10 (Or.inl rfl))
   go_enter Tryz.func130,Tryz.ntmps130
   go_wp2
   all_goals go_ret
   all_goals exact ⟨ret_int H.out.symm,rfl⟩
 · subst h;have H:=Lib.hid (clsI3 13 (Or.inr rfl))
   go_enter Tryz.func130,Tryz.ntmps130
   go_wp2
   all_goals go_ret
   all_goals exact ⟨ret_int H.out.symm,rfl⟩
 · subst h;have H:=Lib.hid (clsI2 9 (Or.inl rfl))
   go_enter Tryz.func130,Tryz.ntmps130
   go_wp2
   all_goals go_ret
   all_goals exact ⟨ret_int H.out.symm,rfl⟩
 · subst h;have H:=Lib.hid (clsI2 32 (Or.inr rfl))
   go_enter Tryz.func130,Tryz.ntmps130
   go_wp2
   all_goals go_ret
   all_goals exact ⟨ret_int H.out.symm,rfl⟩
 · have H:=Lib.hid (clsI4 c (by omega))
   have e10:(c == 10)=false:=beq_eq_false_iff_ne.2 (by omega)
   have e13:(c == 13)=false:=beq_eq_false_iff_ne.2 (by omega)
   have e9:(c == 9)=false:=beq_eq_false_iff_ne.2 (by omega)
   have e32:(c == 32)=false:=beq_eq_false_iff_ne.2 (by omega)
   go_enter Tryz.func130,Tryz.ntmps130
   go_wp2
   all_goals go_ret
   all_goals exact ⟨ret_int H.out.symm,rfl⟩
 · have H:=Lib.hid (clsI4 c (by omega))
   have e10:(c == 10)=false:=beq_eq_false_iff_ne.2 (by omega)
   have e13:(c == 13)=false:=beq_eq_false_iff_ne.2 (by omega)
   have e9:(c == 9)=false:=beq_eq_false_iff_ne.2 (by omega)
   have e32:(c == 32)=false:=beq_eq_false_iff_ne.2 (by omega)
   go_enter Tryz.func130,Tryz.ntmps130
   go_wp2
   all_goals go_ret
   all_goals exact ⟨ret_int H.out.symm,rfl⟩
 · have H:=Lib.hid (clsI4 c (by omega))
   have e10:(c == 10)=false:=beq_eq_false_iff_ne.2 (by omega)
   have e13:(c == 13)=false:=beq_eq_false_iff_ne.2 (by omega)
   have e9:(c == 9)=false:=beq_eq_false_iff_ne.2 (by omega)
   have e32:(c == 32)=false:=beq_eq_false_iff_ne.2 (by omega)
   go_enter Tryz.func130,Tryz.ntmps130
   go_wp2
   all_goals go_ret
   all_goals exact ⟨ret_int H.out.symm,rfl⟩
 · have H:=Lib.hid (clsI4 c (by omega))
   have e10:(c == 10)=false:=beq_eq_false_iff_ne.2 (by omega)
   have e13:(c == 13)=false:=beq_eq_false_iff_ne.2 (by omega)
   have e9:(c == 9)=false:=beq_eq_false_iff_ne.2 (by omega)
   have e32:(c == 32)=false:=beq_eq_false_iff_ne.2 (by omega)
   go_enter Tryz.func130,Tryz.ntmps130
   go_wp2
   all_goals go_ret
   all_goals exact ⟨ret_int H.out.symm,rfl⟩
 · have H:=Lib.hid (clsI1 c (by omega) (by omega) (by omega))
   have e10:(c == 10)=false:=beq_eq_false_iff_ne.2 (by omega)
   have e13:(c == 13)=false:=beq_eq_false_iff_ne.2 (by omega)
   have e9:(c == 9)=false:=beq_eq_false_iff_ne.2 (by omega)
   have e32:(c == 32)=false:=beq_eq_false_iff_ne.2 (by omega)
   go_enter Tryz.func130,Tryz.ntmps130
   go_wp2
   all_goals go_ret
   all_goals exact ⟨ret_int H.out.symm,rfl⟩
 · have H:=Lib.hid (clsI1 c (by omega) (by omega) (by omega))
   have e10:(c == 10)=false:=beq_eq_false_iff_ne.2 (by omega)
   have e13:(c == 13)=false:=beq_eq_false_iff_ne.2 (by omega)
   have e9:(c == 9)=false:=beq_eq_false_iff_ne.2 (by omega)
   have e32:(c == 32)=false:=beq_eq_false_iff_ne.2 (by omega)
   go_enter Tryz.func130,Tryz.ntmps130
   go_wp2
   all_goals go_ret
   all_goals exact ⟨ret_int H.out.symm,rfl⟩
 · have H:=Lib.hid (clsI1 c (by omega) (by omega) (by omega))
   have e10:(c == 10)=false:=beq_eq_false_iff_ne.2 (by omega)
   have e13:(c == 13)=false:=beq_eq_false_iff_ne.2 (by omega)
   have e9:(c == 9)=false:=beq_eq_false_iff_ne.2 (by omega)
   have e32:(c == 32)=false:=beq_eq_false_iff_ne.2 (by omega)
   go_enter Tryz.func130,Tryz.ntmps130
   go_wp2
   all_goals go_ret
   all_goals exact ⟨ret_int H.out.symm,rfl⟩
 · have H:=Lib.hid (clsI1 c (by omega) (by omega) (by omega))
   have e10:(c == 10)=false:=beq_eq_false_iff_ne.2 (by omega)
   have e13:(c == 13)=false:=beq_eq_false_iff_ne.2 (by omega)
   have e9:(c == 9)=false:=beq_eq_false_iff_ne.2 (by omega)
   have e32:(c == 32)=false:=beq_eq_false_iff_ne.2 (by omega)
   go_enter Tryz.func130,Tryz.ntmps130
   go_wp2
   all_goals go_ret
   all_goals exact ⟨ret_int H.out.symm,rfl⟩
 · have H:=Lib.hid (clsI1 c (by omega) (by omega) (by omega))
   have e10:(c == 10)=false:=beq_eq_false_iff_ne.2 (by omega)
   have e13:(c == 13)=false:=beq_eq_false_iff_ne.2 (by omega)
   have e9:(c == 9)=false:=beq_eq_false_iff_ne.2 (by omega)
   have e32:(c == 32)=false:=beq_eq_false_iff_ne.2 (by omega)
   go_enter Tryz.func130,Tryz.ntmps130
   go_wp2
   all_goals go_ret
   all_goals exact ⟨ret_int H.out.symm,rfl⟩
 · have H:=Lib.hid (clsI1 c (by omega) (by omega) (by omega))
   have e10:(c == 10)=false:=beq_eq_false_iff_ne.2 (by omega)
   have e13:(c == 13)=false:=beq_eq_false_iff_ne.2 (by omega)
   have e9:(c == 9)=false:=beq_eq_false_iff_ne.2 (by omega)
   have e32:(c == 32)=false:=beq_eq_false_iff_ne.2 (by omega)
   go_enter Tryz.func130,Tryz.ntmps130
   go_wp2
   all_goals go_ret
   all_goals exact ⟨ret_int H.out.symm,rfl⟩
 · have H:=Lib.hid (clsI1 c (by omega) (by omega) (by omega))
   have e10:(c == 10)=false:=beq_eq_false_iff_ne.2 (by omega)
   have e13:(c == 13)=false:=beq_eq_false_iff_ne.2 (by omega)
   have e9:(c == 9)=false:=beq_eq_false_iff_ne.2 (by omega)
   have e32:(c == 32)=false:=beq_eq_false_iff_ne.2 (by omega)
   go_enter Tryz.func130,Tryz.ntmps130
   go_wp2
   all_goals go_ret
   all_goals exact ⟨ret_int H.out.symm,rfl⟩
theorem cls_nat (b:UInt8):clsI b.toNat=(cls b:Int):=by
 have h:∀ b:UInt8,clsI b.toNat=(cls b:Int):=by
   intro b
   unfold clsI cls
   have e:∀ c:UInt8,(b=c↔(b.toNat:Int)=c.toNat):=fun c=>⟨fun h=>by rw [h],fun h=>UInt8.toNat_inj.1 (by omega)⟩
   have l:∀ c:UInt8,(b≤c↔(b.toNat:Int)≤c.toNat):=fun c=>by rw [UInt8.le_iff_toNat_le];omega
   have g:∀ c:UInt8,(c≤b↔(c.toNat:Int)≤b.toNat):=fun c=>by rw [UInt8.le_iff_toNat_le];omega
   simp only [e,l,g]
   generalize (b.toNat:Int)=x
   show (if x=10∨x=13 then (3:Int) else if x=9∨x=32 then 2 else if (33≤x∧x≤47)∨(58≤x∧x≤64)∨(91≤x∧x≤96)∨(123≤x∧x≤126) then 4 else 1)=((if x=10∨x=13 then (3:Nat) else if x=9∨x=32 then 2 else if (33≤x∧x≤47)∨(58≤x∧x≤64)∨(91≤x∧x≤96)∨(123≤x∧x≤126) then 4 else 1:Nat):Int)
   split
   · rfl
   · split
     · rfl
     · split <;> rfl
 exact h b
theorem class8 (b:UInt8) (w:World):Calls Tryz.prog 168 #[.int .i64 b.toNat] w fun e w'=>e = .returned (.int .i64 (cls b))∧w=w':=by
 have:=class_any b.toNat w;rwa [cls_nat] at this
theorem rclass8 (b:UInt8) (w:World):Calls Tryz.prog 130 #[.int .i64 b.toNat] w fun e w'=>e = .returned (.int .i64 (cls b))∧w=w':=by
 have:=rclass_any b.toNat w;rwa [cls_nat] at this
end Go.Proofs.YtihihgfcklkkhaaGreatDoor.Tk
