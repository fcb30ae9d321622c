import Derived.Test.YtpakjdgddomdjabGreatDoorPkC
import Derived.Lib.Builder
import Derived.Lib.OthersKept
import Derived.Lib.Walk
import Derived.Laws.Externs
import Derived.Shelf.Strings.Builder1
import Derived.Test.YtpakjdgddomdjabGreatDoorPkF
import Derived.Test.YtpakjdgddomdjabGreatDoorPkK
set_option linter.unusedVariables false
namespace Go.Proofs.YtpakjdgddomdjabGreatDoor
namespace Sp
open Go.RowKit
theorem sizeB:(Tryz.prog.info? 84).map (·.size)=some 2:=by kernel_rfl
theorem liesB:liesAt Tryz.prog Tryz.prog.depth 84 (2/Tryz.prog.cellsOf 84) 0 84 1=true:=by kernel_rfl
theorem infoB:(Tryz.prog.info? 5).map (fun i=>(i.zero,i.size,i.bytes))=some (some (.int .u8 0),1,1):=by kernel_rfl
set_option maxHeartbeats 1000000 in
set_option maxRecDepth 100000 in
theorem check_used (b:Nat) (w:World) (h0:w.cell? ⟨b,0,none⟩=some (.pointer (some ⟨b,0,none⟩))):
  Calls Tryz.prog 85 #[.pointer (some ⟨b,0,none⟩)] w fun e w'=>e=.returned (.tuple #[])∧w=w':=by
 obtain⟨j,hj,_⟩:=Option.map_eq_some_iff.1 sizeB;go_enter Tryz.func85,Tryz.ntmps85;go_wp2;rw[Lib.run_neq_ptr_same w _ Tryz.underlying82 hj];go_wp2;go_end0;exact⟨rfl,rfl⟩
set_option maxHeartbeats 1000000 in
set_option maxRecDepth 100000 in
theorem check_fresh (b:Nat) (w:World) (h0:w.cell? ⟨b,0,none⟩=some (.pointer none)) (hsh:w.shape? b=some (84,2)) (hfz:w.frozen? ⟨b,0,none⟩=false):
  Calls Tryz.prog 85 #[.pointer (some ⟨b,0,none⟩)] w fun e w'=>e=.returned (.tuple #[])∧w'=w.setCell ⟨b,0,none⟩ (.pointer (some ⟨b,0,none⟩)):=by
 obtain⟨j,hj,hjs⟩:=Option.map_eq_some_iff.1 sizeB;go_enter Tryz.func85,Tryz.ntmps85;go_wp2;rw[Lib.run_to_unsafe w ⟨b,0,none⟩ Tryz.underlying82 Tryz.underlying131 hj (by rw[hjs];decide) hsh (Nat.zero_lt_succ 1)];simp only[Result.andThen];rw[Oper.upon_value];go_wp2;rw[run_callFunc_extern Tryz.func120 (by kernel_rfl) (by kernel_rfl) (by kernel_rfl) (e:=Extern.AbiNoEscape.same) (by kernel_rfl)];rw[Lib.run_noEscape];simp only[Result.andThen];rw[Oper.upon_value];go_wp2;rw[Lib.run_from_unsafe w ⟨b,0,none⟩ Tryz.underlying131 Tryz.underlying82 hj hsh liesB];simp only[Result.andThen];rw[Oper.upon_value];go_wp2;go_end0;exact⟨rfl,rfl⟩
theorem checkK_any (B b:Nat) (bs:List Value) (w:World) (h:Lib.IsBuilder 84 5 B b bs w):
  Calls Tryz.prog 85 #[.pointer (some ⟨b,0,none⟩)] w fun e w'=>e=.returned (.tuple #[])∧Lib.BuilderAt 84 5 B b (.pointer (some ⟨b,0,none⟩)) bs w'∧Below B w w'∧Lib.OthersKept 5 (some b) w w':=by
 rcases h with h |h
 ·refine(check_fresh b w h.cell0 h.shape h.frozen0).mono ?_
  rintro e w' ⟨rfl,rfl⟩;exact⟨rfl,h.used _,(Below.refl B w).setCell (p:=⟨b,0,none⟩) h.1 _,(Lib.OthersKept.refl _ _ w).setCell ⟨b,0,none⟩ rfl _⟩
 ·refine(check_used b w h.cell0).mono ?_
  rintro e w' ⟨rfl,rfl⟩;exact⟨rfl,h,Below.refl B _,Lib.OthersKept.refl _ _ _⟩
theorem ownsRow_kind {w:World} {B:Nat} {e:TypeId} {v:Value} {n:Nat} {xs:List Value} (h:w.ownsRow B e 1 v n xs):∀g,v.ownBlock=some g→∃c fz,w.heap[g]? = some (.cells c e fz):=by
 intro g hg;rcases h.2 with ⟨rfl,_⟩|⟨g',cap,cur,rfl,_,hgg,_⟩
 ·simp[Value.ownBlock]at hg
 ·simp[Value.ownBlock]at hg
  subst hg;exact⟨cur,_,hgg⟩
set_option maxHeartbeats 2000000 in
set_option maxRecDepth 100000 in
theorem writeS_any (B b:Nat) (bs:List Value) (s:ByteArray) (w:World) (h:Lib.IsBuilder 84 5 B b bs w) (hlen:bs.length+s.size≤140737488355328) (hBw:B≤w.heap.size):
  Calls Tryz.prog 54 #[.pointer (some ⟨b,0,none⟩),.string s] w fun e w'=>e=.returned (.tuple #[.int .i64 s.size,.nilIface])∧(Lib.BuilderAt 84 5 B b (.pointer (some ⟨b,0,none⟩)) (bs++Lib.strCells s) w'∧Below B w w'∧Lib.OthersKept 5 (some b) w w'):=by
 obtain⟨i0,hi,hz0,hz1,hz2⟩:=info_parts infoB;go_enter Tryz.func54,Tryz.ntmps54;go_wp2_with fail;refine(checkK_any B b bs w h).mono ?_;rintro e w1 ⟨rfl,h1,hb1,hk1⟩;obtain⟨hB,v,hbk,hown,hne⟩:=h1;have c0:w1.cell? ⟨b,0,none⟩=some (.pointer (some ⟨b,0,none⟩)):=by rw[Lib.cell_of_heap hbk];rfl
 have c1:w1.cell? ⟨b,1,none⟩=some v:=by rw[Lib.cell_of_heap hbk];rfl
 go_wp2_with (at_builtin;refine Lib.wpList_append_own_string _ rfl _ _ 49 9 rfl B 5 i0 Tryz.underlying49 Tryz.underlying9 hi hz0 hz1 hz2 _ _ _ rfl hown s rfl ?c3 ?c4 ?c5 ?_)
 case c3=>unfold maxLen;omega
 case c4=>omega
 case c5=>have:=hb1.size;omega
 intro v' w2 hown' hgrow _
 have hlt:b<w1.heap.size:=by
  rcases Nat.lt_or_ge b w1.heap.size with h' |h'
  ·exact h'
  ·simp[Array.getElem?_eq_none h']at hbk
 have hb2:w2.heap[b]? = some (.cells #[.pointer (some ⟨b,0,none⟩),v] 84 (0,0)):=by
  rw[hgrow.block b hlt (fun e=>hne e.symm)];exact hbk
 have d0:w2.cell? ⟨b,0,none⟩=some (.pointer (some ⟨b,0,none⟩)):=by rw[Lib.cell_of_heap hb2];rfl
 have d1:w2.cell? ⟨b,1,none⟩=some v:=by rw[Lib.cell_of_heap hb2];rfl
 have f1:w2.frozen? ⟨b,1,none⟩=false:=Lib.frozen_of_heap hb2 1
 obtain⟨ao,n',cap,rfl⟩:∃ao n' cap,v'=.slice ao n' cap:=by
  rcases hown'.2 with ⟨hv,_⟩|⟨g,cap,cur,hv,_⟩
  ·exact⟨_,_,_,hv⟩
  ·exact⟨_,_,_,hv⟩
 go_wp2;go_ret2;refine⟨rfl,?_,?_,(hk1.grown hgrow (ownsRow_kind hown)).setCell ⟨b,1,none⟩ rfl _⟩
 ·exact Lib.BuilderAt.put (T:=84) (e:=5) hB hb2 (bs':=bs++Lib.strCells s) (by simpa [Lib.strCells_length]using hown') (by decide)
 ·exact(hb1.grown hgrow (by have:=hb1.size;omega) (fun k hk=>(hown.lt k hk).1)).setCell (p:=⟨b,1,none⟩) hB _
end Sp
namespace Sp
open Go.RowKit
open Tk (S)
open Cm (Keep own_keep cell_at lt_of_at own_obj set_at)
def SpB (w:World) (k:Nat):Prop:=∃us fr,w.heap[k]? = some (.cells us 71 fr)
theorem SpB.not {w:World} {k:Nat} {us:Array Value} {t:TypeId} {fr:Nat × Nat} (h:w.heap[k]? = some (.cells us t fr)) (ht:t≠71):¬SpB w k:=fun⟨us',fr',h'⟩=>ht (type_eq h h')
def SkK (B:Nat) (g:Option Nat) (w:World) (k:Nat):Prop:=k<B∨some k=g∨¬SpB w k
def KidT (B:Nat) (g:Option Nat) (w:World) (p:Sp × Value):Prop:=∀w',Keep (SkK B g w) w w'→Tr w' p.2 p.1.kids
def FreshT (B:Nat) (w:World) (v:Value) (l:List Sp):Prop:=∀w',Keep (fun k=>k<B∨¬SpB w k) w w'→Tr w' v l
theorem keep_chain {S S':Nat→Prop} {w w' w'':World} (h:Keep S w w') (k:Keep S' w' w'') (hS:∀j,j<w.heap.size→¬S j→¬S' j):Keep S w w'':=
 ⟨k.os.trans h.os,k.tape.trans h.tape,k.output.trans h.output,Nat.le_trans h.size k.size,fun j hj hs=>(k.block j (Nat.lt_of_lt_of_le hj h.size) (hS j hj hs)).trans (h.block j hj hs)⟩
theorem SpB.same {w w':World} {k:Nat} (h:w'.heap[k]? = w.heap[k]?):SpB w' k↔SpB w k:=by unfold SpB;rw[h]
theorem KidT.keep {S:Nat→Prop} {B:Nat} {g g':Option Nat} {w w':World} {p:Sp × Value} (h:KidT B g w p) (k:Keep S w w') (hS:∀j,S j→SkK B g w j) (hg:g'=g∨∃n,g'=some n∧w.heap.size≤n):KidT B g' w' p:=fun w'' k''=>by
 refine h w'' (keep_chain (k.mono (fun j _ hj=>hS j hj)) k'' (fun j hj hs hs'=>?_));have hb:=k.block j hj (fun h=>hs (hS j h));rcases hs' with h1 |h1 |h1
 ·exact hs (Or.inl h1)
 ·rcases hg with hg |⟨n,hg,hn⟩
  ·exact hs (Or.inr (Or.inl (by rw[h1,hg])))
  ·rw[hg]at h1
   simp only[Option.some.injEq]at h1;omega
 ·exact hs (Or.inr (Or.inr (fun h=>h1 ((SpB.same hb).2 h))))
theorem KidT.nil {B:Nat} {g:Option Nat} {w:World} (q:Int) (s:List UInt8):KidT B g w (.mk q s [],.slice none 0 0):=fun w' _=>tr_nil w'
theorem KidT.tr {B:Nat} {g:Option Nat} {w:World} {p:Sp × Value} (h:KidT B g w p):Tr w p.2 p.1.kids:=h w (Keep.refl _ _)
theorem FreshT.kid {B B':Nat} {g:Option Nat} {w:World} {v:Value} {l:List Sp} (h:FreshT B' w v l) (hB:B≤B') (hg:∀k,g=some k→k<B') (q:Int) (s:List UInt8):KidT B g w (.mk q s l,v):=
 fun w' k=>h w' (k.mono (fun j _ hj=>by
  rcases hj with h |h |h
  ·exact Or.inl (Nat.lt_of_lt_of_le h hB)
  ·exact Or.inl (hg j h.symm)
  ·exact Or.inr h))
theorem FreshT.keep {S:Nat→Prop} {B:Nat} {w w':World} {v:Value} {l:List Sp} (h:FreshT B w v l) (k:Keep S w w') (hS:∀j,S j→j<B∨¬SpB w j):FreshT B w' v l:=fun w'' k''=>by
 refine h w'' (keep_chain (k.mono (fun j _ hj=>hS j hj)) k'' (fun j hj hs hs'=>?_));have hb:=k.block j hj (fun h=>hs (hS j h));rcases hs' with h1 |h1
 ·exact hs (Or.inl h1)
 ·exact hs (Or.inr (fun h=>h1 ((SpB.same hb).2 h)))
theorem FreshT.tr {B:Nat} {w:World} {v:Value} {l:List Sp} (h:FreshT B w v l):Tr w v l:=h w (Keep.refl _ _)
def Sps (B:Nat) (w:World) (v:Value) (L:List Sp):Prop:=∃ps:List (Sp × Value),ps.map (·.1)=L∧w.ownsRow B 71 3 v ps.length (ps.flatMap encT)∧∀p∈ps,KidT B v.ownBlock w p
theorem Sps.nil (B:Nat) (w:World):Sps B w (.slice none 0 0) []:=⟨[],rfl,World.ownsRow_nil _ _ _ _,fun p h=>by cases h⟩
theorem Sps.keep {S:Nat→Prop} {B:Nat} {w w':World} {v:Value} {L:List Sp} (h:Sps B w v L) (k:Keep S w w') (hS:∀j,S j→j<B∨¬SpB w j):Sps B w' v L:=by
 obtain⟨ps,h1,h2,h3⟩:=h;refine⟨ps,h1,own_keep h2 k (fun g hg hs=>?_),fun p hp=>(h3 p hp).keep k (fun j hj=>(hS j hj).imp id Or.inr) (Or.inl rfl)⟩;obtain⟨cur,hc⟩:=own_obj h2 hg;rcases hS g hs with h |h
 ·have:=(h2.lt g hg).1;omega
 ·exact h ⟨_,_,hc⟩
theorem Sps.fresh {B:Nat} {w:World} {v:Value} {L:List Sp} (h:Sps B w v L):FreshT B w v L:=fun w' k=>by
 obtain⟨ps,rfl,h2,h3⟩:=h.keep k (fun j hj=>hj);exact Tr.of_own h2 (fun p hp=>(h3 p hp).tr)
theorem Sps.slice {B:Nat} {w:World} {v:Value} {L:List Sp} (h:Sps B w v L):∃ao cap,v=.slice ao L.length cap:=by
 obtain⟨ao,cap,hv,_⟩:=h.fresh.tr;exact⟨ao,cap,hv⟩
theorem Sps.own {B:Nat} {w:World} {v:Value} {L:List Sp} (h:Sps B w v L):∀k,v.ownBlock=some k→B≤k∧k<w.heap.size∧SpB w k:=fun k hk=>by
 obtain⟨ps,_,h2,_⟩:=h;obtain⟨cur,hc⟩:=own_obj h2 hk;exact⟨(h2.lt k hk).1,lt_of_at hc,_,_,hc⟩
theorem Sps.push {B:Nat} {w w2:World} {v:Value} {L:List Sp} {x:Sp} {vk:Value} {c:Nat} (h:Sps B w v L) (hk:KidT B v.ownBlock w (x,vk)) (hl:L.length+1≤1000000) (hB:B≤w.heap.size)
  (hb:Below w.heap.size w w2) (hc:w2.heap[c]? = some (.cells #[.int .i64 x.kind,.string (S x.s),vk] 71 (0,0))):
  ∃v' w',(∀ty,(Builtin.append_ #[38,38] ty #[v,.slice (some ⟨c,0,none⟩) 1 1]).run Tryz.prog w2=.ok v' w')∧(Sps B w' v' (L++[x])∧Keep (fun k=>v.ownBlock=some k) w w'∧(v'.ownBlock=v.ownBlock∨∃n,v'.ownBlock=some n∧w.heap.size≤n)):=by
 have kb:Keep (fun _=>False) w w2:=Keep.of_below hb;obtain⟨ps,h1,h2,h3⟩:=h.keep kb (fun _ h=>h.elim);have hk2:KidT B v.ownBlock w2 (x,vk):=hk.keep kb (fun _ h=>h.elim) (Or.inl rfl);have hps:ps.length+1≤1000000:=by rw[←h1,List.length_map]at hl;exact hl
 obtain⟨i0,hi,hz0,hz1,hz2⟩:=info_parts infoSp
 have hcells:∀j u,(encT (x,vk))[j]? = some u→w2.cell? (Addr.add ⟨c,0,none⟩ j)=some u:=fun j u hj=>by
  rw[add_zero,cell_at hc];have hj':([.int .i64 x.kind,.string (S x.s),vk]:List Value)[j]? = some u:=hj
  simpa using hj'
 obtain⟨v',w',g1,g2,g3,_,g5⟩:=run_append_own_at (P:=Tryz.prog) w2 B 38 0 71 i0 (.agg #[.int .i64 0,.string ⟨#[]⟩,.slice none 0 0]) 3 48 Tryz.underlying38 hi hz0 hz1 hz2 rfl (by decide) v ps.length (ps.flatMap encT) h2 ⟨c,0,none⟩ 1 1 (encT (x,vk)) rfl hcells (by
  have:=encT_one (w:=w2) (ps:=[(x,vk)]) (fun p hp=>by rw[List.mem_singleton]at hp;subst hp;exact hk2.tr);rwa[flat_one]at this) (by unfold maxLen;omega) (by omega) (Nat.le_trans hB hb.size)
 have kG2:Keep (fun k=>v.ownBlock=some k) w2 w':=(Keep.refl _ w2).grown g3 (fun k hk'=>Or.inl hk');have kG:Keep (fun k=>v.ownBlock=some k) w w':=(kb.mono (fun _ _ h=>h.elim)).trans kG2;have hgo:v'.ownBlock=v.ownBlock∨∃n,v'.ownBlock=some n∧w2.heap.size≤n:=g5.imp id (fun h=>⟨_,h,Nat.le_refl _⟩);refine⟨v',w',fun ty=>g1,⟨ps++[(x,vk)],by rw[List.map_append,h1];rfl,?_,fun p hp=>?_⟩,kG,g5.imp id (fun h=>⟨_,h,hb.size⟩)⟩
 ·rw[List.length_append,List.flatMap_append,flat_one]
  exact g2
 ·rcases List.mem_append.1 hp with hp |hp
  ·exact(h3 p hp).keep kG2 (fun j hj=>Or.inr (Or.inl hj.symm)) hgo
  ·rw[List.mem_singleton]at hp
   subst hp;exact hk2.keep kG2 (fun j hj=>Or.inr (Or.inl hj.symm)) hgo
theorem Sps.setLast {B g n cap:Nat} {w:World} {L:List Sp} {x0 x:Sp} {vk:Value} (h:Sps B w (.slice (some ⟨g,0,none⟩) n cap) (L++[x0])) (hk:KidT B (some g) w (x,vk)):
  Sps B (((w.setCell ⟨g,L.length*3,none⟩ (.int .i64 x.kind)).setCell ⟨g,L.length*3+1,none⟩ (.string (S x.s))).setCell ⟨g,L.length*3+2,none⟩ vk) (.slice (some ⟨g,0,none⟩) n cap) (L++[x]):=by
 obtain⟨ps,h1,h2,h3⟩:=h;obtain⟨qs,pl,hps,hq,hpl⟩:=List.map_eq_append_iff.1 h1
 obtain⟨p,hp1,hp2⟩:∃p,pl=[p]∧p.1=x0:=by
  match pl,hpl with
  |[p],hpl=>exact⟨p,rfl,by simpa using hpl⟩
 subst hp1;subst hps;have hql:qs.length=L.length:=by rw[←hq,List.length_map]
 have kk:Keep (fun k=>k=g) w (((w.setCell ⟨g,L.length*3,none⟩ (.int .i64 x.kind)).setCell ⟨g,L.length*3+1,none⟩ (.string (S x.s))).setCell ⟨g,L.length*3+2,none⟩ vk):=
  (((Keep.refl (fun k=>k=g) w).setCell (p:=⟨g,L.length*3,none⟩) (Or.inl rfl) _).setCell (p:=⟨g,L.length*3+1,none⟩) (Or.inl rfl) _).setCell (p:=⟨g,L.length*3+2,none⟩) (Or.inl rfl) _
 refine⟨qs++[(x,vk)],by rw[List.map_append,hq];rfl,⟨by rw[flat_len],?_⟩,fun p' hp'=>?_⟩
 ·rcases h2.2 with ⟨hv,_⟩|⟨g',cap',cur,hv,hB,hg,hnc,hcm,hsz,htake⟩
  ·simp at hv
  ·simp only[Value.slice.injEq,Option.some.injEq,Addr.mk.injEq,and_true]at hv
   obtain⟨rfl,hn,rfl⟩:=hv;have hcur:((cur.setIfInBounds (L.length*3) (.int .i64 x.kind)).setIfInBounds (L.length*3+1) (.string (S x.s))).setIfInBounds (L.length*3+2) vk=((cur.setIfInBounds (L.length*3) (.int .i64 x.kind)).setIfInBounds (L.length*3+1) (.string (S x.s))).setIfInBounds (L.length*3+2) vk:=rfl;refine .inr ⟨g,cap,_,by rw[hn];simp,hB,set_at (set_at (set_at hg _ _) _ _) _ _,by rw[List.length_append]at hnc ⊢;exact hnc,hcm,by simpa using hsz,?_⟩;have hlen2:(qs++[(x,vk)]).length=L.length+1:=by rw[List.length_append,hql];rfl
   have hlen3:(qs++[p]).length=L.length+1:=by rw[List.length_append,hql];rfl
   rw[hlen3]at htake hnc;rw[hlen2,List.flatMap_append,flat_one];rw[List.flatMap_append,flat_one]at htake;have hA:(qs.flatMap encT).length=L.length*3:=by rw[flat_len,hql]
   apply List.ext_getElem?;intro j;have hgt:=congrArg (fun l=>l[j]?) htake;simp only[List.getElem?_take,Array.getElem?_toList]at hgt;simp only[List.getElem?_take,Array.getElem?_toList,Array.getElem?_setIfInBounds,Array.size_setIfInBounds];by_cases hj:j<(L.length+1)*3
   ·rw[if_pos hj]at hgt
    rw[if_pos hj];have hjc:j<cur.size:=by rw[hsz];omega
    by_cases h0:j<L.length*3
    ·rw[if_neg (by omega),if_neg (by omega),if_neg (by omega),hgt,List.getElem?_append_left (by rw[hA];exact h0),List.getElem?_append_left (by rw[hA];exact h0)]
    ·rw[List.getElem?_append_right (by rw[hA];omega),hA]
     rcases(show j=L.length*3∨j=L.length*3+1∨j=L.length*3+2 by omega)with rfl |rfl |rfl
     ·rw[if_neg (by omega),if_neg (by omega),if_pos rfl,if_pos hjc,Nat.sub_self];rfl
     ·rw[if_neg (by omega),if_pos rfl,if_pos hjc,show L.length*3+1-L.length*3=1 by omega];rfl
     ·rw[if_pos rfl,if_pos hjc,show L.length*3+2-L.length*3=2 by omega];rfl
   ·rw[if_neg hj,List.getElem?_eq_none (by rw[List.length_append,hA,encT_len];omega)]
 ·rcases List.mem_append.1 hp' with hp' |hp'
  ·exact(h3 p' (List.mem_append_left _ hp')).keep kk (fun j hj=>Or.inr (Or.inl (by rw[hj];rfl))) (Or.inl rfl)
  ·rw[List.mem_singleton]at hp'
   subst hp';exact KidT.keep (g:=some g) hk kk (fun j hj=>Or.inr (Or.inl (by rw[hj]))) (Or.inl rfl)
structure Gth (G:Nat) (w:World) (sv:Value) (L:List Sp) (t:List UInt8):Prop where
 ex:∃p bv,w.heap[G]? = some (.cells #[sv,p,bv] 186 (0,0))∧(p=.pointer none∨p=.pointer (some ⟨G,1,none⟩))∧w.ownsRow (G+1) 5 1 bv t.length (Lib.byteCells t)
 sps:Sps (G+1) w sv L
def EffG (G:Nat) (sv:Value) (w:World) (k:Nat):Prop:=G≤k∧(some k=sv.ownBlock∨¬SpB w k)
theorem Gth.lt {G:Nat} {w:World} {sv:Value} {L:List Sp} {t:List UInt8} (h:Gth G w sv L t):G<w.heap.size:=by obtain⟨p,bv,h1,_⟩:=h.ex;exact lt_of_at h1
theorem Gth.keep {S:Nat→Prop} {G:Nat} {w w':World} {sv:Value} {L:List Sp} {t:List UInt8} (h:Gth G w sv L t) (k:Keep S w w') (hS:∀j,S j→j<G):Gth G w' sv L t:=by
 obtain⟨p,bv,h1,h2,h3⟩:=h.ex;exact⟨⟨p,bv,k.at h1 (fun e=>by have:=hS _ e;omega),h2,own_keep h3 k (fun g hg e=>by have:=hS _ e;have:=(h3.lt g hg).1;omega)⟩,h.sps.keep k (fun j hj=>Or.inl (by have:=hS j hj;omega))⟩
end Sp
namespace Sp
open Go.RowKit
open Tk (S S_list S_size)
open Cm (Keep own_keep cell_at lt_of_at own_obj set_at frozen_at)
theorem liesG:liesAt Tryz.prog Tryz.prog.depth 186 (3/Tryz.prog.cellsOf 186) 1 84 1=true:=by kernel_rfl
theorem cellsU8:Tryz.prog.cellsOf 5=1:=by kernel_rfl
set_option maxHeartbeats 1000000 in
set_option maxRecDepth 100000 in
theorem checkG_any (G:Nat) (sv p bv:Value) (w:World) (h:w.heap[G]? = some (.cells #[sv,p,bv] 186 (0,0))) (hp:p=.pointer none∨p=.pointer (some ⟨G,1,none⟩)):
  Calls Tryz.prog 85 #[.pointer (some ⟨G,1,none⟩)] w fun e w'=>e=.returned (.tuple #[])∧w'.heap[G]? = some (.cells #[sv,.pointer (some ⟨G,1,none⟩),bv] 186 (0,0))∧Keep (fun k=>k=G) w w':=by
 obtain⟨j,hj,hjs⟩:=Option.map_eq_some_iff.1 sizeB;have h1:w.cell? ⟨G,1,none⟩=some p:=cell_at h 1;rcases hp with rfl |rfl
 ·have hfz:w.frozen? ⟨G,1,none⟩=false:=frozen_at h 1
  have hsh:w.shape? G=some (186,3):=by simp[World.shape?,h]
  have HR:Hid ((w.setCell ⟨G,1,none⟩ (.pointer (some ⟨G,1,none⟩))).heap[G]? = some (.cells #[sv,.pointer (some ⟨G,1,none⟩),bv] 186 (0,0))):=Lib.hid (by have:=set_at h 1 (.pointer (some ⟨G,1,none⟩));simpa using this);have HK:Hid (Keep (fun k=>k=G) w (w.setCell ⟨G,1,none⟩ (.pointer (some ⟨G,1,none⟩)))):=Lib.hid ((Keep.refl (fun k=>k=G) w).setCell (p:=⟨G,1,none⟩) (Or.inl rfl) _);clear h;go_enter Tryz.func85,Tryz.ntmps85;go_wp2;rw[Lib.run_to_unsafe w ⟨G,1,none⟩ Tryz.underlying82 Tryz.underlying131 hj (by rw[hjs];decide) hsh (by show 1<3;omega)];simp only[Result.andThen];rw[Oper.upon_value];go_wp2;rw[run_callFunc_extern Tryz.func120 (by kernel_rfl) (by kernel_rfl) (by kernel_rfl) (e:=Extern.AbiNoEscape.same) (by kernel_rfl)];rw[Lib.run_noEscape];simp only[Result.andThen];rw[Oper.upon_value];go_wp2;rw[Lib.run_from_unsafe w ⟨G,1,none⟩ Tryz.underlying131 Tryz.underlying82 hj hsh liesG];simp only[Result.andThen];rw[Oper.upon_value];go_wp2;go_end0;exact⟨rfl,HR.out,HK.out⟩
 ·have HR:=Lib.hid h
  clear h;go_enter Tryz.func85,Tryz.ntmps85;go_wp2;rw[Lib.run_neq_ptr_same w _ Tryz.underlying82 hj];go_wp2;go_end0;exact⟨rfl,HR.out,Keep.refl _ _⟩
set_option maxHeartbeats 2000000 in
set_option maxRecDepth 100000 in
theorem writeG_any (G:Nat) (sv:Value) (L:List Sp) (t s:List UInt8) (w:World) (h:Gth G w sv L t) (hlen:t.length+s.length≤10000000):
  Calls Tryz.prog 54 #[.pointer (some ⟨G,1,none⟩),.string (S s)] w fun e w'=>e=.returned (.tuple #[.int .i64 (S s).size,.nilIface])∧Gth G w' sv L (t++s)∧Keep (EffG G sv w) w w':=by
 obtain⟨i0,hi,hz0,hz1,hz2⟩:=info_parts infoB;obtain⟨p,bv,h1,h2,h3⟩:=h.ex;have zs:(S s).size=s.length:=S_size s;have hsl:(S s).data.toList=s:=S_list s;have HC:=Lib.hid (checkG_any G sv p bv w h1 h2);have HG:=Lib.hid h;have H1:=Lib.hid h1;have H3:=Lib.hid h3;clear h h1 h2 h3;go_enter Tryz.func54,Tryz.ntmps54;go_wp2_with fail;refine HC.out.mono ?_;rintro e w1 ⟨rfl,g1,k1⟩;have hGlt:=lt_of_at g1;have hown:w1.ownsRow (G+1) 5 1 bv t.length (Lib.byteCells t):=own_keep H3.out k1 (fun g hg e=>by have:=(H3.out.lt g hg).1;omega);have c2:w1.cell? ⟨G,2,none⟩=some bv:=cell_at g1 2;have K1:=Lib.hid k1;have G1:=Lib.hid g1;clear k1 g1 HC;go_wp2_with (at_builtin;refine Lib.wpList_append_own_string _ rfl _ _ 49 9 rfl (G+1) 5 i0 Tryz.underlying49 Tryz.underlying9 hi hz0 hz1 hz2 _ _ _ rfl hown (S s) rfl ?c3 ?c4 ?c5 ?_)
 case c3=>unfold maxLen;omega
 case c4=>omega
 case c5=>omega
 intro v' w2 hown' hgrow _;have kg:Keep (fun k=>bv.ownBlock=some k) w1 w2:=(Keep.refl _ w1).grown hgrow (fun k hk=>Or.inl hk);have hne:¬bv.ownBlock=some G:=fun e=>by have:=(hown.lt G e).1;omega
 have g2:=kg.at G1.out hne;have d2:w2.cell? ⟨G,2,none⟩=some bv:=cell_at g2 2;have f2:w2.frozen? ⟨G,2,none⟩=false:=frozen_at g2 2;obtain⟨ao,n',cap,rfl⟩:=own_slice hown'
 have HR:Hid (Gth G (w2.setCell ⟨G,2,none⟩ (.slice ao n' cap)) sv L (t++s)∧Keep (EffG G sv w) w (w2.setCell ⟨G,2,none⟩ (.slice ao n' cap))):=by
  have ks:Keep (fun k=>k=G) w2 (w2.setCell ⟨G,2,none⟩ (.slice ao n' cap)):=(Keep.refl (fun k=>k=G) w2).setCell (p:=⟨G,2,none⟩) (Or.inl rfl) _;have kall:Keep (fun k=>k=G∨bv.ownBlock=some k) w (w2.setCell ⟨G,2,none⟩ (.slice ao n' cap)):=((K1.out.mono (fun _ _ h=>Or.inl h)).trans (kg.mono (fun _ _ h=>Or.inr h))).trans (ks.mono (fun _ _ h=>Or.inl h))
  have hS:∀j,(j=G∨bv.ownBlock=some j)→G≤j∧¬SpB w j:=fun j hj=>by
   rcases hj with rfl |hj
   ·exact⟨Nat.le_refl _,SpB.not H1.out (by decide)⟩
   ·obtain⟨cur,hc⟩:=own_obj H3.out hj
    exact⟨by have:=(H3.out.lt j hj).1;omega,SpB.not hc (by decide)⟩
  refine Lib.hid ⟨⟨⟨.pointer (some ⟨G,1,none⟩),.slice ao n' cap,?_,Or.inr rfl,?_⟩,HG.out.sps.keep kall (fun j hj=>Or.inr (hS j hj).2)⟩,kall.mono (fun j _ hj=>⟨(hS j hj).1,Or.inr (hS j hj).2⟩)⟩
  ·have:=set_at g2 2 (.slice ao n' cap)
   simpa using this
  ·have:=own_keep hown' ks (fun g hg e=>by subst e;have:=(hown'.lt _ hg).1;omega)
   rw[Lib.strCells_eq,hsl]at this;have e:Lib.byteCells (t++s)=Lib.byteCells t++Lib.byteCells s:=by simp[Lib.byteCells]
   rw[List.length_append,e];exact this
 clear hown hown' hgrow kg g2 G1 K1 H1 H3 HG;go_wp2;go_ret2;exact⟨rfl,HR.out⟩
theorem lenG_any (G:Nat) (sv:Value) (L:List Sp) (t:List UInt8) (w:World) (h:Gth G w sv L t):
  Calls Tryz.prog 136 #[.pointer (some ⟨G,1,none⟩)] w fun e w'=>e=.returned (.int .i64 t.length)∧w=w':=by
 obtain⟨p,bv,h1,h2,h3⟩:=h.ex
 obtain⟨ao,cap,rfl⟩:∃ao cap,bv=.slice ao t.length cap:=by
  rcases h3.2 with ⟨rfl,h0⟩|⟨g,cap,cur,rfl,_⟩
  ·exact⟨none,0,by rw[h0]⟩
  ·exact⟨_,_,rfl⟩
 have c2:w.cell? ⟨G,2,none⟩=some (.slice ao t.length cap):=cell_at h1 2;clear h h1 h2 h3;go_enter Tryz.func136,Tryz.ntmps136;go_wp2_with fail;go_ret;exact⟨rfl,rfl⟩
set_option maxHeartbeats 2000000 in
set_option maxRecDepth 100000 in
theorem stringG_any (G:Nat) (sv:Value) (L:List Sp) (t:List UInt8) (w:World) (h:Gth G w sv L t) (h0:t≠[]):
  Calls Tryz.prog 55 #[.pointer (some ⟨G,1,none⟩)] w fun e w'=>e=.returned (.string (S t))∧∃p bv,w'.heap[G]? = some (.cells #[sv,p,bv] 186 (0,0))∧Sps (G+1) w' sv L∧Keep (EffG G sv w) w w':=by
 obtain⟨p,bv,h1,h2,h3⟩:=h.ex;have hl0:t.length≠0:=fun e=>h0 (List.eq_nil_of_length_eq_zero e)
 obtain⟨g,cap,cur,rfl,hbg,hg,hnc,hcm,hcs,htake⟩:∃g cap cur,bv=.slice (some ⟨g,0,none⟩) t.length cap∧G+1≤g∧w.heap[g]? = some (.cells cur 5 (0,0))∧t.length≤cap∧cap≤maxLen∧cur.size=cap*1∧cur.toList.take (t.length*1)=Lib.byteCells t:=by
  rcases h3.2 with ⟨_,hz⟩|⟨g,cap,cur,hv,r⟩
  ·exact absurd hz hl0
  ·exact⟨g,cap,cur,hv,r⟩
 have c2:w.cell? ⟨G,2,none⟩=some (.slice (some ⟨g,0,none⟩) t.length cap):=cell_at h1 2
 have hSD:∀W,(Builtin.unsafeSliceData_ #[49] 112 #[.slice (some ⟨g,0,none⟩) t.length cap]).run Tryz.prog W=.ok (.pointer (some ⟨g,0,none⟩)) W:=fun W=>
  Lib.run_unsafeSliceData_row _ _ _ _ _ _ (by omega)
 have hUS:(Builtin.unsafeString_ #[112,3] 9 #[.pointer (some ⟨g,0,none⟩),.int .i64 t.length]).run Tryz.prog w.drew=.ok (.string (S t)) (w.drew.freeze ⟨g,0,none⟩ t.length):=by
  refine Lib.run_unsafeString_row w.drew 112 3 9 5 Tryz.underlying112 cellsU8 g cur.size (by have hg':w.drew.heap[g]? = some (.cells cur 5 (0,0)):=hg;simp[World.shape?,hg']) t h0 (by omega) (by unfold maxLen at hcm;omega) ?_;intro j x hx;exact h3.cells (g:=g) rfl j (.int .u8 x.toNat) (by simp[Lib.byteCells,hx])
 have HR:Hid ((w.drew.freeze ⟨g,0,none⟩ t.length).heap[G]? = some (.cells #[sv,p,.slice (some ⟨g,0,none⟩) t.length cap] 186 (0,0))∧Sps (G+1) (w.drew.freeze ⟨g,0,none⟩ t.length) sv L∧Keep (EffG G sv w) w (w.drew.freeze ⟨g,0,none⟩ t.length)):=by
  have kk:Keep (fun k=>k=g) w (w.drew.freeze ⟨g,0,none⟩ t.length):=by
   refine(Keep.refl (fun k=>k=g) w).drew.trans ?_;unfold World.freeze;split
   ·exact Keep.refl _ _
   ·exact⟨rfl,rfl,rfl,by simp,fun k hk hs=>by simp only[Array.getElem?_modify];rw[if_neg (fun e=>hs e.symm)]⟩
  have hns:¬SpB w g:=SpB.not hg (by decide);exact Lib.hid ⟨kk.at h1 (by omega),h.sps.keep kk (fun j hj=>by subst hj;exact Or.inr hns),kk.mono (fun j _ hj=>by subst hj;exact⟨by omega,Or.inr hns⟩)⟩
 clear h h1 h2 h3 hg htake hcs;go_enter Tryz.func55,Tryz.ntmps55;go_wp2_with fail;go_region
 all_goals (
  go_wp2_with fail;go_ret;exact⟨rfl,_,_,HR.out⟩)
set_option maxHeartbeats 2000000 in
theorem resetG_any (G:Nat) (sv p bv:Value) (w:World) (h:w.heap[G]? = some (.cells #[sv,p,bv] 186 (0,0))):
  Calls Tryz.prog 206 #[.pointer (some ⟨G,1,none⟩)] w fun e w'=>e=.returned (.tuple #[])∧w'.heap[G]? = some (.cells #[sv,.pointer none,.slice none 0 0] 186 (0,0))∧Keep (fun k=>k=G) w w':=by
 have c1:w.cell? ⟨G,1,none⟩=some p:=cell_at h 1;have c2:w.cell? ⟨G,2,none⟩=some bv:=cell_at h 2;have f1:w.frozen? ⟨G,1,none⟩=false:=frozen_at h 1;have f2:w.frozen? ⟨G,2,none⟩=false:=frozen_at h 2
 have HR:Hid (((w.setCell ⟨G,1,none⟩ (.pointer none)).setCell ⟨G,2,none⟩ (.slice none 0 0)).heap[G]? = some (.cells #[sv,.pointer none,.slice none 0 0] 186 (0,0))∧Keep (fun k=>k=G) w ((w.setCell ⟨G,1,none⟩ (.pointer none)).setCell ⟨G,2,none⟩ (.slice none 0 0))):=
  Lib.hid ⟨by have:=set_at (set_at h 1 (.pointer none)) 2 (.slice none 0 0);simpa using this,((Keep.refl (fun k=>k=G) w).setCell (p:=⟨G,1,none⟩) (Or.inl rfl) _).setCell (p:=⟨G,2,none⟩) (Or.inl rfl) _⟩
 clear h;go_enter Tryz.func206,Tryz.ntmps206;go_wp2_with fail;go_end0;exact⟨rfl,HR.out⟩
theorem addText_any (G:Nat) (sv:Value) (L:List Sp) (t s:List UInt8) (w:World) (h:Gth G w sv L t) (hlen:t.length+s.length≤10000000):
  Calls Tryz.prog 178 #[.pointer (some ⟨G,0,none⟩),.string (S s)] w fun e w'=>e=.returned (.tuple #[])∧Gth G w' sv L (t++s)∧Keep (EffG G sv w) w w':=by
 have HW:=Lib.hid (writeG_any G sv L t s w h hlen);clear h hlen;go_enter Tryz.func178,Tryz.ntmps178;go_wp2_with fail;refine HW.out.mono ?_;rintro e w2 ⟨rfl,h1,h2⟩;have H:=Lib.hid (And.intro h1 h2);clear h1 h2 HW;go_wp2_with fail;go_end0;exact⟨rfl,H.out⟩
end Sp
namespace Sp
open Go.RowKit
open Tk (S)
open Cm (Keep cell_at alloc_new alloc_at lt_of_at set_at set_other frozen_at flat_get)
theorem EffG.chain {G:Nat} {sv:Value} {w w' w'':World} (h:Keep (EffG G sv w) w w') (k:Keep (EffG G sv w') w' w''):Keep (EffG G sv w) w w'':=
 keep_chain h k (fun j hj hs ⟨h1,h2⟩=>hs ⟨h1,h2.imp id (fun h3 h4=>h3 ((SpB.same (h.block j hj hs)).2 h4))⟩)
theorem Sps.slice1 {B:Nat} {w:World} {v:Value} {L:List Sp} {x:Sp} (h:Sps B w v (L++[x])):∃g cap cur ak ck,v=.slice (some ⟨g,0,none⟩) (L.length+1) cap∧B≤g∧w.heap[g]? = some (.cells cur 71 (0,0))∧
  w.cell? ⟨g,L.length*3,none⟩=some (.int .i64 x.kind)∧w.cell? ⟨g,L.length*3+1,none⟩=some (.string (S x.s))∧w.cell? ⟨g,L.length*3+2,none⟩=some (.slice ak x.kids.length ck):=by
 obtain⟨ps,h1,h2,h3⟩:=h;have hl:ps.length=L.length+1:=by rw[←List.length_map (f:=(·.1)),h1];simp
 rcases h2.2 with ⟨_,h0⟩|⟨g,cap,cur,hv,hB,hg,hr⟩
 ·omega
 ·rw[hl]at hv
  have hp:∃p,ps[L.length]? = some p∧p.1=x:=by
   have hlt:L.length<ps.length:=by omega
   refine⟨ps[L.length],List.getElem?_eq_getElem hlt,?_⟩;have:=congrArg (fun l=>l[L.length]?) h1;simp only[List.getElem?_map,List.getElem?_eq_getElem hlt,Option.map_some,List.getElem?_append_right (Nat.le_refl _),Nat.sub_self]at this
   simpa using this
  obtain⟨p,hp1,hp2⟩:=hp;obtain⟨ak,ck,hk⟩:=(h3 p (List.mem_of_getElem? hp1)).tr.len
  have hc:∀q u,q<3→(encT p)[q]? = some u→w.cell? ⟨g,L.length*3+q,none⟩=some u:=fun q u hq hu=>by
   have h4:=flat_get encT_len ps L.length p hp1 q u hu;have h2':=h2;rw[hl,hv]at h2';rw[h2'.cellAt (L.length*3+q) (by omega)];exact h4
  refine⟨g,cap,cur,ak,ck,hv,hB,hg,?_,?_,?_⟩
  ·have:=hc 0 _ (by omega) rfl;rw[hp2]at this;exact this
  ·have:=hc 1 _ (by omega) rfl;rw[hp2]at this;exact this
  ·have:=hc 2 _ (by omega) rfl;rw[hk,hp2]at this;exact this
structure Rf (G:Nat) (sv:Value) (L:List Sp) (w wx:World):Prop where
 ex:∃sv' p bv,wx.heap[G]? = some (.cells #[sv',p,bv] 186 (0,0))∧Sps (G+1) wx sv' L∧(sv'.ownBlock=sv.ownBlock∨∃n,sv'.ownBlock=some n∧w.heap.size≤n)
 keep:Keep (EffG G sv w) w wx
theorem Rf.drew {G:Nat} {sv:Value} {L:List Sp} {w wx:World} (h:Rf G sv L w wx):Rf G sv L w wx.drew:=by
 obtain⟨⟨sv',p,bv,h1,h2,h3⟩,h4⟩:=h;exact⟨⟨sv',p,bv,h1,h2.keep (S:=fun _=>False) (Keep.refl _ wx).drew (fun _ h=>h.elim),h3⟩,h4.drew⟩
theorem rf_fin {G g n cap:Nat} {sv p bv:Value} {L:List Sp} {x0 x:Sp} {w w7:World} (hG:w7.heap[G]? = some (.cells #[sv,p,bv] 186 (0,0))) (hs:Sps (G+1) w7 (.slice (some ⟨g,0,none⟩) n cap) (L++[x0])) (hx:x.kids=[])
  (hg:∃cur,w7.heap[g]? = some (.cells cur 71 (0,0))) (ho:some g=sv.ownBlock∨w.heap.size≤g) (hGg:G<g) (hGw:G<w.heap.size) (hwG:¬SpB w G) (k:Keep (EffG G sv w) w w7):
  Rf G sv (L++[x]) w ((((w7.setCell ⟨g,L.length*3,none⟩ (.int .i64 x.kind)).setCell ⟨g,L.length*3+1,none⟩ (.string (S x.s))).setCell ⟨g,L.length*3+2,none⟩ (.slice none 0 0)).setCell ⟨G,0,none⟩ (.slice (some ⟨g,0,none⟩) n cap))∧
  Rf G sv (L++[x]) w ((((w7.setCell ⟨G,0,none⟩ (.slice (some ⟨g,0,none⟩) n cap)).setCell ⟨g,L.length*3,none⟩ (.int .i64 x.kind)).setCell ⟨g,L.length*3+1,none⟩ (.string (S x.s))).setCell ⟨g,L.length*3+2,none⟩ (.slice none 0 0)):=by
 obtain⟨cur,hg⟩:=hg;obtain⟨q,s,kids⟩:=x;have hx':kids=[]:=hx;subst hx'
 have hown:(Value.slice (some ⟨g,0,none⟩) n cap).ownBlock=sv.ownBlock∨∃m,(Value.slice (some ⟨g,0,none⟩) n cap).ownBlock=some m∧w.heap.size≤m:=by
  rcases ho with h |h
  ·exact Or.inl h
  ·exact Or.inr ⟨g,rfl,h⟩
 have hS7:¬SpB w7 G:=SpB.not hG (by decide)
 have e1:∀j,j=G∨j=g→(EffG G sv w j∨w.heap.size≤j):=fun j hj=>by
  rcases hj with rfl |rfl
  ·exact Or.inl ⟨Nat.le_refl _,Or.inr hwG⟩
  ·rcases ho with h |h
   ·exact Or.inl ⟨Nat.le_of_lt hGg,Or.inl h⟩
   ·exact Or.inr h
 refine⟨⟨⟨.slice (some ⟨g,0,none⟩) n cap,p,bv,?_,?_,hown⟩,?_⟩,⟨⟨.slice (some ⟨g,0,none⟩) n cap,p,bv,?_,?_,hown⟩,?_⟩⟩
 ·have h1:=set_at (set_other (set_other (set_other hG (i:=L.length*3) (v:=.int .i64 q) (b':=g) (by omega)) (i:=L.length*3+1) (v:=.string (S s)) (b':=g) (by omega)) (i:=L.length*3+2) (v:=.slice none 0 0) (b':=g) (by omega)) 0 (.slice (some ⟨g,0,none⟩) n cap)
  rw[show(#[sv,p,bv]:Array Value).setIfInBounds 0 (.slice (some ⟨g,0,none⟩) n cap)= #[.slice (some ⟨g,0,none⟩) n cap,p,bv]from rfl]at h1;exact h1
 ·have h1:=hs.setLast (x:=.mk q s []) (vk:=.slice none 0 0) (KidT.nil q s)
  have h2:¬SpB (((w7.setCell ⟨g,L.length*3,none⟩ (.int .i64 q)).setCell ⟨g,L.length*3+1,none⟩ (.string (S s))).setCell ⟨g,L.length*3+2,none⟩ (.slice none 0 0)) G:=SpB.not (set_other (set_other (set_other hG (by omega)) (by omega)) (by omega)) (by decide);exact h1.keep (S:=fun j=>j=G) ((Keep.refl (fun j=>j=G) _).setCell (p:=⟨G,0,none⟩) (Or.inl rfl) _) (fun j hj=>by subst hj;exact Or.inr h2)
 ·exact(((k.setCell (p:=⟨g,L.length*3,none⟩) (e1 g (Or.inr rfl)) _).setCell (p:=⟨g,L.length*3+1,none⟩) (e1 g (Or.inr rfl)) _).setCell (p:=⟨g,L.length*3+2,none⟩) (e1 g (Or.inr rfl)) _).setCell (p:=⟨G,0,none⟩) (e1 G (Or.inl rfl)) _
 ·have h1:=set_other (set_other (set_other (set_at hG 0 (.slice (some ⟨g,0,none⟩) n cap)) (i:=L.length*3) (v:=.int .i64 q) (b':=g) (by omega)) (i:=L.length*3+1) (v:=.string (S s)) (b':=g) (by omega)) (i:=L.length*3+2) (v:=.slice none 0 0) (b':=g) (by omega)
  rw[show(#[sv,p,bv]:Array Value).setIfInBounds 0 (.slice (some ⟨g,0,none⟩) n cap)= #[.slice (some ⟨g,0,none⟩) n cap,p,bv]from rfl]at h1;exact h1
 ·have h1:=hs.keep (S:=fun j=>j=G) ((Keep.refl (fun j=>j=G) w7).setCell (p:=⟨G,0,none⟩) (Or.inl rfl) (.slice (some ⟨g,0,none⟩) n cap)) (fun j hj=>by subst hj;exact Or.inr hS7)
  exact h1.setLast (x:=.mk q s []) (vk:=.slice none 0 0) (KidT.nil q s)
 ·exact(((k.setCell (p:=⟨G,0,none⟩) (e1 G (Or.inl rfl)) _).setCell (p:=⟨g,L.length*3,none⟩) (e1 g (Or.inr rfl)) _).setCell (p:=⟨g,L.length*3+1,none⟩) (e1 g (Or.inr rfl)) _).setCell (p:=⟨g,L.length*3+2,none⟩) (e1 g (Or.inr rfl)) _
def flush (L:List Sp) (t:List UInt8):List Sp:=if t=[]then L else L++[.mk 1 t []]
def AllAns (G:Nat) (sv:Value) (L:List Sp) (w:World) (e:Ending) (w':World):Prop:=∃sv',e=.returned sv'∧Gth G w' sv' L []∧(sv'.ownBlock=sv.ownBlock∨∃n,sv'.ownBlock=some n∧w.heap.size≤n)∧Keep (EffG G sv w) w w'
set_option maxHeartbeats 6400000 in
set_option maxRecDepth 100000 in
theorem allG_any (G:Nat) (sv:Value) (L:List Sp) (t:List UInt8) (w:World) (h:Gth G w sv L t) (hl:L.length+1≤1000000) :
   Calls Tryz.prog 179 #[.pointer (some ⟨G,0,none⟩)] w (AllAns G sv (flush L t) w):=by
 have HLen:=Lib.hid (lenG_any G sv L t w h);obtain ⟨p,bv,h1,h2,h3⟩:=h.ex;have q0:w.cell? ⟨G,0,none⟩=some sv:=cell_at h1 0;obtain ⟨ao,ca,rfl⟩:=h.sps.slice;by_cases h0:t=[]
 · subst h0
   have HR:Hid (AllAns G (.slice ao L.length ca) (flush L []) w (.returned (.slice ao L.length ca)) w):=Lib.hid ⟨_,rfl,by unfold flush;rw [if_pos rfl];exact h,Or.inl rfl,Keep.refl _ _⟩;clear h h1 h2 h3;go_enter Tryz.func179,Tryz.ntmps179;go_wp2_with fail;refine HLen.out.mono ?_;rintro e w' ⟨rfl,rfl⟩;go_wp2_with fail;go_ret;exact HR.out
 · have hpos:(0:Int) < (t.length:Int):=by
     have:t.length≠0:=fun e=>h0 (List.eq_nil_of_length_eq_zero e)
     omega
   have HFl:Hid (flush L t=L++[.mk 1 t []]):=Lib.hid (by unfold flush;rw [if_neg h0]);have hGlt:=h.lt;have hwG:¬ SpB w G:=SpB.not h1 (by decide);have HS:=Lib.hid (fun w' (hb:Below w.heap.size w w')=>stringG_any G _ L t w' (h.keep (S:=fun _=>False) (Keep.of_below hb) (fun _ h=>h.elim)) h0);have HOw:=Lib.hid h.sps.own;have HH:=Lib.hid h;have HRs:=Lib.hid (fun sv p bv w h=>resetG_any G sv p bv w h);have q0a:∀ o,(w.alloc o).cell? ⟨G,0,none⟩=some (.slice ao L.length ca):=fun o=>cell_at (alloc_at h1 o) 0
   have HWG:=Lib.hid hwG;rw [HFl.out];clear h h1 h2 h3 h0 hwG;go_enter Tryz.func179,Tryz.ntmps179;go_wp2_with fail;refine HLen.out.mono ?_;rintro e w' ⟨rfl,rfl⟩;clear HLen;go_upto_region 2 with fail;go_cut [] from 6 (fun wx=>Hid (Rf G (.slice ao L.length ca) (L++[.mk 1 t []]) w wx))
   case first =>
     have hww:∀ k,(Value.slice ao L.length ca).ownBlock=some k→k < w.heap.size:=fun k hk=>(HOw.out k hk).2.1
     have HNo:Hid (¬ EffG G (.slice ao L.length ca) (w.alloc (.cells #[.int .i64 0,.string ⟨#[]⟩,.slice none 0 0] 71)) w.heap.size):=Lib.hid (fun ⟨e1,e2⟩=>by
       rcases e2 with e2 | e2
       · have:=hww _ e2.symm;omega
       · exact e2 ⟨_,_,alloc_new w _⟩)
     clear hww;have hlt7:(L.length:Int) < (L.length:Int)+1:=by omega
     go_region_law (first
       | (go_simp
          go_at_call 55;refine (HS.out _ (by repeat (first | exact Below.refl _ _ | apply bel_d | apply bel_a))).mono ?_;rintro e w9 ⟨rfl,p9,bv9,g9,s9,k9⟩;have c9:w9.cell? ⟨G,0,none⟩=some (.slice ao L.length ca):=cell_at g9 0;have c9a:∀ o,(w9.alloc o).cell? ⟨G,0,none⟩=some (.slice ao L.length ca):=fun o=>cell_at (alloc_at g9 o) 0
          try have l9:w9.heap[w.heap.size]? = some (.cells #[.int .i64 0,.string ⟨#[]⟩,.slice none 0 0] 71 (0,0)):=k9.at (drew_new w _) HNo.out
          have K9:Hid (Keep (EffG G (.slice ao L.length ca) w) w w9):=Lib.hid (EffG.chain (Keep.of_below (by repeat (first | exact Below.refl _ _ | apply bel_d | apply bel_a))) k9);have G9:=Lib.hid g9;have S9:=Lib.hid s9;clear g9 s9 k9)
       | (refine step_run_ex rfl (.tmp 11) (.tmp 18) _ _ rfl _ _ rfl rfl (S9.out.push (x:=.mk 0 [] []) (KidT.nil 0 []) hl (by have:=lt_of_at G9.out;omega) (by repeat (first | exact Below.refl _ _ | apply bel_d | apply bel_a)) (by first | exact alloc_new _ _ | exact l9)) ?_
          rintro v7 w7 ⟨s7,k7,o7⟩;obtain ⟨g7,cap7,cur7,ak7,ck7,rfl,hB7,hg7,c70,c71,c72⟩:=s7.slice1;have H7:=Lib.hid (And.intro s7 (And.intro k7 (And.intro o7 (And.intro hB7 hg7))));have f7:∀ j,w7.frozen? ⟨g7,j,none⟩=false:=fun j=>frozen_at hg7 j
          have hgG:g7≠G:=by omega
          have g79:=k7.at G9.out (fun e=>by have:=(S9.out.own G e).1;omega);have d70:w7.cell? ⟨G,0,none⟩=some (.slice ao L.length ca):=cell_at g79 0;have f70:w7.frozen? ⟨G,0,none⟩=false:=frozen_at g79 0;have G79:=Lib.hid g79;clear s7 k7 o7 hB7 hg7 g79))
     all_goals (
       obtain ⟨y1,y2,y3,y4,y5⟩:=H7.out;have hkk:Keep (EffG G (.slice ao L.length ca) w) w w7:=keep_chain K9.out y2 (fun j hj hs e=>hs ⟨by have:=(S9.out.own j e).1;omega,Or.inl e.symm⟩)
       have hrf:=rf_fin (x:=.mk 1 t []) G79.out y1 rfl ⟨_,y5⟩ (by
         rcases y3 with e | ⟨n,e,hn⟩
         · exact Or.inl (by simpa [Value.ownBlock] using e)
         · right
           simp [Value.ownBlock] at e;have:=K9.out.size;omega) (by omega) hGlt HWG.out hkk
       have HRf:=Lib.hid (And.intro hrf (And.intro hrf.1.drew hrf.2.drew));clear y1 y2 y3 y4 y5 hkk hrf;go_simp;go_wp2_with fail;go_meet
       first
         | exact Lib.hid HRf.out.1.1
         | exact Lib.hid HRf.out.1.2
         | exact Lib.hid HRf.out.2.1
         | exact Lib.hid HRf.out.2.2)
   case rest =>
     obtain ⟨⟨sv',p',bv',g1,g2,g3⟩,g4⟩:=hcut.out;have HR:=Lib.hid (HRs.out sv' p' bv' wc g1);have G2:=Lib.hid (And.intro g2 (And.intro g3 g4));have hns:¬ SpB wc G:=SpB.not g1 (by decide);obtain ⟨ao',ca',hsv⟩:=g2.slice;rw [List.length_append,List.length_singleton] at hsv;subst hsv;clear g1 g2 g3 g4 hcut;go_wp2_with fail;refine HR.out.mono ?_;rintro e w9 ⟨rfl,r1,r2⟩;have c9:w9.cell? ⟨G,0,none⟩=some (.slice ao' (L.length+1) ca'):=cell_at r1 0
     have HA:Hid (AllAns G (.slice ao L.length ca) (L++[.mk 1 t []]) w (.returned (.slice ao' (L.length+1) ca')) w9):=Lib.hid ⟨_,rfl,⟨⟨_,_,r1,Or.inl rfl,World.ownsRow_nil _ _ _ _⟩,G2.out.1.keep r2 (fun j hj=>by subst hj;exact Or.inr hns)⟩,G2.out.2.1,
       keep_chain G2.out.2.2 r2 (fun j hj hs e=>hs (by subst e;exact ⟨Nat.le_refl _,Or.inr HWG.out⟩))⟩
     clear r1 r2 HR G2 hns;go_wp2_with fail;go_ret;exact HA.out
end Sp
namespace Sp
open Go.RowKit
open Tk (S)
open Cm (Keep own_keep cell_at alloc_new alloc_at own_obj set_at frozen_at)
theorem gth_store {G:Nat} {w9 w7:World} {sv9 v7:Value} {L9 L':List Sp} {t:List UInt8} (h:Gth G w9 sv9 L9 t) (s7:Sps (G+1) w7 v7 L') (k7:Keep (fun k=>sv9.ownBlock=some k) w9 w7):
  Gth G (w7.setCell ⟨G,0,none⟩ v7) v7 L' t∧Keep (EffG G sv9 w9) w9 (w7.setCell ⟨G,0,none⟩ v7)∧w7.cell? ⟨G,0,none⟩=some sv9∧w7.frozen? ⟨G,0,none⟩=false:=by
 obtain⟨p,bv,h1,h2,h3⟩:=h.ex;have hne:¬sv9.ownBlock=some G:=fun e=>by have:=(h.sps.own G e).1;omega
 have g7:=k7.at h1 hne;have ks:Keep (fun j=>j=G) w7 (w7.setCell ⟨G,0,none⟩ v7):=(Keep.refl (fun j=>j=G) w7).setCell (p:=⟨G,0,none⟩) (Or.inl rfl) _;have hns7:¬SpB w7 G:=SpB.not g7 (by decide);have hns9:¬SpB w9 G:=SpB.not h1 (by decide)
 have o7:=own_keep h3 k7 (fun g hg e=>by
  obtain⟨cur,hc⟩:=own_obj h3 hg;exact SpB.not hc (by decide) (h.sps.own g e).2.2)
 refine⟨⟨⟨p,bv,by have:=set_at g7 0 v7;simpa using this,h2,own_keep o7 ks (fun g hg e=>by subst e;have:=(o7.lt _ hg).1;omega)⟩,s7.keep ks (fun j hj=>by subst hj;exact Or.inr hns7)⟩,keep_chain (k7.mono (fun j _ hj=>⟨by have:=(h.sps.own j hj).1;omega,Or.inl hj.symm⟩)) ks (fun j hj hs e=>hs (by subst e;exact⟨Nat.le_refl _,Or.inr hns9⟩)),cell_at g7 0,frozen_at g7 0⟩
def AddAns (G:Nat) (L:List Sp) (sv:Value) (w:World) (e:Ending) (w':World):Prop:=e=.returned (.tuple #[])∧∃sv',Gth G w' sv' L []∧(sv'.ownBlock=sv.ownBlock∨∃n,sv'.ownBlock=some n∧w.heap.size≤n)∧Keep (EffG G sv w) w w'
set_option maxHeartbeats 6400000 in
set_option maxRecDepth 100000 in
theorem add_any (G B':Nat) (sv:Value) (L:List Sp) (t:List UInt8) (x:Sp) (vk:Value) (w:World) (h:Gth G w sv L t) (hk:FreshT B' w vk x.kids) (hB:G+1≤B') (hg:∀ k,sv.ownBlock=some k→k < B') (hB2:B'≤w.heap.size) (hl:L.length+2≤1000000) :
   Calls Tryz.prog 175 #[.pointer (some ⟨G,0,none⟩),.agg #[.int .i64 x.kind,.string (S x.s),vk]] w (AddAns G (flush L t++[x]) sv w):=by
 obtain ⟨p,bv,h1,h2,h3⟩:=h.ex;have hGlt:=h.lt;have hwG:¬ SpB w G:=SpB.not h1 (by decide);obtain ⟨q,s,kids⟩:=x;obtain ⟨aok,ck,hvk⟩:=hk.tr.len;subst hvk;have hfl:(flush L t).length+1≤1000000:=by unfold flush;split <;> simp <;> omega
 have HAl:=Lib.hid (fun w' (hb:Below w.heap.size w w')=>allG_any G sv L t w' (h.keep (S:=fun _=>False) (Keep.of_below hb) (fun _ h=>h.elim)) (by omega));have HKd:=Lib.hid (hk.kid (w:=w) hB hg q s);have HWG:=Lib.hid hwG;have HOw:=Lib.hid h.sps.own;have B0:=Lib.hid ((Below.refl w.heap.size w).alloc (Nat.le_refl _) (.cells #[.int .i64 q,.string (S s),.slice aok kids.length ck] 71));have N0:=Lib.hid (alloc_new w (.cells #[.int .i64 q,.string (S s),.slice aok kids.length ck] 71));clear h h1 h2 h3 hk hwG;show Calls _ _ #[_,.agg #[.int .i64 q,.string (S s),.slice aok kids.length ck]] _ _;go_enter Tryz.func175,Tryz.ntmps175;go_wp2_with fail;generalize w.alloc (.cells #[.int .i64 q,.string (S s),.slice aok kids.length ck] 71)=w1 at *;go_upto_region 1 with fail;have a0:w1.cell? ⟨w.heap.size,0,none⟩=some (.int .i64 q):=cell_at N0.out 0;have a1:w1.cell? ⟨w.heap.size,1,none⟩=some (.string (S s)):=cell_at N0.out 1;have a2:w1.cell? ⟨w.heap.size,2,none⟩=some (.slice aok kids.length ck):=cell_at N0.out 2;have hnown:∀ k,sv.ownBlock=some k→k < w.heap.size:=fun k hk=>(HOw.out k hk).2.1
 have HNe:Hid (∀ (W:World) (k:Nat) (us:Array Value) (fr:Nat × Nat),w.heap.size≤k→W.heap[k]? = some (.cells us 71 fr)→¬ EffG G sv W k):=Lib.hid (fun W k us fr hk hW ⟨e1,e2⟩=>by
   rcases e2 with e2 | e2
   · have:=hnown _ e2.symm;omega
   · exact e2 ⟨_,_,hW⟩)
 have HN1:Hid (w.heap.size≤w1.heap.size):=Lib.hid B0.out.size;have N0d:w1.drew.heap[w.heap.size]? = some (.cells #[.int .i64 q,.string (S s),.slice aok kids.length ck] 71 (0,0)):=N0.out;have HN0d:=Lib.hid N0d;have HN0a:Hid (∀ o,(w1.alloc o).drew.heap[w.heap.size]? = some (.cells #[.int .i64 q,.string (S s),.slice aok kids.length ck] 71 (0,0))):=Lib.hid (fun o=>alloc_at N0.out o);clear hnown N0d
 go_region_law (first
   | (go_simp
      go_at_call 179;refine (HAl.out _ (by repeat (first | exact B0.out | apply bel_d | apply bel_a))).mono ?_;rintro e w9 ⟨sv9,rfl,g9,o9,k9⟩;have K9:Hid (Keep (EffG G sv w) w w9):=Lib.hid (EffG.chain (Keep.of_below (by repeat (first | exact B0.out | apply bel_d | apply bel_a))) k9);have O9:Hid (sv9.ownBlock=sv.ownBlock∨∃ n,sv9.ownBlock=some n∧w.heap.size≤n):=Lib.hid (o9.imp id (fun ⟨n,h1,h2⟩=>⟨n,h1,Nat.le_trans (Below.size (by repeat (first | exact B0.out | apply bel_d | apply bel_a))) h2⟩))
      have m9:w9.heap[w.heap.size]? = some (.cells #[.int .i64 q,.string (S s),.slice aok kids.length ck] 71 (0,0)):=by
        first
          | exact k9.at HN0d.out (HNe.out _ _ _ _ (Nat.le_refl _) HN0d.out)
          | exact k9.at (HN0a.out _) (HNe.out _ _ _ _ (Nat.le_refl _) (HN0a.out _))
      have b0:w9.cell? ⟨w.heap.size,0,none⟩=some (.int .i64 q):=cell_at m9 0;have b1:w9.cell? ⟨w.heap.size,1,none⟩=some (.string (S s)):=cell_at m9 1;have b2:w9.cell? ⟨w.heap.size,2,none⟩=some (.slice aok kids.length ck):=cell_at m9 2
      try have l9:w9.heap[w1.heap.size]? = some (.cells #[.int .i64 q,.string (S s),.slice aok kids.length ck] 71 (0,0)):=k9.at (drew_new w1 _) (HNe.out _ _ _ _ HN1.out (drew_new w1 _))
      obtain ⟨ao9,ca9,hsv9⟩:=g9.sps.slice;subst hsv9;have G9:=Lib.hid g9;clear g9 o9 k9 m9)
   | (refine step_run_ex rfl (.tmp 6) (.tmp 8) _ _ rfl _ _ rfl rfl (G9.out.sps.push (x:=.mk q s kids) (HKd.out.keep K9.out (fun j hj=>Or.inr (hj.2.imp id id)) O9.out) hfl (by have:=G9.out.lt;omega) (by repeat (first | exact Below.refl _ _ | apply bel_d | apply bel_a)) (by first | exact alloc_new _ _ | exact l9)) ?_
      rintro v7 w7 ⟨s7,k7,o7⟩;obtain ⟨z1,z2,z3,z4⟩:=gth_store G9.out s7 k7;obtain ⟨ao7,ca7,hv7⟩:=s7.slice;rw [List.length_append,List.length_singleton] at hv7;subst hv7;have H7:=Lib.hid (And.intro z1 (And.intro z2 o7));clear s7 k7 o7 z1 z2))
 all_goals (
   obtain ⟨y1,y2,y3⟩:=H7.out
   have HR:Hid (AddAns G (flush L t++[.mk q s kids]) sv w (.returned (.tuple #[])) _):=Lib.hid ⟨rfl,_,y1,by
     rcases y3 with e | ⟨n,e,hn⟩
     · rw [e];exact O9.out
     · exact Or.inr ⟨n,e,Nat.le_trans K9.out.size hn⟩,keep_chain K9.out y2 (fun j hj hs ⟨e1,e2⟩=>by
       rcases e2 with e2 | e2
       · rcases O9.out with o | ⟨n,o,hn⟩
         · exact hs ⟨e1,Or.inl (by rw [← o];exact e2)⟩
         · rw [o] at e2;simp at e2;omega
       · exact hs ⟨e1,Or.inr (fun h3=>e2 ((SpB.same (K9.out.block j hj hs)).2 h3))⟩)⟩
   clear y1 y2 y3;go_simp;go_wp2_with fail;go_end0;exact HR.out)
end Sp
end Go.Proofs.YtpakjdgddomdjabGreatDoor
