import Derived.Test.YtpakjdgddomdjabGreatDoorSoPackP
import Derived.Test.YtpakjdgddomdjabGreatDoorPkR
import Derived.Test.YtpakjdgddomdjabGreatDoorPkAR
import Derived.Test.YtpakjdgddomdjabGreatDoorPkV
import Derived.Test.YtpakjdgddomdjabGreatDoorPkL
import Derived.Test.YtpakjdgddomdjabGreatDoorPkT
import Derived.Lib.QuietBelow
import Derived.BigQuiet
import Derived.Test.YtpakjdgddomdjabGreatDoorPkAT
import Derived.Test.YtpakjdgddomdjabGreatDoorPkAC
import Derived.StillTailTactics
set_option linter.unusedVariables false
namespace Go.Proofs.YtpakjdgddomdjabGreatDoor
namespace Sp
open Go.RowKit
open Tk (S)
set_option maxHeartbeats 1600000 in
theorem writeP_any (v:Value) (l:List Sp) (w:World) (ht:Tr w v l) (hn:totAll l≤20000) (hf:fitAll 140737488355328 l):
  Calls Tryz.prog 134 #[v] w (TwoAns w (wrB l) (erB l)):=by
 have HR:=Lib.hid (rightP_any l v w ht hf);have hwl:=wrs_le l;unfold wrB erB;cases hr:rtB l with
 |false=>
  rw[hr]at HR;rw[if_neg (by simp),if_neg (by simp)];have hS:S []=⟨#[]⟩:=rfl;rw[hS];clear hr hS ht hf hwl;go_enter Tryz.func134,Tryz.ntmps134;go_wp2_with fail;refine HR.out.mono ?_;rintro e w1 ⟨rfl,b1⟩;have B1:=Lib.hid b1;clear b1 HR;go_wp2_with fail;go_ret2;exact⟨rfl,B1.out⟩
 |true=>
  rw[hr]at HR;rw[if_pos rfl,if_pos rfl];have HW:=Lib.hid (fun(w1:World) (hb:Below w.heap.size w w1)=>writeAllP_any w1 w1.heap.size (totAll l) l v [] (w1.alloc (.cells #[.pointer none,.slice none 0 0] 84)) (Nat.le_refl _) (by omega) (ht.below hb) ((Below.refl _ _).alloc (Nat.le_refl _) _) (Bd.begin w1) (by simp;omega));simp only[List.nil_append]at HW;clear hr ht hf hwl;generalize wrs l=y at *;go_enter Tryz.func134,Tryz.ntmps134;go_wp2_with fail;refine HR.out.mono ?_;rintro e w1 ⟨rfl,b1⟩;have HW1:=Lib.hid (HW.out w1 b1);have B1:=Lib.hid b1;clear b1 HR HW;go_wp2_with fail;refine HW1.out.mono ?_;rintro e w2 ⟨rfl,b2⟩;have hb2:Below w1.heap.size w1 w2:=((Below.refl w1.heap.size w1).alloc (Nat.le_refl _) _).trans b2.bel;have HS:=Lib.hid (stringW_any _ _ _ w2 b2.bd hb2.size);have B2:=Lib.hid hb2;clear b2 hb2 HW1;go_wp2_with fail;refine HS.out.mono ?_;rintro e w3 ⟨rfl,b3⟩;have B3:=Lib.hid (B1.out.trans ((B2.out.trans b3).mono B1.out.size));clear b3 HS;go_wp2_with fail;go_ret2;exact⟨rfl,B3.out⟩
end Sp
end Go.Proofs.YtpakjdgddomdjabGreatDoor
namespace Go.Proofs.YtpakjdgddomdjabGreatDoor
namespace Wr
open Go.RowKit
open Tk (S S_list S_size S_toList S_app ret_int Rd)
open Cm (Keep own_keep own_obj cell_at frozen_at set_at alloc_new alloc_at lt_of_at)
open Sp (Sp Tr rtB wrs totAll fitAll TwoAns wrB erB writeP_any ret_str)
open Bk (Tx ticksL)
open Pa (OutG OutS encX)
theorem grew {B:Nat} {w:World} {v:Value} {l:List Tx} (h:OutS B w v l) (x:Tx) (hl:l.length+1≤1000000) {v':Value} {w':World}
  (h1:∀ty,(Builtin.append_ #[31,31] ty #[v,.slice (some ⟨w.heap.size,0,none⟩) 1 1]).run Tryz.prog (w.alloc (.cells #[.string (S x)] 9))= .ok v' w'):v'.ownBlock=v.ownBlock∨∃j,v'.ownBlock=some j∧w.heap.size≤j:=by
 obtain⟨i0,hi,hz0,hz1,hz2⟩:=info_parts Pa.infoX;have hsz:(w.alloc (.cells #[.string (S x)] 9)).heap.size=w.heap.size+1:=by simp
 have hown:(w.alloc (.cells #[.string (S x)] 9)).ownsRow B 9 1 v l.length (l.flatMap encX):=own_keep (OutG.own h) (S:=fun j=>j<B) ((Keep.refl _ _).alloc _) (fun g hg=>by have:=(OutG.block h g hg).1;omega);obtain⟨v2,w2,g1,_,_,_,g5⟩:=run_append_own_at (P:=Tryz.prog) (w:=w.alloc (.cells #[.string (S x)] 9)) B 31 0 9 i0 (.string ⟨#[]⟩) 1 16 Tryz.underlying31 hi hz0 hz1 hz2 rfl (by decide) v l.length (l.flatMap encX) hown ⟨w.heap.size,0,none⟩ 1 1 [.string (S x)] rfl (fun j u hj=>Cm.newsK (us:=[.string (S x)]) j u hj) (fun u hu=>by rw[List.mem_singleton]at hu;subst hu;rfl) (by unfold maxLen;omega) (by omega) (by rw[hsz];have:=OutG.size h;omega);have e:=(h1 0).symm.trans g1;injection e with e1 e2;subst e1;rcases g5 with e |e
 ·exact Or.inl e
 ·exact Or.inr ⟨_,e,by rw[hsz];omega⟩
structure Pg (B b:Nat) (g:Option Nat) (ls:List Tx) (w:World):Prop where
 lo:B≤b
 row:∃v,w.heap[b]? = some (.cells #[v] 55 (0,0))∧v.ownBlock=g∧OutS B w v ls
theorem Pg.ne {B b:Nat} {g:Option Nat} {ls:List Tx} {w:World} (h:Pg B b g ls w):∀j,g=some j→B≤j∧j<w.heap.size∧j≠b:=by
 obtain⟨_,v,hb,rfl,ho⟩:=h;intro j hj;have h1:=OutG.block ho j hj;refine⟨h1.1,h1.2,fun e=>?_⟩;subst e;obtain⟨cur,hc⟩:=own_obj (OutG.own ho) hj;rw[hb]at hc;simp at hc
theorem Pg.lt {B b:Nat} {g:Option Nat} {ls:List Tx} {w:World} (h:Pg B b g ls w):b<w.heap.size:=by
 obtain⟨_,v,hb,_⟩:=h;exact lt_of_at hb
theorem Pg.size {B b:Nat} {g:Option Nat} {ls:List Tx} {w:World} (h:Pg B b g ls w):B≤w.heap.size:=Nat.le_trans h.lo (Nat.le_of_lt h.lt)
theorem Pg.keep {B b:Nat} {g:Option Nat} {ls:List Tx} {w w':World} {S:Nat→Prop} (h:Pg B b g ls w) (k:Keep S w w') (hb:¬S b) (hg:∀j,g=some j→¬S j):Pg B b g ls w':=by
 have hsz:=h.size;obtain⟨hlo,v,hv,he,ho⟩:=h;exact⟨hlo,v,k.at hv hb,he,Nat.le_trans hsz k.size,own_keep (OutG.own ho) k (fun j hj=>hg j (by rw[←he];exact hj)),fun _ _ _ _=>trivial⟩
theorem Pg.below {B b:Nat} {g:Option Nat} {ls:List Tx} {w w':World} (h:Pg B b g ls w) (hb:Below w.heap.size w w'):Pg B b g ls w':=
 h.keep (Keep.of_below (S:=fun _=>False) hb) (fun h=>h) (fun _ _ h=>h)
theorem Pg.begin (w:World):Pg w.heap.size w.heap.size none [] (w.alloc (.cells #[.slice none 0 0] 55)):=
 ⟨Nat.le_refl _,.slice none 0 0,alloc_new _ _,rfl,OutG.nil (by simp)⟩
structure Pt (B b:Nat) (g g':Option Nat) (ls:List Tx) (w w':World):Prop where
 pg:Pg B b g' ls w'
 new:g'=g∨∃j,g'=some j∧w.heap.size≤j
 kp:Keep (fun j=>j=b∨some j=g) w w'
theorem Pt.refl {B b:Nat} {g:Option Nat} {ls:List Tx} {w:World} (h:Pg B b g ls w):Pt B b g g ls w w:=⟨h,Or.inl rfl,Keep.refl _ _⟩
theorem Pt.trans {B b:Nat} {g g' g'':Option Nat} {ls ls':List Tx} {w w' w'':World} (h:Pt B b g g' ls w w') (k:Pt B b g' g'' ls' w' w''):Pt B b g g'' ls' w w'':=by
 refine⟨k.pg,?_,⟨k.kp.os.trans h.kp.os,k.kp.tape.trans h.kp.tape,k.kp.output.trans h.kp.output,Nat.le_trans h.kp.size k.kp.size,fun j hj hs=>?_⟩⟩
 ·rcases k.new with e |⟨j,e,hj⟩
  ·rw[e];exact h.new
  ·exact Or.inr ⟨j,e,Nat.le_trans h.kp.size hj⟩
 ·rw[←h.kp.block j hj hs]
  refine k.kp.block j (Nat.lt_of_lt_of_le hj h.kp.size) (fun hs'=>?_);rcases hs' with hs' |hs'
  ·exact hs (Or.inl hs')
  ·rcases h.new with e |⟨i,e,hi⟩
   ·exact hs (Or.inr (by rw[hs',e]))
   ·rw[e]at hs'
    have:=Option.some.inj hs';omega
theorem Pt.more {B b:Nat} {g g':Option Nat} {ls:List Tx} {w w' w'':World} (h:Pt B b g g' ls w w') (k:Below w'.heap.size w' w''):Pt B b g g' ls w w'':=
 h.trans ⟨h.pg.below k,Or.inl rfl,Keep.of_below k⟩
theorem Pt.ahead {B b:Nat} {g g':Option Nat} {ls ls0:List Tx} {w w' w'':World} (h:Pg B b g ls0 w) (k:Below w.heap.size w w') (t:Pt B b g g' ls w' w''):Pt B b g g' ls w w'':=
 (Pt.refl h).more k |>.trans t
theorem Pt.bel {B b:Nat} {g g':Option Nat} {ls ls0:List Tx} {w w':World} (h:Pg B b g ls0 w) (t:Pt B b g g' ls w w'):Below B w w':=
 t.kp.below (fun k hk=>by
  rcases hk with rfl |hk
  ·exact h.lo
  ·exact(h.ne k hk.symm).1) h.size
theorem Pt.rd {B b:Nat} {g g':Option Nat} {ls ls0:List Tx} {w0 w w':World} {u:Value} {xs:List Tx} (h0:Pg B b g ls0 w0) (h:OutS w0.heap.size w u xs) (t:Pt B b g g' ls w w'):Rd w' u xs:=by
 have h1:OutS w0.heap.size w' u xs:=⟨Nat.le_trans (OutG.size h) t.kp.size,own_keep (OutG.own h) t.kp (fun j hj hS=>by
  have h2:=(OutG.block h j hj).1;rcases hS with e |e
  ·have:=h0.lt;omega
  ·have:=(h0.ne j e.symm).2.1;omega),fun _ _ _ _=>trivial⟩
 exact Pa.OutS.rd h1
def PutAns (B b:Nat) (g:Option Nat) (ls:List Tx) (w:World) (e:Ending) (w':World):Prop:=e=.returned (.tuple #[])∧∃g',Pt B b g g' ls w w'
set_option maxHeartbeats 800000 in
theorem put_any {B b:Nat} {g:Option Nat} {ls:List Tx} {w:World} (h:Pg B b g ls w) (s:Tx) (hl:ls.length+1≤1000000):
  Calls Tryz.prog 40 #[.pointer (some ⟨b,0,none⟩),.string (S s)] w (PutAns B b g (ls++[s]) w):=by
 have hne:=h.ne;obtain⟨hlo,v,hb,he,ho⟩:=h;obtain⟨v',w2,h1,h2,h3⟩:=Pa.OutS.push ho s hl;have c0:(w.alloc (.cells #[.string (S s)] 9)).cell? ⟨b,0,none⟩=some v:=cell_at (alloc_at hb _) 0;have c0':w.cell? ⟨b,0,none⟩=some v:=cell_at hb 0;have hb2:w2.heap[b]? = some (.cells #[v] 55 (0,0)):=h3.at hb (fun e=>(hne b (by rw[←he,e])).2.2 rfl);have c2:w2.cell? ⟨b,0,none⟩=some v:=cell_at hb2 0;have f2:w2.frozen? ⟨b,0,none⟩=false:=frozen_at hb2 0
 have hE:Hid (Pt B b g v'.ownBlock (ls++[s]) w (w2.setCell ⟨b,0,none⟩ v')):=Lib.hid (by
  have hnb:∀j,v'.ownBlock=some j→j≠b:=fun j hj e=>by
   subst e;obtain⟨cur,hc⟩:=own_obj (OutG.own h2) hj;rw[hb2]at hc;simp at hc
  have kS:Keep (fun j=>j=b) w2 (w2.setCell ⟨b,0,none⟩ v'):=(Keep.refl (fun j=>j=b) w2).setCell (p:=⟨b,0,none⟩) (Or.inl rfl) v';refine⟨⟨hlo,v',?_,rfl,Nat.le_trans (OutG.size h2) kS.size,own_keep (OutG.own h2) kS hnb,fun _ _ _ _=>trivial⟩,?_,?_⟩
  ·have:=set_at hb2 0 v'
   simpa using this
  ·rcases grew ho s hl h1 with e |⟨j,e,hj⟩
   ·exact Or.inl (by rw[e,he])
   ·exact Or.inr ⟨j,e,hj⟩
  ·exact(h3.mono (T:=fun j=>j=b∨some j=g) (fun k _ hk=>Or.inr (hk.trans he))).setCell (p:=⟨b,0,none⟩) (Or.inl (Or.inl rfl)) v')
 obtain⟨ao,ca,hv'⟩:=(Pa.OutS.rd h2).len;generalize (ls++[s]).length=n at hv';subst hv';clear h2 h3 ho hne hb hb2;go_enter Tryz.func40,Tryz.ntmps40;go_wp2_with (at_builtin;refine Lib.wpList_append_run _ rfl _ _ _ _ rfl _ _ rfl rfl _ _ (h1 _) ?_);go_end0;exact⟨rfl,_,hE.out⟩
theorem behind_any (m a s:Tx) (w:World) (hm:m.length≤100) (hs:s.length≤10000000000):
  Calls Tryz.prog 108 #[.string (S m),.string (S a),.string (S s)] w fun e w'=>e=.returned (.string (S (if s=[]then a else m++s)))∧w=w':=by
 have hz:(S m).size+(S s).size≤20000000000:=by rw[S_size,S_size];omega
 have HA:Hid (S m++S s=S (m++s)):=Lib.hid (S_app m s);by_cases h0:s=[]
 ·rw[if_pos h0]
  subst h0;have e1:(S []).toList==[]:=by rw[S_toList];rfl
  clear HA;generalize S ([]:Tx)=t at *;go_enter Tryz.func108,Tryz.ntmps108;go_wp2_with fail;go_ret;exact⟨rfl,rfl⟩
 ·rw[if_neg h0]
  have e1:((S s).toList==[])=false:=by rw[S_toList];simpa using h0
  clear h0;generalize S (m++s)=y at *;generalize S s=t at *;generalize S m=q at *;go_enter Tryz.func108,Tryz.ntmps108;go_wp2_with fail;go_ret;exact⟨ret_str HA.out,rfl⟩
theorem written_any (v:Value) (l:List Sp) (w:World) (ht:Tr w v l) (hn:totAll l≤20000) (hf:fitAll 140737488355328 l) (hr:rtB l=true):
  Calls Tryz.prog 105 #[v] w fun e w'=>e=.returned (.string (S (wrs l)))∧Below w.heap.size w w':=by
 have HW:=Lib.hid (writeP_any v l w ht hn hf);unfold TwoAns wrB erB at HW;rw[if_pos hr,if_pos hr]at HW;clear ht hn hf hr;generalize S (wrs l)=y at *;go_enter Tryz.func105,Tryz.ntmps105;go_wp2_with fail;refine HW.out.mono ?_;rintro e w1 ⟨rfl,b1⟩;have B1:=Lib.hid b1;clear b1 HW;go_wp2_with fail;go_ret;exact⟨rfl,B1.out⟩
def tkL (n:Nat):List Tx→Nat
 |[]=>n
 |s::r=>tkL (max n (Ln.mx 96 s+1)) r
theorem tkL_eq:∀(l:List Tx) (n:Nat),3≤n→tkL n l=max n (ticksL l)
 |[],n,h=>by show n=max n 3;omega
 |s::r,n,h=>by
  rw[tkL,tkL_eq r _ (by omega)];show _=max n (max (Ln.mx 96 s+1) (ticksL r));omega
theorem tkL_ticks (l:List Tx):tkL 3 l=ticksL l:=by
 have h:3≤ticksL l:=by
  induction l with
  |nil=>exact Nat.le_refl _
  |cons s r ih=>show 3≤max _ (ticksL r);omega
 rw[tkL_eq l 3 (Nat.le_refl _)];omega
set_option maxHeartbeats 800000 in
theorem ticks_any (v:Value) (xs:List Tx) (w:World) (hr:Rd w v xs) (hn:xs.length≤1000000) (hx:∀x∈xs,x.length≤1000000):
  Calls Tryz.prog 15 #[v] w fun e w'=>e=.returned (.int .i64 (ticksL xs:Nat))∧w=w':=by
 obtain⟨ao,ca,rfl⟩:=hr.len;have e96:(((96:UInt8).toNat:Nat):Int)=96:=rfl;have HL:=Lib.hid (fun j (hj:j<xs.length) (w':World)=>Ln.longest_any (S xs[j]) (by rw[S_size];have:=hx xs[j] (List.getElem_mem hj);omega) 96 w');simp only[S_list,e96]at HL;have HM:Hid (∀j (hj:j<xs.length),Ln.mx 96 xs[j]≤1000000):=Lib.hid (fun j hj=>Nat.le_trans (Ln.mx_le 96 _) (hx xs[j] (List.getElem_mem hj)));have HRd:=Lib.hid (Bt.Rd.at hr);have H0:Hid (ticksL xs=tkL 3 (xs.drop 0)):=Lib.hid (by rw[List.drop_zero,tkL_ticks]);generalize ticksL xs=X at *;clear hr hx e96;go_enter Tryz.func15,Tryz.ntmps15;go_wp2_with fail;go_loop [3,8] (fun n i=>∃j q:Nat,j≤xs.length∧i=.int .i64 j∧n=.int .i64 q∧q≤1000001∧Hid (X=tkL q (xs.drop j))) (fun _ i=>xs.length-(intOf i).toNat)
 case atStart=>exact⟨0,3,Nat.zero_le _,rfl,rfl,by omega,H0⟩
 case round=>
  clear H0;obtain⟨j,q,hj,rfl,rfl,hq,HN⟩:=hrel;by_cases hlt:j<xs.length
  ·have hi1:(j:Int)<(xs.length:Int):=by omega
   obtain⟨b,o,rfl,c0⟩:=HRd.out j hlt;have HLj:=Lib.hid (HL.out j hlt w);have hm:=HM.out j hlt;have hdr:xs.drop j=xs[j]::xs.drop (j+1):=List.drop_eq_getElem_cons hlt;have HN2:Hid (X=tkL (max q (Ln.mx 96 xs[j]+1)) (xs.drop (j+1))):=Lib.hid (by rw[HN.out,hdr];rfl);clear HN hdr;generalize Ln.mx 96 xs[j]=m at *;generalize S xs[j]=sx at *;go_wp2_with fail;refine HLj.out.mono ?_;rintro e w' ⟨rfl,rfl⟩;clear HLj;go_wp2_with fail;go_round
   case rel=>exact⟨j+1,max q (m+1),by omega,by go_num,by go_num,by omega,HN2⟩
   case measure=>simp[intOf]<;>omega
  ·have hi1:¬(j:Int)<(xs.length:Int):=by omega
   have HX:Hid (X=q):=Lib.hid (by rw[HN.out,List.drop_eq_nil_of_le (by omega)];rfl);clear HN hlt;go_wp2_with fail;go_ret;exact⟨ret_int (by rw[HX.out]),rfl⟩
end Wr
namespace Wr
open Go.RowKit
open Tk (S S_list S_size S_app Rd)
open Sp (Sp Tr rtB wrs totAll fitAll wrs_le)
open Bk (Tx ticksL)
open Pa (OutS encX_map)
theorem out_of {B:Nat} {w:World} {u:Value} {xs:List Tx} (hB:B≤w.heap.size) (h:w.ownsRow B 9 1 u xs.length (xs.map encStr)):OutS B w u xs:=
 ⟨hB,by rw[encX_map];exact h,fun _ _ _ _=>trivial⟩
set_option maxHeartbeats 1600000 in
theorem wpara_any {B b:Nat} {g:Option Nat} {ls:List Tx} {w:World} (h:Pg B b g ls w) (v:Value) (l:List Sp) (ht:Tr w v l) (hn:totAll l≤20000) (hf:fitAll 140737488355328 l) (hr:rtB l=true) (hl:ls.length+(Ln.split (wrs l)).1.length≤1000000):
  Calls Tryz.prog 68 #[.pointer (some ⟨b,0,none⟩),v] w (PutAns B b g (ls++(Ln.split (wrs l)).1) w):=by
 have HW:=Lib.hid (written_any v l w ht hn hf hr);have hwl:=wrs_le l;have HS:=Lib.hid (fun w'=>Ln.split_any (S (wrs l)) (by rw[S_size];omega) w');simp only[S_list]at HS;have HP:=Lib.hid h;have HPut:=Lib.hid (fun(g':Option Nat) (ls':List Tx) (w':World) (h':Pg B b g' ls' w') (s:Tx) (hl':ls'.length+1≤1000000)=>put_any h' s hl');clear ht hn hf hr hwl;generalize (Ln.split (wrs l)).1=xs at *;generalize (Ln.split (wrs l)).2=xe at *;generalize S (wrs l)=y at *;unfold PutAns at HPut;go_enter Tryz.func68,Tryz.ntmps68;go_wp2_with fail;refine HW.out.mono ?_;rintro e w1 ⟨rfl,b1⟩;have P1:=Lib.hid (HP.out.below b1);have B1:=Lib.hid b1;clear b1 HW;go_wp2_with fail;refine(HS.out _).mono ?_;rintro e w2 ⟨u,rfl,hown,b2⟩;have HO:=Lib.hid (out_of b2.size hown);have P2:=Lib.hid (P1.out.below b2);have B2:=Lib.hid (B1.out.trans (b2.mono B1.out.size));obtain⟨ao,ca,hu⟩:=(Rd.of_own hown).len;subst hu;clear hown b2 HS;go_wp2_with fail;go_loopw [16] (fun iv wr=>∃j:Nat,j≤xs.length∧iv=.int .i64 j∧Hid (∃g',Pt B b g g' (ls++xs.take j) w2 wr)) (fun iv _=>xs.length-(intOf iv).toNat)
 case atStart=>exact⟨0,Nat.zero_le _,rfl,Lib.hid ⟨g,by rw[List.take_zero,List.append_nil];exact Pt.refl P2.out⟩⟩
 case round=>
  obtain⟨j,hj,rfl,HT⟩:=hrel;obtain⟨g1,t1⟩:=HT.out;have HT1:=Lib.hid t1;clear t1 HT;by_cases hlt:j<xs.length
  ·have hi1:(j:Int)<(xs.length:Int):=by omega
   obtain⟨bb,o,rfl,c0⟩:=Bt.Rd.at (HT1.out.rd P1.out HO.out) j hlt;have HPj:=Lib.hid (HPut.out _ _ _ HT1.out.pg xs[j] (by rw[List.length_append,List.length_take];omega));have HE:Hid (ls++xs.take j++[xs[j]]=ls++xs.take (j+1)):=Lib.hid (by rw[List.append_assoc,List.take_succ_eq_append_getElem hlt]);clear HPut;generalize S xs[j]=sx at *;go_wp2_with fail;refine HPj.out.mono ?_;rintro e w3 ⟨rfl,g2,t2⟩;have HT2:Hid (∃g',Pt B b g g' (ls++xs.take (j+1)) w2 w3):=Lib.hid ⟨g2,by rw[←HE.out];exact HT1.out.trans t2⟩;clear t2 HPj;go_wp2_with fail;go_roundw
   case rel=>exact⟨j+1,by omega,by go_num,HT2⟩
   case measure=>simp[intOf]<;>omega
  ·have hi1:¬(j:Int)<(xs.length:Int):=by omega
   have HX2:Hid (Pt B b g g1 (ls++xs) w wr):=Lib.hid (by
    have h2:=HT1.out;rw[List.take_of_length_le (by omega)]at h2;exact Pt.ahead HP.out B2.out h2)
   clear HT1 hlt;go_wp2_with fail;go_end0;exact⟨rfl,_,HX2.out⟩
theorem reps (c:UInt8) (n:Nat) (hn:n≤1000000) (w:World):Calls Tryz.prog 106 #[.string (S [c]),.int .i64 (n:Nat)] w fun e w'=>e=.returned (.string (S (List.replicate n c)))∧Below w.heap.size w w':=by
 have h:=Tryz.strings_Repeat (S [c]) n w (by omega) (by rw[S_size];show 1*_≤_;omega);rw[S_list,Sp.repeat_rep9 c]at h;exact h
set_option maxHeartbeats 1600000 in
theorem wheading_any {B b:Nat} {g:Option Nat} {ls:List Tx} {w:World} (h:Pg B b g ls w) (lv:Nat) (hlv:lv≤6) (v:Value) (l:List Sp) (ht:Tr w v l) (hn:totAll l≤20000) (hf:fitAll 140737488355328 l) (hr:rtB l=true) (hl:ls.length+1≤1000000):
  Calls Tryz.prog 69 #[.pointer (some ⟨b,0,none⟩),.int .i64 (lv:Nat),v] w (PutAns B b g (ls++[List.replicate lv 35++(if l=[]then []else 32::wrs l)]) w):=by
 have HR:=Lib.hid (reps 35 lv (by omega) w);have HW:=Lib.hid (fun w' (hb:Below w.heap.size w w')=>written_any v l w' (ht.below hb) hn hf hr);have hwl:=wrs_le l;have HP:=Lib.hid h;have HPut:=Lib.hid (fun(w':World) (h':Below w.heap.size w w') (s:Tx) (x:ByteArray) (hx:x=S s)=>(show Calls Tryz.prog 40 #[.pointer (some ⟨b,0,none⟩),.string x] w' (PutAns B b g (ls++[s]) w')by rw[hx];exact put_any (h.below h') s hl));obtain⟨ao,ca,rfl⟩:=ht.len;have hz1:(S (List.replicate lv (35:UInt8))).size≤6:=by rw[S_size,List.length_replicate];exact hlv
 have hz2:(S (wrs l)).size≤200000:=by rw[S_size];omega
 have h32:S [35]=⟨#[35]⟩:=rfl;rw[h32]at HR;clear ht hn hf hr hwl h32;unfold PutAns at HPut;by_cases h0:l=[]
 ·rw[if_pos h0,List.append_nil]
  subst h0;clear HW hz2;generalize hy:S (List.replicate lv 35)=y at *;have HY:=Lib.hid hy;clear hy;go_enter Tryz.func69,Tryz.ntmps69;go_wp2_with fail;refine HR.out.mono ?_;rintro e w1 ⟨rfl,b1⟩;have HPj:=Lib.hid (HPut.out w1 b1 _ _ HY.out.symm);have B1:=Lib.hid b1;clear b1 HR HPut;go_wp2_with fail;refine HPj.out.mono ?_;rintro e w2 ⟨rfl,g2,t2⟩;have HT:=Lib.hid (Pt.ahead HP.out B1.out t2);clear t2 HPj;go_wp2_with fail;go_end0;exact⟨rfl,_,HT.out⟩
 ·rw[if_neg h0]
  have hpos:(0:Int)<(l.length:Int):=by have:=List.length_pos_iff.2 h0;omega
  have HA:Hid (S (List.replicate lv 35)++(⟨#[32]⟩++S (wrs l))=S (List.replicate lv 35++32::wrs l)):=Lib.hid (by rw[←S_app];congr 1);have hz3:(⟨#[32]⟩++S (wrs l)).size≤200001:=by rw[ByteArray.size_append];show 1+_≤_;omega
  clear h0;generalize S (wrs l)=z at *;generalize S (List.replicate lv 35)=y at *;go_enter Tryz.func69,Tryz.ntmps69;go_wp2_with fail;refine HR.out.mono ?_;rintro e w1 ⟨rfl,b1⟩;have HW1:=Lib.hid (HW.out w1 b1);have B1:=Lib.hid b1;clear b1 HR HW;go_wp2_with fail;refine HW1.out.mono ?_;rintro e w2 ⟨rfl,b2⟩;have B2:=Lib.hid (B1.out.trans (b2.mono B1.out.size));have HPj:=Lib.hid (HPut.out w2 B2.out _ _ HA.out);clear b2 HW1 HPut B1;go_wp2_with fail;refine HPj.out.mono ?_;rintro e w3 ⟨rfl,g2,t2⟩;have HT:=Lib.hid (Pt.ahead HP.out B2.out t2);clear t2 HPj;go_wp2_with fail;go_end0;exact⟨rfl,_,HT.out⟩
set_option maxHeartbeats 1600000 in
theorem wfence_any {B b:Nat} {g:Option Nat} {ls:List Tx} {w:World} (h:Pg B b g ls w) (info:Tx) (v:Value) (xs:List Tx) (hr:∀w',Below B w w'→Rd w' v xs) (hi:info.length≤1000000) (hn:xs.length≤100000) (hx:∀x∈xs,x.length≤100000) (hl:ls.length+xs.length+2≤1000000):
  Calls Tryz.prog 70 #[.pointer (some ⟨b,0,none⟩),.string (S info),v] w (PutAns B b g (ls++((List.replicate (ticksL xs) 96++info)::(xs++[List.replicate (ticksL xs) 96]))) w):=by
 have hr0:=hr w (Below.refl _ _);have HT:=Lib.hid (ticks_any v xs w hr0 (by omega) (fun x hx'=>by have:=hx x hx';omega))
 have hq:ticksL xs≤1000000:=by
  rw[←tkL_ticks]
  have:∀(l:List Tx) (n:Nat),n≤1000000→(∀x∈l,x.length≤100000)→tkL n l≤1000000:=by
   intro l;induction l with
   |nil=>exact fun n hn _=>hn
   |cons s r ih=>exact fun n hn hx=>ih _ (by have:=hx s (List.mem_cons_self ..);have:=Ln.mx_le 96 s;omega) (fun x hx'=>hx x (List.mem_cons_of_mem _ hx'))
  exact this xs 3 (by omega) hx
 have HR:=Lib.hid (fun w'=>reps 96 (ticksL xs) hq w');obtain⟨ao,ca,rfl⟩:=hr0.len;have HRd:=Lib.hid hr;have HP:=Lib.hid h;have HPut:=Lib.hid (fun(g':Option Nat) (ls':List Tx) (w':World) (h':Pg B b g' ls' w') (s:Tx) (x:ByteArray) (hx:x=S s) (hl':ls'.length+1≤1000000)=>(show Calls Tryz.prog 40 #[.pointer (some ⟨b,0,none⟩),.string x] w' (PutAns B b g' (ls'++[s]) w')by rw[hx];exact put_any h' s hl'));have h96:S [96]=⟨#[96]⟩:=rfl;rw[h96]at HR;have hz:(S (List.replicate (ticksL xs) (96:UInt8))).size+(S info).size≤2000000:=by rw[S_size,S_size,List.length_replicate];omega
 have HA:Hid (S (List.replicate (ticksL xs) 96)++S info=S (List.replicate (ticksL xs) 96++info)):=Lib.hid (S_app _ _);generalize List.replicate (ticksL xs) (96:UInt8)=tk at *;generalize ticksL xs=tn at *;unfold PutAns at HPut;clear hr hr0 hx h96 hq;generalize hy:S tk=y at *;have HY:=Lib.hid hy;clear hy;generalize S info=si at *;go_enter Tryz.func70,Tryz.ntmps70;go_wp2_with fail;refine HT.out.mono ?_;rintro e w0 ⟨rfl,rfl⟩;clear HT;go_wp2_with fail;refine(HR.out _).mono ?_;rintro e w1 ⟨rfl,b1⟩;have P1:=Lib.hid (HP.out.below b1);have HP1:=Lib.hid (HPut.out _ _ _ P1.out _ _ HA.out (by omega));have B1:=Lib.hid b1;clear b1 HR;go_wp2_with fail;refine HP1.out.mono ?_;rintro e w2 ⟨rfl,g2,t2⟩;have HT2:=Lib.hid (Pt.ahead HP.out B1.out t2);clear t2 HP1;go_wp2_with fail;go_loopw [19] (fun iv wr=>∃j:Nat,j≤xs.length∧iv=.int .i64 j∧Hid (∃g',Pt B b g g' (ls++[tk++info]++xs.take j) w wr)) (fun iv _=>xs.length-(intOf iv).toNat)
 case atStart=>exact⟨0,Nat.zero_le _,rfl,Lib.hid ⟨g2,by rw[List.take_zero,List.append_nil];exact HT2.out⟩⟩
 case round=>
  clear HT2 P1 B1 HA;obtain⟨j,hj,rfl,HT⟩:=hrel;obtain⟨g1,t1⟩:=HT.out;have HT1:=Lib.hid t1;clear t1 HT;by_cases hlt:j<xs.length
  ·have hi1:(j:Int)<(xs.length:Int):=by omega
   obtain⟨bb,o,rfl,c0⟩:=Bt.Rd.at (HRd.out wr (HT1.out.bel HP.out)) j hlt;have HPj:=Lib.hid (HPut.out _ _ _ HT1.out.pg xs[j] _ rfl (by simp only[List.length_append,List.length_take,List.length_cons,List.length_nil];omega));have HE:Hid (ls++[tk++info]++xs.take j++[xs[j]]=ls++[tk++info]++xs.take (j+1)):=Lib.hid (by rw[List.append_assoc,List.take_succ_eq_append_getElem hlt]);clear HPut;generalize S xs[j]=sx at *;go_wp2_with fail;refine HPj.out.mono ?_;rintro e w3 ⟨rfl,g3,t3⟩;have HT2:Hid (∃g',Pt B b g g' (ls++[tk++info]++xs.take (j+1)) w w3):=Lib.hid ⟨g3,by rw[←HE.out];exact HT1.out.trans t3⟩;clear t3 HPj;go_wp2_with fail;go_roundw
   case rel=>exact⟨j+1,by omega,by go_num,HT2⟩
   case measure=>simp[intOf]<;>omega
  ·have hi1:¬(j:Int)<(xs.length:Int):=by omega
   have HX2:Hid (Pt B b g g1 (ls++[tk++info]++xs) w wr):=Lib.hid (by
    have h2:=HT1.out;rwa[List.take_of_length_le (by omega)]at h2)
   have HPj:=Lib.hid (HPut.out _ _ _ HX2.out.pg tk _ HY.out.symm (by simp only[List.length_append,List.length_cons,List.length_nil];omega));clear HT1 hlt HPut;go_wp2_with fail;refine HPj.out.mono ?_;rintro e w3 ⟨rfl,g3,t3⟩;have HT3:=Lib.hid (HX2.out.trans t3);clear t3 HPj HX2;go_wp2_with fail;go_end0;exact⟨rfl,g3,by have h3:=HT3.out;rwa[List.append_assoc,List.append_assoc]at h3⟩
end Wr
namespace Wr
open Go.RowKit
open Tk (S Rd)
open Bt (TrB ttAll)
open Cm (cell_at)
open Bk (Tx Bk wl preQ preI itemW)
open Pa (OutS)
def RowS (w:World) (l:List Tx) (e:Ending) (w':World):Prop:=∃u,e=.returned u∧OutS w.heap.size w' u l∧Below w.heap.size w w'
theorem behindQ (x:Tx) (w:World) (hx:x.length≤10000000000):Calls Tryz.prog 108 #[.string ⟨#[62,32]⟩,.string ⟨#[62]⟩,.string (S x)] w fun e w'=>e=.returned (.string (S (preQ x)))∧w=w':=by
 have h:=behind_any [62,32] [62] x w (by decide) hx;unfold preQ;exact h
set_option maxHeartbeats 1600000 in
theorem wquote_any {B b:Nat} {g:Option Nat} {ls:List Tx} {w:World} (h:Pg B b g ls w) (v:Value) (xs:List Tx) (HI:Calls Tryz.prog 107 #[v] w (RowS w xs)) (hx:∀x∈xs,x.length≤10000000000) (hl:ls.length+xs.length≤1000000):
  Calls Tryz.prog 71 #[.pointer (some ⟨b,0,none⟩),v] w (PutAns B b g (ls++xs.map preQ) w):=by
 have HI:=Lib.hid HI;have HP:=Lib.hid h;have HB:=Lib.hid (fun j (hj:j<xs.length) (w':World)=>behindQ xs[j] w' (hx _ (List.getElem_mem hj)));have HPut:=Lib.hid (fun(g':Option Nat) (ls':List Tx) (w':World) (h':Pg B b g' ls' w') (s:Tx) (hl':ls'.length+1≤1000000)=>put_any h' s hl');unfold RowS at HI;unfold PutAns at HPut;clear hx;go_enter Tryz.func71,Tryz.ntmps71;go_wp2_with fail;refine HI.out.mono ?_;rintro e w1 ⟨u,rfl,ho,b1⟩;have HO:=Lib.hid ho;have P1:=Lib.hid (HP.out.below b1);have B1:=Lib.hid b1;obtain⟨ao,ca,hu⟩:=(Pa.OutS.rd ho).len;subst hu;clear ho b1 HI;go_wp2_with fail;go_loopw [9] (fun iv wr=>∃j:Nat,j≤xs.length∧iv=.int .i64 j∧Hid (∃g',Pt B b g g' (ls++(xs.map preQ).take j) w1 wr)) (fun iv _=>xs.length-(intOf iv).toNat)
 case atStart=>exact⟨0,Nat.zero_le _,rfl,Lib.hid ⟨g,by rw[List.take_zero,List.append_nil];exact Pt.refl P1.out⟩⟩
 case round=>
  obtain⟨j,hj,rfl,HT⟩:=hrel;obtain⟨g1,t1⟩:=HT.out;have HT1:=Lib.hid t1;clear t1 HT;by_cases hlt:j<xs.length
  ·have hi1:(j:Int)<(xs.length:Int):=by omega
   obtain⟨bb,o,rfl,c0⟩:=Bt.Rd.at (HT1.out.rd HP.out HO.out) j hlt;have HBj:=Lib.hid (HB.out j hlt wr);have HPj:=Lib.hid (HPut.out _ _ _ HT1.out.pg (preQ xs[j]) (by rw[List.length_append,List.length_take,List.length_map];omega));have HE:Hid (ls++(xs.map preQ).take j++[preQ xs[j]]=ls++(xs.map preQ).take (j+1)):=Lib.hid (by rw[List.append_assoc,List.take_succ_eq_append_getElem (by rw[List.length_map];exact hlt),List.getElem_map]);clear HPut HB;generalize S (preQ xs[j])=px at *;generalize S xs[j]=sx at *;go_wp2_with fail;refine HBj.out.mono ?_;rintro e w2 ⟨rfl,rfl⟩;clear HBj;go_wp2_with fail;refine HPj.out.mono ?_;rintro e w3 ⟨rfl,g2,t2⟩;have HT2:Hid (∃g',Pt B b g g' (ls++(xs.map preQ).take (j+1)) w1 w3):=Lib.hid ⟨g2,by rw[←HE.out];exact HT1.out.trans t2⟩;clear t2 HPj;go_wp2_with fail;go_roundw
   case rel=>exact⟨j+1,by omega,by go_num,HT2⟩
   case measure=>simp[intOf]<;>omega
  ·have hi1:¬(j:Int)<(xs.length:Int):=by omega
   have HX2:Hid (Pt B b g g1 (ls++xs.map preQ) w wr):=Lib.hid (by
    have h2:=HT1.out;rw[List.take_of_length_le (by rw[List.length_map];omega)]at h2;exact Pt.ahead HP.out B1.out h2)
   clear HT1 hlt;go_wp2_with fail;go_end0;exact⟨rfl,_,HX2.out⟩
def itP (j:Nat) (x:Tx):Tx:=if j=0 then(if x=[]then [45]else 45::32::x)else preI x
theorem behind0 (x:Tx) (j:Nat) (hj:j=0) (w:World) (hx:x.length≤10000000000):Calls Tryz.prog 108 #[.string ⟨#[45,32]⟩,.string ⟨#[45]⟩,.string (S x)] w fun e w'=>e=.returned (.string (S (itP j x)))∧w=w':=by
 subst hj;have h:=behind_any [45,32] [45] x w (by decide) hx;exact h
theorem behindI (x:Tx) (j:Nat) (hj:j≠0) (w:World) (hx:x.length≤10000000000):Calls Tryz.prog 108 #[.string ⟨#[32,32]⟩,.string ⟨#[]⟩,.string (S x)] w fun e w'=>e=.returned (.string (S (itP j x)))∧w=w':=by
 have h:=behind_any [32,32] [] x w (by decide) hx;unfold itP;rw[if_neg hj];unfold preI;exact h
theorem itP_map (s:Tx) (r:List Tx) (hs:s≠[]):(s::r).mapIdx itP=itemW (s::r):=by
 rw[List.mapIdx_cons]
 have e:List.mapIdx (fun i=>itP (i+1)) r=r.map preI:=by
  apply List.ext_getElem
  ·simp
  ·intro i h1 h2
   simp[itP]
 rw[e];show itP 0 s::_=(45::32::s)::_;unfold itP;rw[if_pos rfl,if_neg hs]
set_option maxHeartbeats 1600000 in
theorem witem_any {B b:Nat} {g:Option Nat} {ls:List Tx} {w:World} (h:Pg B b g ls w) (v:Value) (xs:List Tx) (HI:Calls Tryz.prog 107 #[v] w (RowS w xs)) (hx:∀x∈xs,x.length≤10000000000) (hl:ls.length+xs.length≤1000000):
  Calls Tryz.prog 72 #[.pointer (some ⟨b,0,none⟩),v] w (PutAns B b g (ls++xs.mapIdx itP) w):=by
 have HI:=Lib.hid HI;have HP:=Lib.hid h;have HB0:=Lib.hid (fun j (hj:j<xs.length) (h0:j=0) (w':World)=>behind0 xs[j] j h0 w' (hx _ (List.getElem_mem hj)));have HB:=Lib.hid (fun j (hj:j<xs.length) (h0:j≠0) (w':World)=>behindI xs[j] j h0 w' (hx _ (List.getElem_mem hj)));have HPut:=Lib.hid (fun(g':Option Nat) (ls':List Tx) (w':World) (h':Pg B b g' ls' w') (s:Tx) (hl':ls'.length+1≤1000000)=>put_any h' s hl');unfold RowS at HI;unfold PutAns at HPut;clear hx;go_enter Tryz.func72,Tryz.ntmps72;go_wp2_with fail;refine HI.out.mono ?_;rintro e w1 ⟨u,rfl,ho,b1⟩;have HO:=Lib.hid ho;have P1:=Lib.hid (HP.out.below b1);have B1:=Lib.hid b1;obtain⟨ao,ca,hu⟩:=(Pa.OutS.rd ho).len;subst hu;clear ho b1 HI;go_wp2_with fail;go_loopw [9] (fun iv wr=>∃j:Nat,j≤xs.length∧iv=.int .i64 j∧Hid (∃g',Pt B b g g' (ls++(xs.mapIdx itP).take j) w1 wr)) (fun iv _=>xs.length-(intOf iv).toNat)
 case atStart=>exact⟨0,Nat.zero_le _,rfl,Lib.hid ⟨g,by rw[List.take_zero,List.append_nil];exact Pt.refl P1.out⟩⟩
 case round=>
  obtain⟨j,hj,rfl,HT⟩:=hrel;obtain⟨g1,t1⟩:=HT.out;have HT1:=Lib.hid t1;clear t1 HT;by_cases hlt:j<xs.length
  ·have hi1:(j:Int)<(xs.length:Int):=by omega
   obtain⟨bb,o,rfl,c0⟩:=Bt.Rd.at (HT1.out.rd HP.out HO.out) j hlt;have HPj:=Lib.hid (HPut.out _ _ _ HT1.out.pg (itP j xs[j]) (by rw[List.length_append,List.length_take,List.length_mapIdx];omega));have HE:Hid (ls++(xs.mapIdx itP).take j++[itP j xs[j]]=ls++(xs.mapIdx itP).take (j+1)):=Lib.hid (by rw[List.append_assoc,List.take_succ_eq_append_getElem (by rw[List.length_mapIdx];exact hlt),List.getElem_mapIdx]);by_cases h0:j=0
   ·have HBj:=Lib.hid (HB0.out j hlt h0 wr)
    have e0:((j:Int)==0)=true:=by rw[h0];rfl
    clear HPut HB HB0 h0;generalize S (itP j xs[j])=px at *;generalize S xs[j]=sx at *;go_wp2_with fail;refine HBj.out.mono ?_;rintro e w2 ⟨rfl,rfl⟩;clear HBj;go_wp2_with fail;refine HPj.out.mono ?_;rintro e w3 ⟨rfl,g2,t2⟩;have HT2:Hid (∃g',Pt B b g g' (ls++(xs.mapIdx itP).take (j+1)) w1 w3):=Lib.hid ⟨g2,by rw[←HE.out];exact HT1.out.trans t2⟩;clear t2 HPj;go_wp2_with fail;go_roundw
    case rel=>exact⟨j+1,by omega,by go_num,HT2⟩
    case measure=>simp[intOf]<;>omega
   ·have HBj:=Lib.hid (HB.out j hlt h0 wr)
    have e0:((j:Int)==0)=false:=by rw[beq_eq_false_iff_ne];omega
    clear HPut HB HB0 h0;generalize S (itP j xs[j])=px at *;generalize S xs[j]=sx at *;go_wp2_with fail;refine HBj.out.mono ?_;rintro e w2 ⟨rfl,rfl⟩;clear HBj;go_wp2_with fail;refine HPj.out.mono ?_;rintro e w3 ⟨rfl,g2,t2⟩;have HT2:Hid (∃g',Pt B b g g' (ls++(xs.mapIdx itP).take (j+1)) w1 w3):=Lib.hid ⟨g2,by rw[←HE.out];exact HT1.out.trans t2⟩;clear t2 HPj;go_wp2_with fail;go_roundw
    case rel=>exact⟨j+1,by omega,by go_num,HT2⟩
    case measure=>simp[intOf]<;>omega
  ·have hi1:¬(j:Int)<(xs.length:Int):=by omega
   have HX2:Hid (Pt B b g g1 (ls++xs.mapIdx itP) w wr):=Lib.hid (by
    have h2:=HT1.out;rw[List.take_of_length_le (by rw[List.length_mapIdx];omega)]at h2;exact Pt.ahead HP.out B1.out h2)
   clear HT1 hlt;go_wp2_with fail;go_end0;exact⟨rfl,_,HX2.out⟩
def BlkC (l:List Bk):Prop:=∀(v:Value) (w0 w:World) (b:Nat) (g:Option Nat) (ls:List Tx),TrB w0 v l→Below w0.heap.size w0 w→Pg w0.heap.size b g ls w→ls.length+3*ttAll l≤900000→
 Calls Tryz.prog 26 #[.pointer (some ⟨b,0,none⟩),v] w (PutAns w0.heap.size b g (ls++wl l) w)
def insL (l:List Bk):List Tx:=if wl l=[]then [[]]else wl l
set_option maxHeartbeats 1600000 in
theorem winside_any (l:List Bk) (H:BlkC l) (v:Value) (w:World) (ht:TrB w v l) (hl:3*ttAll l≤900000):
  Calls Tryz.prog 107 #[v] w (RowS w (insL l)):=by
 have HC:=Lib.hid (H v w (w.alloc (.cells #[.slice none 0 0] 55)) w.heap.size none [] ht ((Below.refl _ _).alloc (Nat.le_refl _) _) (Pg.begin w) (by simpa using hl));have HB1:=Lib.hid ((Below.refl w.heap.size w).alloc (Nat.le_refl _) (.cells #[.slice none 0 0] 55));have HP1:=Lib.hid (Pg.begin w);have HPut:=Lib.hid (fun(g':Option Nat) (ls':List Tx) (w':World) (h':Pg w.heap.size w.heap.size g' ls' w') (s:Tx) (hl':ls'.length+1≤1000000)=>put_any h' s hl');have HX:Hid (insL l=if wl l=[]then [[]]else wl l):=Lib.hid rfl;generalize insL l=X at *;rw[List.nil_append]at HC;unfold PutAns at HC HPut;clear H ht hl;generalize wl l=L at *;obtain⟨ao0,ca0,hv⟩:∃(a:Value) (c:Unit),v=a:=⟨v,(),rfl⟩;clear hv ao0 ca0;go_enter Tryz.func107,Tryz.ntmps107;go_upto_region 2 with fail;generalize w.alloc (.cells #[.slice none 0 0] 55)=w1 at *;go_wp2_with fail;refine HC.out.mono ?_;rintro e w2 ⟨rfl,g2,t2⟩;have HT2:=Lib.hid t2;have HB2:=Lib.hid (HB1.out.trans (t2.bel HP1.out));clear t2 HC HB1 HP1;by_cases h0:L=[]
 ·rw[if_pos h0]at HX
  subst h0;have HPj:=Lib.hid (HPut.out _ _ _ HT2.out.pg [] (by simp));have hz:S []=⟨#[]⟩:=rfl;rw[hz,List.nil_append]at HPj;obtain⟨_,u2,hb2,_,ho2⟩:=HT2.out.pg;obtain⟨ao,ca,hu⟩:=(Pa.OutS.rd ho2).len;subst hu;have c0:=cell_at hb2 0;rw[show([]:List Tx).length=0 from rfl]at c0;have c1:w2.cell? ⟨w.heap.size,0,none⟩=some (.slice ao 0 ca):=c0;have P2:=Lib.hid HT2.out.pg;clear hb2 ho2 HPut hz HT2 c0;go_wp2_with fail;refine HPj.out.mono ?_;rintro e w3 ⟨rfl,g3,t3⟩;have HB3:=Lib.hid (HB2.out.trans (t3.bel P2.out));obtain⟨_,u3,hb3,_,ho3⟩:=t3.pg;obtain⟨ao3,ca3,hu3⟩:=(Pa.OutS.rd ho3).len;have HO3:=Lib.hid ho3;have c3:w3.cell? ⟨w.heap.size,0,none⟩=some u3:=cell_at hb3 0;clear hb3 ho3 t3 HPj hu3;go_wp2_with fail;go_ret;exact⟨_,rfl,by rw[HX.out];exact HO3.out,HB3.out⟩
 ·rw[if_neg h0]at HX
  have hpos:0<L.length:=List.length_pos_iff.2 h0;obtain⟨_,u2,hb2,_,ho2⟩:=HT2.out.pg;obtain⟨ao,ca,hu⟩:=(Pa.OutS.rd ho2).len;have HO2:=Lib.hid ho2;have c1:w2.cell? ⟨w.heap.size,0,none⟩=some u2:=cell_at hb2 0;obtain⟨n,hn⟩:∃n,L.length=n:=⟨_,rfl⟩;rw[hn]at hu hpos;have e0:((n:Int)==0)=false:=by rw[beq_eq_false_iff_ne];omega
  subst hu;clear hb2 ho2 HPut HT2 h0 hn;go_wp2_with fail;go_ret;exact⟨_,rfl,by rw[HX.out];exact HO2.out,HB2.out⟩
end Wr
namespace Wr
open Go.RowKit
open Tk (S S_size S_app Rd)
open Sp (Tr wrs)
open Bt (TrB fitAll fitOne ttAll ttOne szAll szOne allB oneB allB_cons lnTot)
open Cm (cell_at alloc_new)
open Bk (Tx Bk wl its preQ itemW)
theorem wl_snoc:∀(l:List Bk) (x:Bk),wl (l++[x])=if l=[]then Bk.one x else wl l++[]::Bk.one x
 |[],x=>by rw[List.nil_append,Bk.wl_one];rfl
 |[y],x=>by rw[List.cons_append,List.nil_append,Bk.wl_two,Bk.wl_one,Bk.wl_one];rfl
 |y::z::r,x=>by
  have ih:=wl_snoc (z::r) x;rw[if_neg (by simp)]at ih ⊢;rw[List.cons_append,List.cons_append,Bk.wl_two,←List.cons_append,ih,Bk.wl_two,List.append_assoc];rfl
theorem its_snoc:∀(l:List Bk) (x:Bk),its (l++[x])=its l++Bk.one x
 |[],x=>by rw[List.nil_append,its,its,its];simp
 |y::r,x=>by rw[List.cons_append,its,its,its_snoc r x,List.append_assoc]
theorem ins_Q (l:List Bk):(insL l).map preQ=if wl l=[]then [[62]]else(wl l).map preQ:=by
 unfold insL;split<;>rfl
theorem ins_I {l:List Bk} {p:Int} (h:allB false p l=true):(insL l).mapIdx itP=itemW (wl l):=by
 unfold insL;cases l with
 |nil=>rw[wl];rfl
 |cons b r=>
  have ho:=oks_of false p _ h;obtain⟨k,lv,i,ls,ss,ks⟩:=b;rw[Bk.oks]at ho;obtain⟨s,q,e,_,c,t,hs,_⟩:=first_kind _ ho.1;have hw:wl (Bk.mk k lv i ls ss ks::r)=s::(q++Bk.tl r):=by rw[Bk.wl_tl,e];rfl
  rw[hw,if_neg (by simp),itP_map s _ (by rw[hs];simp)]
theorem ins_len {l:List Bk} {p:Int} (h:allB false p l=true) (ht:ttAll l≤20000):(insL l).length≤3*ttAll l+1∧∀x∈insL l,x.length≤10000000000:=by
 have h1:=wl_sz false p l (Bt.dN l) h (Nat.le_refl _);have h2:=Bt.dN_tt l;have h3:(12+6*Bt.dN l)*ttAll l≤150000*ttAll l:=Nat.mul_le_mul_right _ (by omega);unfold insL;split
 ·exact⟨by simp,fun x hx=>by rw[List.mem_singleton]at hx;rw[hx];simp⟩
 ·exact⟨by omega,fun x hx=>by have:=Pa.tot_mem _ x hx;omega⟩
theorem all_mem {li:Bool}:∀{l:List Bk} {p:Int},allB li p l=true→∀x∈l,oneB li x=true
 |[],_,_,x,hx=>by cases hx
 |y::r,p,h,x,hx=>by
  rw[allB_cons,Bool.and_eq_true,Bool.and_eq_true]at h;rcases List.mem_cons.1 hx with rfl |hx
  ·exact h.1.1
  ·exact all_mem h.2 x hx
theorem all_take {li:Bool}:∀{l:List Bk} {p:Int},allB li p l=true→∀n,allB li p (l.take n)=true
 |l,p,h,0=>by rw[List.take_zero,allB]
 |[],p,h,n+1=>by rw[List.take_nil];exact h
 |y::r,p,h,n+1=>by
  rw[allB_cons,Bool.and_eq_true]at h;rw[List.take_succ_cons,allB_cons,Bool.and_eq_true];exact⟨h.1,all_take h.2 n⟩
theorem tt_take:∀(l:List Bk) (n:Nat),ttAll (l.take n)≤ttAll l
 |l,0=>by rw[List.take_zero,ttAll];exact Nat.zero_le _
 |[],n+1=>by rw[List.take_nil];exact Nat.le_refl _
 |y::r,n+1=>by
  have:=tt_take r n;rw[List.take_succ_cons,Bt.ttAll_cons,Bt.ttAll_cons];omega
def InC (x:Bk):Prop:=∀(l:List Bk) (p:Int),szAll l<szOne x→allB false p l=true→fitAll 140737488355328 l→ttAll l≤20000→BlkC l
set_option maxHeartbeats 6400000 in
set_option maxRecDepth 100000 in
theorem wblock_any (x:Bk) (hx:oneB false x=true) (IH:InC x) (al as' ak:Option Addr) (cl cs ck:Nat) (w0 w:World) (b:Nat) (g:Option Nat) (ls:List Tx) (hf:fitOne 140737488355328 x) (htt:ttOne x≤20000)
  (hrd:Rd w0 (.slice al x.lines.length cl) x.lines) (hsp:Tr w0 (.slice as' x.spans.length cs) x.spans) (htr:TrB w0 (.slice ak x.kids.length ck) x.kids) (hb:Below w0.heap.size w0 w) (h:Pg w0.heap.size b g ls w) (hl:ls.length+3*ttOne x≤900000):
  Calls Tryz.prog 41 #[.pointer (some ⟨b,0,none⟩),.agg #[.int .i64 x.kind,.int .i64 x.level,.string (S x.info),.slice al x.lines.length cl,.slice as' x.spans.length cs,.slice ak x.kids.length ck]] w (PutAns w0.heap.size b g (ls++Bk.one x) w):=by
 have hsz1:=(one_sz false x (Bt.d1N x) hx (Nat.le_refl _)).1;obtain⟨q,lv,i,lns,ss,l⟩:=x;simp only[Bk.kind,Bk.level,Bk.info,Bk.lines,Bk.spans,Bk.kids]at hrd hsp htr ⊢;rw[fitOne]at hf;rw[ttOne]at htt hl hsz1;obtain⟨_,hlv,hi,hls,hss,hfl⟩:=hf;have HIn:=Lib.hid IH;have HW0:=Lib.hid hb;have HP:=Lib.hid h;have HRd:=Lib.hid (fun w' (h:Below w0.heap.size w0 w')=>hrd.below h);have HSp:=Lib.hid (fun w' (h:Below w0.heap.size w0 w')=>hsp.below h);have HTr:=Lib.hid (fun w' (h:Below w0.heap.size w0 w')=>htr.below h);have HPut:=Lib.hid (fun(g':Option Nat) (ls':List Tx) (w':World) (h':Pg w0.heap.size b g' ls' w') (s:Tx) (x:ByteArray) (hx:x=S s) (hl':ls'.length+1≤1000000)=>(show Calls Tryz.prog 40 #[.pointer (some ⟨b,0,none⟩),.string x] w' (PutAns w0.heap.size b g' (ls'++[s]) w')by rw[hx];exact put_any h' s hl'));have hxs:=hx;rw[oneB,Bool.and_eq_true,beq_iff_eq]at hxs;obtain⟨hk7,hx2⟩:=hxs;have hk7:¬q=7:=of_decide_eq_false hk7;have HB1:=Lib.hid ((Below.refl w.heap.size w).alloc (Nat.le_refl _) (.cells #[.int .i64 q,.int .i64 lv,.string (S i),.slice al lns.length cl,.slice as' ss.length cs,.slice ak l.length ck] 40));have HC1:=Lib.hid (alloc_new w (.cells #[.int .i64 q,.int .i64 lv,.string (S i),.slice al lns.length cl,.slice as' ss.length cs,.slice ak l.length ck] 40));have hsi:(S i).size≤20000:=by rw[S_size];omega
 clear hrd hsp htr hb h IH;rw[Bk.one]at hsz1 ⊢;split at hx2
 ·rename_i e
  simp only[Bool.and_eq_true]at hx2;rw[if_pos e]at hsz1 ⊢;subst e;have HX:=Lib.hid (fun w' (hw:Below w.heap.size w w')=>wpara_any (HP.out.below hw) _ ss (HSp.out w' (HW0.out.trans (hw.mono HW0.out.size))) (by omega) hss hx2.2 (by omega));unfold PutAns at HX;clear hx2 hsz1 HIn HRd HSp HTr HPut hx;generalize S i=si at *;generalize (Ln.split (wrs ss)).1=L at *;generalize l.length=kn at *;generalize ss.length=sn at *;generalize lns.length=ln at *;go_enter Tryz.func41,Tryz.ntmps41;go_upto_region 1 with fail;generalize w.alloc (.cells #[.int .i64 1,.int .i64 lv,.string si,.slice al ln cl,.slice as' sn cs,.slice ak kn ck] 40)=w1 at *;have k0:w1.cell? ⟨w.heap.size,0,none⟩=some (.int .i64 1):=cell_at HC1.out 0;have k4:w1.cell? ⟨w.heap.size,4,none⟩=some (.slice as' sn cs):=cell_at HC1.out 4;have HX1:=Lib.hid (HX.out w1 HB1.out);clear HX HC1;go_wp2_with fail;refine HX1.out.mono ?_;rintro e w2 ⟨rfl,g2,t2⟩;have HT:=Lib.hid (Pt.ahead HP.out HB1.out t2);clear t2 HX1;go_wp2_with fail;go_end0;exact⟨rfl,g2,HT.out⟩
 rw[if_neg (by assumption)]at hsz1 ⊢;split at hx2
 ·rename_i e
  simp only[Bool.and_eq_true,decide_eq_true_iff]at hx2;rw[if_pos e]at hsz1 ⊢;subst e;obtain⟨n,rfl⟩:∃n:Nat,lv=n:=⟨lv.toNat,by omega⟩;rw[Int.toNat_natCast];have HX:=Lib.hid (fun w' (hw:Below w.heap.size w w')=>wheading_any (HP.out.below hw) n (by omega) _ ss (HSp.out w' (HW0.out.trans (hw.mono HW0.out.size))) (by omega) hss hx2.1.2 (by omega));unfold PutAns at HX;clear hx2 hsz1 HIn HRd HSp HTr HPut hx;generalize S i=si at *;generalize (List.replicate n 35++if ss=[]then []else 32::wrs ss)=L at *;generalize l.length=kn at *;generalize ss.length=sn at *;generalize lns.length=ln at *;go_enter Tryz.func41,Tryz.ntmps41;go_upto_region 1 with fail;generalize w.alloc (.cells #[.int .i64 2,.int .i64 (n:Nat),.string si,.slice al ln cl,.slice as' sn cs,.slice ak kn ck] 40)=w1 at *;have k0:w1.cell? ⟨w.heap.size,0,none⟩=some (.int .i64 2):=cell_at HC1.out 0;have k1:w1.cell? ⟨w.heap.size,1,none⟩=some (.int .i64 (n:Nat)):=cell_at HC1.out 1;have k4:w1.cell? ⟨w.heap.size,4,none⟩=some (.slice as' sn cs):=cell_at HC1.out 4;have HX1:=Lib.hid (HX.out w1 HB1.out);clear HX HC1;go_wp2_with fail;refine HX1.out.mono ?_;rintro e w2 ⟨rfl,g2,t2⟩;have HT:=Lib.hid (Pt.ahead HP.out HB1.out t2);clear t2 HX1;go_wp2_with fail;go_end0;exact⟨rfl,g2,HT.out⟩
 rw[if_neg (by assumption)]at hsz1 ⊢;split at hx2
 ·rename_i e
  rw[if_pos e]at hsz1 ⊢;subst e;have HX:=Lib.hid (fun w' (hw:Below w.heap.size w w')=>HPut.out _ _ _ (HP.out.below hw) [45,45,45] ⟨#[45,45,45]⟩ rfl (by omega));unfold PutAns at HX;clear hx2 hsz1 HIn HRd HSp HTr HPut hx;generalize S i=si at *;generalize l.length=kn at *;generalize ss.length=sn at *;generalize lns.length=ln at *;go_enter Tryz.func41,Tryz.ntmps41;go_upto_region 1 with fail;generalize w.alloc (.cells #[.int .i64 3,.int .i64 lv,.string si,.slice al ln cl,.slice as' sn cs,.slice ak kn ck] 40)=w1 at *;have k0:w1.cell? ⟨w.heap.size,0,none⟩=some (.int .i64 3):=cell_at HC1.out 0;have HX1:=Lib.hid (HX.out w1 HB1.out);clear HX HC1;go_wp2_with fail;refine HX1.out.mono ?_;rintro e w2 ⟨rfl,g2,t2⟩;have HT:=Lib.hid (Pt.ahead HP.out HB1.out t2);clear t2 HX1;go_wp2_with fail;go_end0;exact⟨rfl,g2,HT.out⟩
 rw[if_neg (by assumption)]at hsz1 ⊢;split at hx2
 ·rename_i e
  rw[if_pos e]at hsz1 ⊢;subst e;have hlm:=fun s (hs:s∈lns)=>Bt.ln_mem hs
  have hll:=lnTot_len lns;simp only[List.length_cons,List.length_append,List.length_nil]at hsz1;have HX:=Lib.hid (fun w' (hw:Below w.heap.size w w')=>wfence_any (HP.out.below hw) i _ lns (fun w'' hb=>HRd.out w'' ((HW0.out.trans (hw.mono HW0.out.size)).trans hb)) (by omega) (by omega) (fun s hs=>by have:=hlm s hs;omega) (by omega));unfold PutAns at HX;clear hx2 hsz1 HIn HRd HSp HTr HPut hx hlm hll;generalize S i=si at *;generalize ((List.replicate (Bk.ticksL lns) 96++i)::(lns++[List.replicate (Bk.ticksL lns) 96]))=L at *;generalize l.length=kn at *;generalize ss.length=sn at *;generalize lns.length=ln at *;go_enter Tryz.func41,Tryz.ntmps41;go_upto_region 1 with fail;generalize w.alloc (.cells #[.int .i64 4,.int .i64 lv,.string si,.slice al ln cl,.slice as' sn cs,.slice ak kn ck] 40)=w1 at *;have k0:w1.cell? ⟨w.heap.size,0,none⟩=some (.int .i64 4):=cell_at HC1.out 0;have k2:w1.cell? ⟨w.heap.size,2,none⟩=some (.string si):=cell_at HC1.out 2;have k3:w1.cell? ⟨w.heap.size,3,none⟩=some (.slice al ln cl):=cell_at HC1.out 3;have HX1:=Lib.hid (HX.out w1 HB1.out);clear HX HC1;go_wp2_with fail;refine HX1.out.mono ?_;rintro e w2 ⟨rfl,g2,t2⟩;have HT:=Lib.hid (Pt.ahead HP.out HB1.out t2);clear t2 HX1;go_wp2_with fail;go_end0;exact⟨rfl,g2,HT.out⟩
 rw[if_neg (by assumption)]at hsz1 ⊢;split at hx2
 ·rename_i e
  rw[if_pos e]at hsz1 ⊢;subst e;simp only[Bool.and_eq_true]at hx2;rw[←ins_Q]at hsz1 ⊢;have hB:=HIn.out l 0 (by rw[szOne];omega) hx2.2 hfl (by omega);obtain⟨hq1,hq2⟩:=ins_len hx2.2 (by omega);rw[List.length_map]at hsz1;have HX:=Lib.hid (fun w' (hw:Below w.heap.size w w')=>wquote_any (HP.out.below hw) _ (insL l) (winside_any l hB _ w' (HTr.out w' (HW0.out.trans (hw.mono HW0.out.size))) (by omega)) hq2 (by omega));unfold PutAns at HX;clear hx2 hsz1 HIn HRd HSp HTr HPut hx hB hq1 hq2;generalize S i=si at *;generalize (insL l).map preQ=L at *;generalize l.length=kn at *;generalize ss.length=sn at *;generalize lns.length=ln at *;go_enter Tryz.func41,Tryz.ntmps41;go_upto_region 1 with fail;generalize w.alloc (.cells #[.int .i64 5,.int .i64 lv,.string si,.slice al ln cl,.slice as' sn cs,.slice ak kn ck] 40)=w1 at *;have k0:w1.cell? ⟨w.heap.size,0,none⟩=some (.int .i64 5):=cell_at HC1.out 0;have k5:w1.cell? ⟨w.heap.size,5,none⟩=some (.slice ak kn ck):=cell_at HC1.out 5;have HX1:=Lib.hid (HX.out w1 HB1.out);clear HX HC1;go_wp2_with fail;refine HX1.out.mono ?_;rintro e w2 ⟨rfl,g2,t2⟩;have HT:=Lib.hid (Pt.ahead HP.out HB1.out t2);clear t2 HX1;go_wp2_with fail;go_end0;exact⟨rfl,g2,HT.out⟩
 have hq5:¬q=5:=by assumption
 rw[if_neg hq5]at hsz1 ⊢;split at hx2
 ·rename_i e
  rw[if_pos e]at hsz1 ⊢;subst e;simp only[Bool.and_eq_true]at hx2;have hkid:=hx2.2
  have HItem:Hid (∀j (hj:j<l.length),l[j].kind=7∧allB false 0 l[j].kids=true∧Bk.one l[j]=(insL l[j].kids).mapIdx itP∧BlkC l[j].kids∧ttAll l[j].kids≤20000∧(insL l[j].kids).length≤3*ttAll l[j].kids+1∧(∀x∈insL l[j].kids,x.length≤10000000000)):=Lib.hid (fun j hj=>by
   have hm:l[j]∈l:=List.getElem_mem hj;have h1:=all_mem hkid _ hm;have h3:=Bt.ttAll_mem hm;have h4:=Bt.fitAll_at hfl _ hm;have h5:=Bt.szAll_mem hm;generalize l[j]=y at *;obtain⟨k',lv',i',ln',ss',l'⟩:=y;rw[oneB,Bool.and_eq_true,beq_iff_eq,decide_eq_true_iff]at h1;obtain⟨rfl,h6⟩:=h1;rw[if_neg (by decide),if_neg (by decide),if_neg (by decide),if_neg (by decide),if_neg (by decide),if_pos rfl]at h6;simp only[Bool.and_eq_true]at h6;rw[ttOne]at h3;rw[fitOne]at h4;rw[szOne]at h5;obtain⟨q1,q2⟩:=ins_len h6.2 (by omega);refine⟨rfl,h6.2,?_,HIn.out l' 0 (by rw[szOne];omega) h6.2 h4.2.2.2.2.2 (by omega),by show ttAll l'≤20000;omega,q1,q2⟩;show Bk.one (.mk 7 lv' i' ln' ss' l')=(insL l').mapIdx itP;rw[ins_I h6.2,Bk.one];simp)
  have hits:=(its_sz 0 l (Bt.dN l) hkid (Nat.le_refl _)).1
  have HT0:Hid (∀j (hj:j<l.length),(its (l.take j)).length+(insL l[j].kids).length≤3*ttAll l):=Lib.hid (fun j hj=>by
   have h1:=its_sz 0 (l.take (j+1)) _ (all_take hkid (j+1)) (Nat.le_refl _);have h2:=(HItem.out j hj).2.2.1;have h3:=tt_take l (j+1);rw[List.take_succ_eq_append_getElem hj]at h1 h3;rw[its_snoc,List.length_append,h2,List.length_mapIdx]at h1;omega)
  have hlen20:l.length≤20000:=by have:=Bt.szAll_len l;have:=Bt.sz_tt l;omega
  clear hx2 hsz1 HIn HRd HSp HPut hx hkid hits;generalize S i=si at *;generalize ss.length=sn at *;generalize lns.length=ln at *;go_enter Tryz.func41,Tryz.ntmps41;go_upto_region 1 with fail;generalize w.alloc (.cells #[.int .i64 6,.int .i64 lv,.string si,.slice al ln cl,.slice as' sn cs,.slice ak l.length ck] 40)=w1 at *;have k0:w1.cell? ⟨w.heap.size,0,none⟩=some (.int .i64 6):=cell_at HC1.out 0;have k5:w1.cell? ⟨w.heap.size,5,none⟩=some (.slice ak l.length ck):=cell_at HC1.out 5;clear HC1;go_wp2_with fail;go_loopw [45] (fun iv wr=>∃j:Nat,j≤l.length∧iv=.int .i64 j∧Hid (∃g',Pt w0.heap.size b g g' (ls++its (l.take j)) w wr)) (fun iv _=>l.length-(intOf iv).toNat)
  case atStart=>exact⟨0,Nat.zero_le _,rfl,Lib.hid ⟨g,by rw[List.take_zero,its,List.append_nil];exact(Pt.refl HP.out).more HB1.out⟩⟩
  case round=>
   clear k0 k5 HB1;obtain⟨j,hj,rfl,HT⟩:=hrel;obtain⟨g1,t1⟩:=HT.out;have HT1:=Lib.hid t1;clear t1 HT;by_cases hlt:j<l.length
   ·have hi1:(j:Int)<(l.length:Int):=by omega
    have HBr:=Lib.hid (HW0.out.trans (HT1.out.bel HP.out));obtain⟨bb,o,vl,vs,ak',ck',rfl,hbl,hC⟩:=(HTr.out wr HBr.out).at j hlt;obtain⟨al',cl',rfl⟩:=hC.rd.len;obtain⟨as2,cs2,rfl⟩:=hC.sp.len;have c0:=hC.kind;have c1:=hC.level;have c2:=hC.info;have c3:=hC.lines;have c4:=hC.spans;have c5:=hC.kids;obtain⟨hk,ha,hone,hBlk,htk,hil,hxl⟩:=HItem.out j hlt;have hT0:=HT0.out j hlt;have HX:=Lib.hid (fun w' (hw:Below wr.heap.size wr w')=>witem_any (HT1.out.pg.below hw) _ (insL l[j].kids) (winside_any l[j].kids hBlk _ w' (hC.tr.below hw) (by omega)) hxl (by rw[List.length_append];omega));unfold PutAns at HX;have HE:Hid (ls++its (l.take j)++(insL l[j].kids).mapIdx itP=ls++its (l.take (j+1))):=Lib.hid (by rw[List.append_assoc,List.take_succ_eq_append_getElem hlt,its_snoc,hone]);clear hC hk ha hone hBlk htk hil hxl HItem HT0 hT0;generalize (insL l[j].kids).mapIdx itP=L at *;generalize l[j].kind=q' at *;generalize l[j].lines.length=ln' at *;generalize l[j].spans.length=sn' at *;generalize l[j].kids.length=kn' at *;generalize l[j].level=lv' at *;generalize S l[j].info=si' at *;have HB4:=Lib.hid ((Below.refl wr.heap.size wr).alloc (Nat.le_refl _) (.cells #[.int .i64 q',.int .i64 lv',.string si',.slice al' ln' cl',.slice as2 sn' cs2,.slice ak' kn' ck'] 40));have HC4:=Lib.hid (alloc_new wr (.cells #[.int .i64 q',.int .i64 lv',.string si',.slice al' ln' cl',.slice as2 sn' cs2,.slice ak' kn' ck'] 40));go_upto_region 16 with fail;generalize wr.alloc (.cells #[.int .i64 q',.int .i64 lv',.string si',.slice al' ln' cl',.slice as2 sn' cs2,.slice ak' kn' ck'] 40)=w4 at *;have k5:w4.cell? ⟨wr.heap.size,5,none⟩=some (.slice ak' kn' ck'):=cell_at HC4.out 5;have HX4:=Lib.hid (HX.out w4 HB4.out);clear HX HC4 c0 c1 c2 c3 c4 c5;go_wp2_with fail;refine HX4.out.mono ?_;rintro e w5 ⟨rfl,g5,t5⟩;have HT5:Hid (∃g',Pt w0.heap.size b g g' (ls++its (l.take (j+1))) w w5):=Lib.hid ⟨g5,by rw[←HE.out];exact(HT1.out.more HB4.out).trans t5⟩;clear t5 HX4;go_wp2_with fail;go_roundw
    case rel=>exact⟨j+1,by omega,by go_num,HT5⟩
    case measure=>simp[intOf]<;>omega
   ·have hi1:¬(j:Int)<(l.length:Int):=by omega
    have HX2:Hid (Pt w0.heap.size b g g1 (ls++its l) w wr):=Lib.hid (by
     have h2:=HT1.out;rwa[List.take_of_length_le (by omega)]at h2)
    clear HT1 hlt HItem HT0;go_wp2_with fail;go_end0;exact⟨rfl,_,HX2.out⟩
 have hq6:¬q=6:=by assumption
 rw[if_neg hq6,if_neg hk7]at hsz1 ⊢;split at hx2
 ·rename_i e
  subst e;simp only[Bool.and_eq_true,decide_eq_true_iff]at hx2;obtain⟨d,hd⟩:=List.length_eq_one_iff.1 hx2.1.2;subst hd;rw[List.headD_cons];simp only[lnTot]at htt;have HRd0:=Lib.hid (fun w' (h:Below w0.heap.size w0 w')=>Bt.Rd.at (HRd.out w' h) 0 (by simp));simp only[List.getElem_cons_zero,Nat.add_zero]at HRd0
  have hE:S [91]++S i++S [93,58,32]++S d=S (91::(i++93::58::32::d)):=by
   rw[S_app,S_app,S_app];congr 1;simp
  have HX:=Lib.hid (fun w' (hw:Below w.heap.size w w')=>HPut.out _ _ _ (HP.out.below hw) (91::(i++93::58::32::d)) _ hE (by omega));have hsd:(S d).size≤20000:=by rw[S_size];omega
  have e91:S [91]=⟨#[91]⟩:=rfl;have e93:S [93,58,32]=⟨#[93,58,32]⟩:=rfl;rw[e91,e93]at HX;have hs1:(⟨#[91]⟩++S i).size≤20001:=by rw[ByteArray.size_append];show 1+_≤_;omega
  have hs2:(⟨#[91]⟩++S i++⟨#[93,58,32]⟩).size≤20004:=by rw[ByteArray.size_append];show _+3≤_;omega
  have hone1:(List.length [d])=1:=rfl;unfold PutAns at HX;obtain⟨bb,o,hbo,c0⟩:=HRd0.out w HW0.out;subst hbo;clear hx2 hsz1 HIn HRd HSp HTr HPut hx hE e91 e93 c0;generalize (91::(i++93::58::32::d))=L at *;generalize S i=si at *;generalize S d=sd at *;generalize l.length=kn at *;generalize ss.length=sn at *;rw[hone1]at HB1 HC1 ⊢;clear hone1;go_enter Tryz.func41,Tryz.ntmps41;go_upto_region 1 with fail;generalize w.alloc (.cells #[.int .i64 8,.int .i64 lv,.string si,.slice (some ⟨bb,o,none⟩) 1 cl,.slice as' sn cs,.slice ak kn ck] 40)=w1 at *;have k0:w1.cell? ⟨w.heap.size,0,none⟩=some (.int .i64 8):=cell_at HC1.out 0;have k2:w1.cell? ⟨w.heap.size,2,none⟩=some (.string si):=cell_at HC1.out 2;have k3:w1.cell? ⟨w.heap.size,3,none⟩=some (.slice (some ⟨bb,o,none⟩) 1 cl):=cell_at HC1.out 3;obtain⟨bb',o',hbo,c0⟩:=HRd0.out w1 (HW0.out.trans (HB1.out.mono HW0.out.size));simp only[Option.some.injEq,Addr.mk.injEq,and_true]at hbo;obtain⟨rfl,rfl⟩:=hbo;clear HC1 HRd0;have m2:({heap:=w1.heap,tape:=w1.tape,drawn:=w1.drawn+1,os:=w1.os,output:=w1.output}:World).cell? ⟨w.heap.size,2,none⟩=some (.string si):=k2;have m3:({heap:=w1.heap,tape:=w1.tape,drawn:=w1.drawn+1,os:=w1.os,output:=w1.output}:World).cell? ⟨w.heap.size,3,none⟩=some (.slice (some ⟨bb,o,none⟩) 1 cl):=k3;have m0:({heap:=w1.heap,tape:=w1.tape,drawn:=w1.drawn+1,os:=w1.os,output:=w1.output}:World).cell? ⟨bb,o,none⟩=some (.string sd):=c0;have n1:¬9223372036854775807<1+si.size:=by omega
  have n2:¬9223372036854775807<(⟨#[91]⟩++si).size+3:=by omega
  have n3:¬9223372036854775807<(⟨#[91]⟩++si++⟨#[93,58,32]⟩).size+sd.size:=by omega
  have n4:¬9223372036854775807<1+si.size+3:=by omega
  have n5:¬9223372036854775807<1+si.size+3+sd.size:=by omega
  go_upto_region 19 with fail;go_still_tail 10,(by kernel_rfl);change wpList _ _ _ _ _ w1.drew;have HB2:Hid (Below w.heap.size w w1.drew):=Lib.hid HB1.out.drew;generalize w1.drew=w2 at *;have HX1:=Lib.hid (HX.out w2 HB2.out);clear HX m0 m2 m3 k0 k2 k3 c0 HB1;go_wp2_with fail;refine HX1.out.mono ?_;rintro e w3 ⟨rfl,g2,t2⟩;have HT:=Lib.hid (Pt.ahead HP.out HB2.out t2);clear t2 HX1;go_wp2_with fail;go_end0;exact⟨rfl,g2,HT.out⟩
 ·cases hx2
end Wr
end Go.Proofs.YtpakjdgddomdjabGreatDoor
