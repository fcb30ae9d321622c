import Derived.Test.YtpakjdgddomdjabGreatDoorPkAU
import Derived.Test.YtpakjdgddomdjabGreatDoorShelfJ
import Derived.Test.YtpakjdgddomdjabGreatDoorPkAH
import Derived.Test.YtpakjdgddomdjabGreatDoorPkV
import Derived.Test.YtpakjdgddomdjabGreatDoorPkAN
set_option linter.unusedVariables false
namespace Go.Proofs.YtpakjdgddomdjabGreatDoor
namespace Wr
open Go.RowKit
open Tk (S S_list S_size S_app Rd)
open Sp (Sp Tr)
open Bt (TrB fitAll ttAll ttOne szAll allB allB_cons rgB)
open Cm (cell_at alloc_new)
open Bk (Tx Bk wl)
open Pa (OutG OutS tot)
theorem wl_sz1:∀(l:List Bk) (p:Int),allB false p l=true→l≠[]→(wl l).length+1≤3*ttAll l
 |[],_,_,h=>absurd rfl h
 |b::r,p,h,_=>by
  rw[allB_cons,Bool.and_eq_true,Bool.and_eq_true]at h;have h1:=(one_sz false b _ h.1.1 (Nat.le_refl _)).1;rw[Bt.ttAll_cons];cases r with
  |nil=>rw[Bk.wl_one];omega
  |cons c r=>
   have h2:=wl_sz1 (c::r) _ h.2 (by simp);rw[Bk.wl_two,List.length_append,List.length_cons];omega
set_option maxHeartbeats 3200000 in
set_option maxRecDepth 100000 in
theorem wblocks_any (m:Nat):∀(l:List Bk) (p:Int),szAll l≤m→allB false p l=true→fitAll 140737488355328 l→ttAll l≤20000→BlkC l:=by
 induction m using Nat.strongRecOn with
 |ind m ih=>
  intro l p hm ha hf htt v w0 w b g ls ht hb h hl;obtain⟨ao,ca,rfl⟩:=ht.len;have HAt:=Lib.hid (fun j (hj:j<l.length)=>ht.at j hj);have HW0:=Lib.hid hb;have HP:=Lib.hid h;have hlen:=ht.short
  have HBk:Hid (∀j (hj:j<l.length) (al as' ak:Option Addr) (cl cs ck:Nat) (w':World) (g':Option Nat) (ls':List Tx),Rd w0 (.slice al l[j].lines.length cl) l[j].lines→Tr w0 (.slice as' l[j].spans.length cs) l[j].spans→TrB w0 (.slice ak l[j].kids.length ck) l[j].kids→Below w0.heap.size w0 w'→Pg w0.heap.size b g' ls' w'→ls'.length+3*ttOne l[j]≤900000→
    Calls Tryz.prog 41 #[.pointer (some ⟨b,0,none⟩),.agg #[.int .i64 l[j].kind,.int .i64 l[j].level,.string (S l[j].info),.slice al l[j].lines.length cl,.slice as' l[j].spans.length cs,.slice ak l[j].kids.length ck]] w' (PutAns w0.heap.size b g' (ls'++Bk.one l[j]) w')):=Lib.hid (fun j hj al as' ak cl cs ck w' g' ls' h1 h2 h3 h4 h5 h6=>by
   have hx:=List.getElem_mem hj;have h7:=Bt.szAll_mem hx;have h8:=Bt.ttAll_mem hx;exact wblock_any l[j] (all_mem ha _ hx) (fun l' p' g1 g2 g3 g4=>ih (szAll l') (by omega) l' p' (Nat.le_refl _) g2 g3 g4) al as' ak cl cs ck w0 w' b g' ls' (Bt.fitAll_at hf _ hx) (by omega) h1 h2 h3 h4 h5 h6)
  have HL:Hid (∀j (hj:j<l.length),ls.length+(wl (l.take j)).length+(if j=0 then 0 else 1)+3*ttOne l[j]≤900000):=Lib.hid (fun j hj=>by
   have h1:=tt_take l (j+1);rw[List.take_succ_eq_append_getElem hj,Bt.ttAll_app,Bt.ttAll_cons,Bt.ttAll]at h1;by_cases h0:j=0
   ·subst h0
    rw[List.take_zero,wl,if_pos rfl];simp only[List.length_nil];omega
   ·have h2:=wl_sz1 (l.take j) p (all_take ha j) (by intro e;have:=congrArg List.length e;rw[List.length_take,List.length_nil]at this;omega)
    rw[if_neg h0];omega)
  have HPut:=Lib.hid (fun(g':Option Nat) (ls':List Tx) (w':World) (h':Pg w0.heap.size b g' ls' w') (hl':ls'.length+1≤1000000)=>put_any h' [] hl');have hz:S []=⟨#[]⟩:=rfl;simp only[hz]at HPut;unfold PutAns at HPut HBk;clear ih ht hb h hm ha hf htt hl hz;go_enter Tryz.func26,Tryz.ntmps26;go_wp2_with fail;go_loopw [8] (fun iv wr=>∃j:Nat,j≤l.length∧iv=.int .i64 j∧Hid (∃g',Pt w0.heap.size b g g' (ls++wl (l.take j)) w wr)) (fun iv _=>l.length-(intOf iv).toNat)
  case atStart=>exact⟨0,Nat.zero_le _,rfl,Lib.hid ⟨g,by rw[List.take_zero,wl,List.append_nil];exact Pt.refl HP.out⟩⟩
  case round=>
   obtain⟨j,hj,rfl,HT⟩:=hrel;obtain⟨g1,t1⟩:=HT.out;have HT1:=Lib.hid t1;clear t1 HT;by_cases hlt:j<l.length
   ·have hi1:(j:Int)<(l.length:Int):=by omega
    have HBr:=Lib.hid (HW0.out.trans (HT1.out.bel HP.out));obtain⟨bb,o,vl,vs,ak,ck,rfl,hbl,hC⟩:=HAt.out j hlt;obtain⟨al,cl,rfl⟩:=hC.rd.len;obtain⟨as',cs,rfl⟩:=hC.sp.len;have c0:=(HBr.out.cell (p:=⟨bb,o+j*6,none⟩) hbl).trans hC.kind;have c1:=(HBr.out.cell (p:=⟨bb,o+j*6+1,none⟩) hbl).trans hC.level;have c2:=(HBr.out.cell (p:=⟨bb,o+j*6+2,none⟩) hbl).trans hC.info;have c3:=(HBr.out.cell (p:=⟨bb,o+j*6+3,none⟩) hbl).trans hC.lines;have c4:=(HBr.out.cell (p:=⟨bb,o+j*6+4,none⟩) hbl).trans hC.spans;have c5:=(HBr.out.cell (p:=⟨bb,o+j*6+5,none⟩) hbl).trans hC.kids;have hLj:=HL.out j hlt;have HX:=Lib.hid (fun(w':World) (g':Option Nat) (ls':List Tx) (h4:Below w0.heap.size w0 w') (h5:Pg w0.heap.size b g' ls' w') (h6:ls'.length+3*ttOne l[j]≤900000)=>HBk.out j hlt al as' ak cl cs ck w' g' ls' hC.rd hC.sp hC.tr h4 h5 h6);have HE:Hid (wl (l.take (j+1))=if l.take j=[]then Bk.one l[j]else wl (l.take j)++[]::Bk.one l[j]):=Lib.hid (by rw[List.take_succ_eq_append_getElem hlt,wl_snoc])
    have ht0:l.take j=[]↔j=0:=by
     constructor
     ·intro e;have:=congrArg List.length e;rw[List.length_take,List.length_nil]at this;omega
     ·rintro rfl;rw[List.take_zero]
    clear hC HBk HL HAt;generalize Bk.one l[j]=X at *;generalize ttOne l[j]=tx at *;generalize l[j].kind=q at *;generalize l[j].lines.length=ln at *;generalize l[j].spans.length=sn at *;generalize l[j].kids.length=kn at *;generalize l[j].level=lv at *;generalize S l[j].info=si at *;have HB4:=Lib.hid ((Below.refl wr.heap.size wr).alloc (Nat.le_refl _) (.cells #[.int .i64 q,.int .i64 lv,.string si,.slice al ln cl,.slice as' sn cs,.slice ak kn ck] 40));have HC4:=Lib.hid (alloc_new wr (.cells #[.int .i64 q,.int .i64 lv,.string si,.slice al ln cl,.slice as' sn cs,.slice ak kn ck] 40));go_upto_region 3 with fail;generalize wr.alloc (.cells #[.int .i64 q,.int .i64 lv,.string si,.slice al ln cl,.slice as' sn cs,.slice ak kn ck] 40)=w4 at *;clear c0 c1 c2 c3 c4 c5;have P4:=Lib.hid (HT1.out.pg.below HB4.out);have HB04:=Lib.hid (HBr.out.trans (HB4.out.mono HBr.out.size));by_cases h0:j=0
    ·rw[if_pos (ht0.2 h0)]at HE
     have hd0:(j:Int)=0:=by omega
     have g0:¬(0:Int)<(j:Int):=by omega
     have g00:¬(j:Int)>0:=by omega
     have HEn:Hid (wl (l.take j)=[]):=Lib.hid (by rw[ht0.2 h0,wl]);have k0:w4.cell? ⟨wr.heap.size,0,none⟩=some (.int .i64 q):=cell_at HC4.out 0;have k1:w4.cell? ⟨wr.heap.size,1,none⟩=some (.int .i64 lv):=cell_at HC4.out 1;have k2:w4.cell? ⟨wr.heap.size,2,none⟩=some (.string si):=cell_at HC4.out 2;have k3:w4.cell? ⟨wr.heap.size,3,none⟩=some (.slice al ln cl):=cell_at HC4.out 3;have k4:w4.cell? ⟨wr.heap.size,4,none⟩=some (.slice as' sn cs):=cell_at HC4.out 4;have k5:w4.cell? ⟨wr.heap.size,5,none⟩=some (.slice ak kn ck):=cell_at HC4.out 5;have HX4:=Lib.hid (HX.out w4 _ _ HB04.out P4.out (by rw[List.length_append];rw[if_pos h0]at hLj;omega));clear HX HC4 hd0 h0 ht0 HPut hLj;go_wp2_with fail;refine HX4.out.mono ?_;rintro e w5 ⟨rfl,g5,t5⟩
     have HT5:Hid (∃g',Pt w0.heap.size b g g' (ls++wl (l.take (j+1))) w w5):=Lib.hid ⟨g5,by
      have h5:=(HT1.out.more HB4.out).trans t5;rw[HEn.out,List.append_nil]at h5;rw[HE.out];exact h5⟩
     clear t5 HX4 k0 k1 k2 k3 k4 k5;go_wp2_with fail;go_roundw
     case rel=>exact⟨j+1,by omega,by go_num,HT5⟩
     case measure=>simp[intOf]<;>omega
    ·rw[if_neg (fun e=>h0 (ht0.1 e))]at HE
     have g0:(0:Int)<(j:Int):=by omega
     have HPj:=Lib.hid (HPut.out _ _ _ P4.out (by rw[List.length_append];rw[if_neg h0]at hLj;omega));have hLj2:(ls++wl (l.take j)++[[]]).length+3*tx≤900000:=by rw[List.length_append,List.length_append];rw[if_neg h0]at hLj;simp only[List.length_cons,List.length_nil];omega
     have HLj:=Lib.hid hLj2
     have hbx:¬(wr.heap.size=b∨some wr.heap.size=g1):=by
      have h1:=HT1.out.pg.lt;rintro(e |e)
      ·omega
      ·have:=(HT1.out.pg.ne _ e.symm).2.1;omega
     have HNx:=Lib.hid hbx;clear hLj hLj2 h0 ht0 HPut hbx;go_wp2_with fail;refine HPj.out.mono ?_;rintro e w6 ⟨rfl,g6,t6⟩;have HC6:=Lib.hid (t6.kp.at HC4.out HNx.out);have HB06:=Lib.hid (HB04.out.trans (t6.bel P4.out));have HX4:=Lib.hid (HX.out w6 _ _ HB06.out t6.pg HLj.out);have HT6:=Lib.hid ((HT1.out.more HB4.out).trans t6);have k0:w6.cell? ⟨wr.heap.size,0,none⟩=some (.int .i64 q):=cell_at HC6.out 0;have k1:w6.cell? ⟨wr.heap.size,1,none⟩=some (.int .i64 lv):=cell_at HC6.out 1;have k2:w6.cell? ⟨wr.heap.size,2,none⟩=some (.string si):=cell_at HC6.out 2;have k3:w6.cell? ⟨wr.heap.size,3,none⟩=some (.slice al ln cl):=cell_at HC6.out 3;have k4:w6.cell? ⟨wr.heap.size,4,none⟩=some (.slice as' sn cs):=cell_at HC6.out 4;have k5:w6.cell? ⟨wr.heap.size,5,none⟩=some (.slice ak kn ck):=cell_at HC6.out 5;clear HX HC4 HC6 t6 HPj HLj;go_wp2_with fail;refine HX4.out.mono ?_;rintro e w5 ⟨rfl,g5,t5⟩
     have HT5:Hid (∃g',Pt w0.heap.size b g g' (ls++wl (l.take (j+1))) w w5):=Lib.hid ⟨g5,by
      have h5:=HT6.out.trans t5;rw[HE.out]
      simpa [List.append_assoc]using h5⟩
     clear t5 HX4 k0 k1 k2 k3 k4 k5;go_wp2_with fail;go_roundw
     case rel=>exact⟨j+1,by omega,by go_num,HT5⟩
     case measure=>simp[intOf]<;>omega
   ·have hi1:¬(j:Int)<(l.length:Int):=by omega
    have HX2:Hid (Pt w0.heap.size b g g1 (ls++wl l) w wr):=Lib.hid (by
     have h2:=HT1.out;rwa[List.take_of_length_le (by omega)]at h2)
    clear HT1 hlt HBk HL HAt;go_wp2_with fail;go_end0;exact⟨rfl,_,HX2.out⟩
theorem map_S (xs:List Tx):(xs.map S).map (·.data.toList)=xs:=by
 rw[List.map_map]
 conv=>rhs;rw[←List.map_id xs]
 exact List.map_congr_left (fun x _=>S_list x)
theorem wjoin_any (v:Value) (xs:List Tx) (w:World) (h:Rd w v xs) (hl:xs.length≤1000000) (ht:tot xs≤100000000):
  Calls Tryz.prog 17 #[v,.bool true] w fun r w'=>r=.returned (.string (S (Ln.jn xs true)))∧Below w.heap.size w w':=by
 obtain⟨ao,ca,rfl,hca,hax⟩:=h
 have hl2:(Ln.jn xs false).length≤100000000:=by
  by_cases h0:xs=[]
  ·subst h0;exact Nat.zero_le _
  ·have h1:=Ln.jn_true xs h0
   have h2:=congrArg List.length h1;rw[jn_tot,List.length_append]at h2;simp only[List.length_cons,List.length_nil]at h2;omega
 have HC:Hid (Calls Tryz.prog 33 #[.slice ao xs.length ca,.string ⟨#[10]⟩] w fun r w'=>r=.returned (.string (S (Ln.jn xs false)))∧Below w.heap.size w w'):=by
  rcases hax with rfl |⟨b,o,rfl,hlt,hcell⟩
  ·exact Lib.hid ((Tryz.strings_Join_none ao ca ⟨#[10]⟩ w).mono fun r w' ⟨hr,hw⟩=>⟨hr,hw▸Below.refl _ _⟩)
  ·have:=Tryz.strings_Join b o ca (xs.map S) ⟨#[10]⟩ w (fun j x hj=>by
    rw[List.getElem?_map]at hj;cases hx:xs[j]? with
    |none=>rw[hx]at hj;simp at hj
    |some y=>rw[hx]at hj;simp at hj;rw[←hj];exact hcell j y hx) hlt (by rw[List.length_map];omega) (by rw[List.length_map];exact hca)
    (by rw[map_S];show(Lib.join xs [10]).length≤_;rw[←Ln.jn_false];omega)
   rw[List.length_map,map_S]at this;refine Lib.hid (this.mono fun r w' ⟨hr,hw⟩=>⟨?_,hw⟩);rw[hr,Ln.jn_false];rfl
 have hsz:(S (Ln.jn xs false)).size≤100000000:=by rw[S_size];exact hl2
 clear hax hl2 ht;by_cases h0:xs=[]
 ·have Hr2:Hid (S (Ln.jn xs true)=S (Ln.jn xs false)):=Lib.hid (by subst h0;rfl)
  have d0:decide (0<(xs.length:Int))=false:=by subst h0;rfl
  have hn:¬0<xs.length:=by subst h0;simp
  generalize S (Ln.jn xs true)=y at *;generalize S (Ln.jn xs false)=z at *;clear h0;go_enter Tryz.func17,Tryz.ntmps17;go_wp2_with fail;refine HC.out.mono ?_;rintro r w1 ⟨rfl,hb⟩;have Hb:=Lib.hid hb;clear hb;go_wp2_with fail;go_ret;exact⟨Sp.ret_str Hr2.out.symm,Hb.out⟩
 ·have Hr2:Hid (S (Ln.jn xs true)=S (Ln.jn xs false)++⟨#[10]⟩):=Lib.hid (by rw[Ln.jn_true xs h0];exact(S_app _ [10]).symm)
  have hpos:=List.length_pos_iff.2 h0;have d0:decide (0<(xs.length:Int))=true:=decide_eq_true (by omega);clear h0;generalize S (Ln.jn xs true)=y at *;generalize S (Ln.jn xs false)=z at *;go_enter Tryz.func17,Tryz.ntmps17;go_wp2_with fail;refine HC.out.mono ?_;rintro r w1 ⟨rfl,hb⟩;have Hb:=Lib.hid hb;clear hb;go_wp2_with fail;go_ret;exact⟨Sp.ret_str Hr2.out.symm,Hb.out⟩
def wrE (l:List Bk):Int:=if rgB l=true then 0 else 6
def wrL (l:List Bk):List Tx:=if rgB l=true then wl l else []
def WrLns (w:World) (l:List Bk) (e:Ending) (w':World):Prop:=∃u,e=.returned (.tuple #[u,.int .i64 (wrE l)])∧(∃B,w.heap.size≤B∧OutS B w' u (wrL l))∧Below w.heap.size w w'
def WrDoc (w:World) (l:List Bk) (e:Ending) (w':World):Prop:=e=.returned (.tuple #[.string (S (Ln.jn (wrL l) true)),.int .i64 (wrE l)])∧Below w.heap.size w w'
set_option maxHeartbeats 1600000 in
theorem linesW_any (v:Value) (l:List Bk) (w:World) (ht:TrB w v l) (hf:fitAll 1048576 l) (htt:ttAll l≤20000):
  Calls Tryz.prog 12 #[v] w (WrLns w l):=by
 have HR:=Lib.hid (Pa.rightC v l w ht hf (by omega));unfold WrLns wrE wrL;cases hr:rgB l with
 |false=>
  rw[hr]at HR;rw[if_neg (by simp),if_neg (by simp)];clear ht hf htt hr;go_enter Tryz.func12,Tryz.ntmps12;go_wp2_with fail;refine HR.out.mono ?_;rintro e w1 ⟨rfl,b1⟩;have B1:=Lib.hid b1;clear b1 HR;go_wp2_with fail;go_ret2;exact⟨_,rfl,⟨_,Nat.le_refl _,OutG.nil B1.out.size⟩,B1.out⟩
 |true=>
  rw[hr]at HR;rw[if_pos rfl,if_pos rfl];have HB:=Lib.hid (fun(w1:World) (hb:Below w.heap.size w w1)=>wblocks_any (szAll l) l 0 (Nat.le_refl _) (Bt.rg_parts hr).1 (Bt.fitAll_wide (by decide) l hf) htt v w1 (w1.alloc (.cells #[.slice none 0 0] 55)) w1.heap.size none [] (ht.below hb) ((Below.refl _ _).alloc (Nat.le_refl _) _) (Pg.begin w1) (by simp;omega));simp only[List.nil_append]at HB;unfold PutAns at HB;clear ht hf htt hr;generalize wl l=L at *;go_enter Tryz.func12,Tryz.ntmps12;go_wp2_with fail;refine HR.out.mono ?_;rintro e w1 ⟨rfl,b1⟩;have B1:=Lib.hid b1;have HB1:=Lib.hid (HB.out w1 b1);have HA:=Lib.hid ((Below.refl w1.heap.size w1).alloc (Nat.le_refl _) (.cells #[.slice none 0 0] 55));have P1:=Lib.hid (Pg.begin w1);clear b1 HR HB;go_upto_region 4 with fail;generalize w1.alloc (.cells #[.slice none 0 0] 55)=w2 at *;go_wp2_with fail;refine HB1.out.mono ?_;rintro e w3 ⟨rfl,g3,t3⟩;have HB3:=Lib.hid (B1.out.trans ((HA.out.trans (t3.bel P1.out)).mono B1.out.size));obtain⟨_,u3,hb3,_,ho3⟩:=t3.pg;have HO3:=Lib.hid ho3;have c3:w3.cell? ⟨w1.heap.size,0,none⟩=some u3:=cell_at hb3 0;clear hb3 ho3 t3 HB1 HA P1;go_wp2_with fail;go_ret2;exact⟨_,rfl,⟨_,B1.out.size,HO3.out⟩,HB3.out⟩
theorem documentW_any (v:Value) (l:List Bk) (w:World) (ht:TrB w v l) (hf:fitAll 1048576 l) (htt:ttAll l≤20000):
  Calls Tryz.prog 8 #[v] w (WrDoc w l):=by
 have HL:=Lib.hid (linesW_any v l w ht hf htt);unfold WrLns at HL;unfold WrDoc
 have HJ:Hid (∀u w',wrE l=0→Rd w' u (wrL l)→Calls Tryz.prog 17 #[u,.bool true] w' fun r w''=>r=.returned (.string (S (Ln.jn (wrL l) true)))∧Below w'.heap.size w' w''):=Lib.hid (fun u w' h0 hu=>by
  have hr:rgB l=true:=by
   unfold wrE at h0;split at h0
   ·assumption
   ·cases h0
  have hs:=rg_sz hr (by omega);have hw:wrL l=wl l:=by unfold wrL;rw[if_pos hr]
  rw[hw]at hu ⊢;exact wjoin_any u (wl l) w' hu (by omega) (by omega))
 have H6:Hid (wrE l=0∨(wrE l=6∧wrL l=[])):=Lib.hid (by
  unfold wrE wrL;split
  ·exact Or.inl rfl
  ·exact Or.inr ⟨rfl,rfl⟩)
 clear ht hf htt;generalize wrL l=L at *;generalize wrE l=E at *;rcases H6.out with h0 |⟨h6,hL⟩
 ·subst h0
  clear H6;generalize S (Ln.jn L true)=y at *;go_enter Tryz.func8,Tryz.ntmps8;go_wp2_with fail;refine HL.out.mono ?_;rintro e w1 ⟨u,rfl,⟨B0,_,hu⟩,b1⟩;have B1:=Lib.hid b1;have HJ1:=Lib.hid (HJ.out u w1 (by trivial) (Pa.OutS.rd hu));clear b1 HL HJ hu;go_wp2_with fail;refine HJ1.out.mono ?_;rintro e w2 ⟨rfl,b2⟩;have B2:=Lib.hid (B1.out.trans (b2.mono B1.out.size));clear b2 HJ1;go_wp2_with fail;go_ret2;exact⟨rfl,B2.out⟩
 ·subst h6
  subst hL;have hz:S (Ln.jn [] true)=⟨#[]⟩:=rfl;rw[hz];clear H6 HJ hz;go_enter Tryz.func8,Tryz.ntmps8;go_wp2_with fail;refine HL.out.mono ?_;rintro e w1 ⟨u,rfl,hu,b1⟩;have B1:=Lib.hid b1;clear b1 HL hu;go_wp2_with fail;go_ret2;exact⟨rfl,B1.out⟩
end Wr
namespace Wr
open Go.RowKit
open Tk (S S_toList)
open Sp (Sp ret_bool OkAns totAll totOne totAll_cons)
open Bt (TrB fitAll ttAll ttOne lnTot spAll spOne lnW rgB)
open Bk (Bk Tx)
mutual
theorem sp1_up (deep:Nat) (left n:Int):∀x:Sp,Sp.spOne deep left n x≤n+1000001*totOne x
 |.mk k s l=>by
  have:=spA_up (deep-1) (left-(n+1+s.length)) 0 l;unfold Sp.spOne;rw[totOne];omega
theorem spA_up (deep:Nat) (left n:Int):∀l:List Sp,Sp.spAll deep left n l≤n+1000001*totAll l
 |[]=>by unfold Sp.spAll totAll;omega
 |x::r=>by
  have h1:=sp1_up deep left n x;have h2:=spA_up deep left (Sp.spOne deep left n x) r;have h3:1≤totOne x:=by rw[Sp.totOne_eq];omega
  rw[Sp.spAll_cons,totAll_cons];split<;>omega
end
theorem lnW_is:∀(l:List Tx) (n:Int),0≤n→n+lnTot l≤4000000000000000000→lnW n l=n+lnTot l
 |[],n,_,_=>by rw[lnW,lnTot];omega
 |s::r,n,h0,h=>by
  rw[lnTot]at h;have e:IntKind.i64.wrap (IntKind.i64.wrap (n+1)+s.length)=n+1+s.length:=by simp only[IntKind.wrap_i64];omega
  rw[lnW,e,lnW_is r _ (by omega) (by omega),lnTot];omega
mutual
theorem bk1_up (deep:Nat) (left n:Int) (h0:0≤n):∀x:Bk,n+1000001*ttOne x≤4000000000000000000→n+1≤spOne deep left n x∧spOne deep left n x≤n+1000001*ttOne x∧(spOne deep left n x<1000000→spOne deep left n x=n+ttOne x)
 |.mk k lv i ls ss l,h=>by
  rw[ttOne]at h ⊢;have hs1:=Sp.spAll_ge 30 5000 0 ss;have hs2:=spA_up 30 5000 0 ss;have hs3:=Sp.spAll_small 30 5000 0 (Int.le_refl _) ss;have hw:IntKind.i64.wrap (IntKind.i64.wrap (IntKind.i64.wrap (n+1)+i.length)+Sp.spAll 30 5000 0 ss)=n+1+i.length+Sp.spAll 30 5000 0 ss:=by simp only[IntKind.wrap_i64];omega
  rw[spOne,hw,lnW_is ls _ (by omega) (by omega)];obtain⟨k1,k2,k3⟩:=bkA_up (deep-1) (IntKind.i64.wrap (left-(n+1+i.length+Sp.spAll 30 5000 0 ss+lnTot ls))) 0 (Int.le_refl _) l (by omega);generalize spAll (deep-1) (IntKind.i64.wrap (left-(n+1+i.length+Sp.spAll 30 5000 0 ss+lnTot ls))) 0 l=z at *;generalize Sp.spAll 30 5000 0 ss=y at *;have e:IntKind.i64.wrap (n+1+i.length+y+lnTot ls+z)=n+1+i.length+y+lnTot ls+z:=by simp only[IntKind.wrap_i64];omega
  rw[e];refine⟨by omega,by omega,fun hlt=>?_⟩;have:=(hs3 (by omega)).1;have:=k3 (by omega);omega
theorem bkA_up (deep:Nat) (left n:Int) (h0:0≤n):∀l:List Bk,n+1000001*ttAll l≤4000000000000000000→n≤spAll deep left n l∧spAll deep left n l≤n+1000001*ttAll l∧(spAll deep left n l<1000000→spAll deep left n l=n+ttAll l)
 |[],h=>by rw[spAll,ttAll];exact⟨by omega,by omega,fun _=>by omega⟩
 |x::r,h=>by
  rw[Bt.ttAll_cons]at h ⊢;obtain⟨h1,h2,h3⟩:=bk1_up deep left n h0 x (by omega);have h4:1≤ttOne x:=by rw[Bt.ttOne_eq];omega
  obtain⟨h5,h6,h7⟩:=bkA_up deep left (spOne deep left n x) (by omega) r (by omega);rw[Bt.spAll_cons];split
  ·have e:IntKind.i64.wrap (n+1000000)=n+1000000:=by simp only[IntKind.wrap_i64];omega
   rw[e];exact⟨by omega,by omega,fun h=>by omega⟩
  ·exact⟨by omega,by omega,fun hlt=>by have:=h7 hlt;have:=h3 (by omega);omega⟩
end
def smallB (l:List Bk):Bool:=decide (spAll 40 5000 0 l<700)
theorem small_tt {l:List Bk} (h:smallB l=true) (ht:ttAll l≤1048576):ttAll l<700:=by
 have h1:spAll 40 5000 0 l<700:=of_decide_eq_true h;have:=(bkA_up 40 5000 0 (Int.le_refl _) l (by omega)).2.2 (by omega);omega
theorem small_any (l:List Bk) (v:Value) (w:World) (ht:TrB w v l) (hf:fitAll reachBytes l):
  Calls Tryz.prog 7 #[v] w (OkAns w (smallB l)):=by
 have H:=Lib.hid (Bt.sizeB_any l v w ht hf);have HB:Hid (smallB l=decide (spAll 40 5000 0 l<700)):=Lib.hid rfl;clear ht hf;generalize spAll 40 5000 0 l=z at *;go_enter Tryz.func7,Tryz.ntmps7;go_wp2_with fail;refine H.out.mono ?_;rintro e w1 ⟨rfl,n,rfl⟩;clear H;go_wp2_with fail;go_ret;exact⟨ret_bool (by rw[HB.out]),below_drewN (Below.refl _ _) n⟩
def awk13:List Bk:=[.mk 3 0 [] [] [] [],.mk 5 0 [] [] [] []]
theorem awk_rg13:rgB awk13=true:=by decide +kernel
theorem awk_w13:Ln.jn (Bk.wl awk13) true=[45,45,45,10,10,62,10]:=by decide +kernel
theorem awk_fit13:fitAll 1048576 awk13:=by
 unfold awk13;simp only[fitAll,Bt.fitOne,Sp.fitAll,List.length_nil];simp
theorem awk_tr13 (w:World):TrB (w.alloc (.cells #[.int .i64 3,.int .i64 0,.string ⟨#[]⟩,.slice none 0 0,.slice none 0 0,.slice none 0 0,.int .i64 5,.int .i64 0,.string ⟨#[]⟩,.slice none 0 0,.slice none 0 0,.slice none 0 0] 40)) (.slice (some ⟨w.heap.size,0,none⟩) 2 2) awk13:=by
 refine⟨_,2,rfl,⟨Nat.le_refl _,by omega⟩,Or.inr ⟨w.heap.size,0,rfl,by simp,?_⟩⟩;unfold awk13 Bt.trAll;refine⟨Bt.trOne_of (vl:=.slice none 0 0) (vs:=.slice none 0 0) (ao:=none) (cap:=0) ⟨?_,?_,?_,?_,?_,?_,Bt.nilR _,Nat.zero_le _,Bt.nilS _,Bt.nilB _⟩,?_⟩
 ·rw[World.cell?_alloc_new];rfl
 ·rw[World.cell?_alloc_new];rfl
 ·rw[World.cell?_alloc_new];rfl
 ·rw[World.cell?_alloc_new];rfl
 ·rw[World.cell?_alloc_new];rfl
 ·rw[World.cell?_alloc_new];rfl
 unfold Bt.trAll;refine⟨Bt.trOne_of (vl:=.slice none 0 0) (vs:=.slice none 0 0) (ao:=none) (cap:=0) ⟨?_,?_,?_,?_,?_,?_,Bt.nilR _,Nat.zero_le _,Bt.nilS _,Bt.nilB _⟩,by unfold Bt.trAll;trivial⟩
 ·rw[World.cell?_alloc_new];rfl
 ·rw[World.cell?_alloc_new];rfl
 ·rw[World.cell?_alloc_new];rfl
 ·rw[World.cell?_alloc_new];rfl
 ·rw[World.cell?_alloc_new];rfl
 ·rw[World.cell?_alloc_new];rfl
set_option maxHeartbeats 1600000 in
theorem awake13_any (w:World):Calls Tryz.prog 6 #[] w (OkAns w true):=by
 have HD:=Lib.hid (documentW_any _ awk13 _ (awk_tr13 w) awk_fit13 (by decide +kernel));have HT:=Lib.hid (fun w'=>ticks_any (.slice none 0 0) [] w' (Bt.nilR _) (by simp) (fun x hx=>by cases hx));have HB:=Lib.hid ((Below.refl w.heap.size w).alloc (Nat.le_refl _) (.cells #[.int .i64 3,.int .i64 0,.string ⟨#[]⟩,.slice none 0 0,.slice none 0 0,.slice none 0 0,.int .i64 5,.int .i64 0,.string ⟨#[]⟩,.slice none 0 0,.slice none 0 0,.slice none 0 0] 40));unfold WrDoc wrL wrE at HD;rw[awk_rg13,if_pos rfl,if_pos rfl,awk_w13]at HD;have e3:((Bk.ticksL []:Nat):Int)=3:=rfl;simp only[e3]at HT;have eS:(S [45,45,45,10,10,62,10]).toList==[45,45,45,10,10,62,10]:=by rw[S_toList];rfl
 generalize S [45,45,45,10,10,62,10]=y at *;clear e3;go_enter Tryz.func6,Tryz.ntmps6;go_wp2_with fail;refine HD.out.mono ?_;rintro e w2 ⟨rfl,b2⟩;have B2:=Lib.hid (HB.out.trans (b2.mono HB.out.size));clear b2 HD HB;go_wp2_with fail;refine(HT.out _).mono ?_;rintro e w3 ⟨rfl,rfl⟩;clear HT;go_wp2_with fail;go_ret;exact⟨rfl,B2.out⟩
end Wr
namespace Wr
open Go.RowKit
open Tk (S S_list S_size)
open Bt (rgB ttAll)
open Bk (Bk wl)
open Pa (docB lnsB LnsAns told12)
theorem wrL_yes {l:List Bk} (h:rgB l=true):wrL l=wl l:=by unfold wrL;rw[if_pos h]
theorem wrE_yes {l:List Bk} (h:rgB l=true):wrE l=0:=by unfold wrE;rw[if_pos h]
theorem wrL_no {l:List Bk} (h:rgB l=false):wrL l=[]:=by unfold wrL;rw[if_neg (by rw[h];simp)]
theorem wrE_no {l:List Bk} (h:rgB l=false):wrE l=6:=by unfold wrE;rw[if_neg (by rw[h];simp)]
theorem text_len {l:List Bk} (h:rgB l=true) (ht:ttAll l≤9000000):(Ln.jn (wl l) true).length≤108*ttAll l:=by
 rw[jn_tot];exact(rg_sz h ht).2
theorem docB_back {l:List Bk} (h:rgB l=true) (ht:ttAll l≤9000):docB (Ln.jn (wl l) true)=(l,0):=by
 have hs:=rg_sz h (by omega);have hc:=chk_jn (rg_lt h) (by omega);unfold docB;rw[hc,if_pos rfl,split_jn (rg_lt h)];unfold lnsB;rw[back h (by omega)]
theorem parse_back {l:List Bk} (h:rgB l=true) (ht:ttAll l≤2300) (w:World):Calls Tryz.prog 10 #[.string (S (Ln.jn (wl l) true))] w (LnsAns w (l,0)):=by
 have hl:=text_len h (by omega);have hd:=told12.doc (S (Ln.jn (wl l) true)) w (by rw[S_size];omega);rw[S_list,docB_back h (by omega)]at hd;exact hd
end Wr
end Go.Proofs.YtpakjdgddomdjabGreatDoor
