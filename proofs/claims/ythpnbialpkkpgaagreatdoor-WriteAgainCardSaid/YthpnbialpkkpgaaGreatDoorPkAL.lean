import Derived.Test.YthpnbialpkkpgaaGreatDoorPkAO
import Derived.Test.YthpnbialpkkpgaaGreatDoorPkV
import Derived.Test.YthpnbialpkkpgaaGreatDoorShelfJ
import Derived.Test.YthpnbialpkkpgaaGreatDoorPkAK
import Derived.Test.YthpnbialpkkpgaaGreatDoorPkZ
import Derived.Test.YthpnbialpkkpgaaGreatDoorPkL
import Derived.Test.YthpnbialpkkpgaaGreatDoorPkX
import Derived.Test.YthpnbialpkkpgaaGreatDoorPkAG
set_option linter.unusedVariables false
namespace Go.Proofs.YthpnbialpkkpgaaGreatDoor
namespace Sp
open Go.RowKit
open Tk (S S_of S_list S_size S_toList S_app ret_int)
open Cm (calls_at Rk Keep own_keep cell_at alloc_new alloc_at lt_of_at own_obj set_at set_other frozen_at flat_get)
open Pa (Fr)
def TrF (w:World) (L:List Sp) (e:Ending) (w':World):Prop:=∃v,e=.returned v∧Fr Tr w.heap.size w' v L∧Below w.heap.size w w'
set_option maxHeartbeats 1600000 in
theorem parseF_any (s:ByteArray) (hs:s.size≤300000) (w:World):
  Calls Tryz.prog 164 #[.string s] w (TrF w (parseB s)):=by
 have hc:=cut_any lookAhead_any s.data.toList (by simpa using hs) w
 rw[S_of]at hc
 have HC:=Lib.hid hc
 have HR:=Lib.hid (fun(A:List Pc) (hG:CG s.data.toList A) (hA:A.length≤300000) (r b cap:Nat) (ao:Option Addr)=>readAll_any r b cap ao A hG.2.1 hA (by rw[hG.1];simpa using hs))
 have HP:Hid (∀A,CG s.data.toList A→(Rdr false false (raws (A.drop 0))).1=parseB s):=Lib.hid (fun A hG=>by rw[List.drop_zero,hG.1];rfl)
 clear hc
 go_enter Tryz.func164,Tryz.ntmps164
 go_wp2_with fail
 refine HC.out.mono ?_
 rintro e w1 ⟨v,A,rfl,hG,hA,⟨ao,cap,b,rfl,hb,hp⟩,b1⟩
 have hP:=HP.out A hG
 have B1:=Lib.hid b1
 have hrd:RdW w1.heap.size (if A=[]then w1.heap.size else b) cap ao A 0 (w1.alloc (.cells #[.slice ao A.length cap,.int .i64 0] 175)):=by
  refine⟨alloc_new w1 _,?_,?_⟩
  ·rcases hb with hb |hb
   ·exact Or.inl hb
   ·by_cases hA0:A=[]
    ·exact Or.inl hA0
    ·rw[if_neg hA0];exact Or.inr hb.1
  ·rcases hp with hp |⟨cur,hp,hc⟩
   ·exact Or.inl hp
   ·by_cases hA0:A=[]
    ·exact Or.inl hA0
    ·rw[if_neg hA0];exact Or.inr ⟨cur,alloc_at hp _,hc⟩
 have HRd:=Lib.hid (HR.out A hG hA w1.heap.size (if A=[]then w1.heap.size else b) cap ao 0 _ hrd (Nat.zero_le _))
 clear hrd HR HP HC hb hp b1 hG
 go_wp2_with fail
 refine HRd.out.mono ?_
 rintro e w2 ⟨v2,rfl,fr,rd,kp⟩
 have HT:Hid (Below w.heap.size w w2∧Fr Tr w.heap.size w2 v2 (parseB s)):=by
  rw[hP]at fr
  have hk:Below w1.heap.size (w1.alloc (.cells #[.slice ao A.length cap,.int .i64 0] 175)) w2:=kp.below (fun k hk=>Nat.le_of_eq hk.symm) (by simp)
  exact Lib.hid ⟨B1.out.trans ((((Below.refl w1.heap.size w1).alloc (Nat.le_refl _) _).trans hk).mono B1.out.size),fun w' k=>fr w' (k.mono (fun j _ hj=>Or.inl (Nat.lt_of_lt_of_le hj (Nat.le_trans B1.out.size (by simp)))))⟩
 clear fr rd kp HRd B1
 go_wp2_with fail
 go_ret
 exact⟨v2,rfl,HT.out.2,HT.out.1⟩
end Sp
namespace Pa
open Go.RowKit
open Tk (S S_of S_list S_size S_toList S_app ret_int eq8 ne8 at_data len_data Rd)
open Sp (Sp Tr parseB ret_bool TrF parseF_any OkAns)
open Bt (TrB KB)
open Cm (Keep alloc_new alloc_at cell_at frozen_at set_at set_other lt_of_at)
open Bk (Tx Bk fenceL spanK itemL dropBlank listL kindOf closes unquote unitem inner parse joinLF define items)
open Ln (run trim jn)
open Kd (E0 StrK InK LevK hdN hdT opN opT told11 trimP_any)
theorem map_S (xs:List Tx):(xs.map S).map (·.data.toList)=xs:=by
 rw[List.map_map]
 conv=>rhs;rw[←List.map_id xs]
 exact List.map_congr_left (fun x _=>S_list x)
theorem joinLF_jn:∀l:List Tx,joinLF l=jn l false
 |[]=>rfl
 |[x]=>rfl
 |x::y::r=>by rw[joinLF,Ln.jn_cons2,joinLF_jn (y::r)]
theorem joinP_any (v:Value) (xs:List Tx) (w:World) (h:Rd w v xs) (hl:xs.length≤1000000) (ht:(joinLF xs).length≤1000000):
  Calls Tryz.prog 29 #[v,.bool false] w (StrK w (joinLF xs)):=by
 obtain⟨ao,ca,rfl,hca,hax⟩:=h
 rw[joinLF_jn]at ht ⊢
 have HC:Hid (Calls Tryz.prog 55 #[.slice ao xs.length ca,.string ⟨#[10]⟩] w fun r w'=>r=.returned (.string (S (jn xs false)))∧Below w.heap.size w w'):=by
  rcases hax with rfl |⟨b,o,rfl,hlt,hcell⟩
  ·exact Lib.hid ((Tryz.strings_Join_none ao ca ⟨#[10]⟩ w).mono fun r w' ⟨hr,hw⟩=>⟨hr,hw▸Below.refl _ _⟩)
  ·have:=Tryz.strings_Join b o ca (xs.map S) ⟨#[10]⟩ w (fun j x hj=>by
    rw[List.getElem?_map]at hj
    cases hx:xs[j]? with
    |none=>rw[hx]at hj;simp at hj
    |some y=>rw[hx]at hj;simp at hj;rw[←hj];exact hcell j y hx) hlt (by rw[List.length_map];omega) (by rw[List.length_map];exact hca)
    (by rw[map_S];show(Lib.join xs [10]).length≤_;rw[←Ln.jn_false];omega)
   rw[List.length_map,map_S]at this
   refine Lib.hid (this.mono fun r w' ⟨hr,hw⟩=>⟨?_,hw⟩)
   rw[hr,Ln.jn_false]
   rfl
 clear hax ht
 go_enter Tryz.func29,Tryz.ntmps29
 go_wp2_with fail
 refine HC.out.mono ?_
 rintro r w1 ⟨rfl,hb⟩
 have Hb:=Lib.hid hb
 clear hb
 go_wp2_with fail
 go_ret
 exact⟨rfl,Hb.out⟩
theorem blkF_of {w w9:World} {b:Bk} {k lv:Int} {inf:Tx} {ls:List Tx} {ss:List Sp} {ks:List Bk} {vl vs vk:Value} (HV:b=.mk k lv inf ls ss ks) (HB:Below w.heap.size w w9)
  (hl:Fr Rd w.heap.size w9 vl ls) (hn:ls.length≤9223372036854775807) (hs:Fr Tr w.heap.size w9 vs ss) (hk:Fr TrB w.heap.size w9 vk ks):
  BlkF w b (.returned (.agg #[.int .i64 k,.int .i64 lv,.string (S inf),vl,vs,vk])) w9:=by
 subst HV
 exact⟨vl,vs,vk,rfl,HB,fun w'' k2=>⟨hl w'' k2,hn,hs w'' k2,hk w'' k2⟩⟩
set_option maxHeartbeats 3200000 in
set_option maxRecDepth 100000 in
theorem headingP_any (s:Tx) (hs:s.length≤260000) (hk:kindOf E0 s=2) (w:World):
  Calls Tryz.prog 132 #[.string (S s)] w (BlkF w (.mk 2 (run 35 s) [] [] (parse (trim (s.drop (run 35 s)))) [])):=by
 have HH:=told11.head (S s) w (by rw[S_size];exact hs)
 have HH:=Lib.hid (fun w'=>told11.head (S s) w' (by rw[S_size];exact hs))
 have e1:hdN s=run 35 s:=if_pos hk
 have e2:hdT s=trim (s.drop (run 35 s)):=if_pos hk
 simp only[S_list,e1,e2]at HH
 have htl:(trim (s.drop (run 35 s))).length≤260000:=Nat.le_trans (Ln.trim_len _) (by rw[List.length_drop];omega)
 have HP:=Lib.hid (fun w'=>parseF_any (S (trim (s.drop (run 35 s)))) (by rw[S_size];omega) w')
 simp only[parse_eq]at HP
 unfold LevK at HH
 unfold TrF at HP
 obtain⟨X,hX⟩:∃X,Bk.mk 2 (run 35 s) [] [] (parse (trim (s.drop (run 35 s)))) []=X:=⟨_,rfl⟩
 have HV:Hid (X=.mk 2 (run 35 s) [] [] (parse (trim (s.drop (run 35 s)))) []):=Lib.hid hX.symm
 rw[hX]
 clear hX e1 e2 htl hk
 generalize parse (trim (s.drop (run 35 s)))=L at *
 generalize S (trim (s.drop (run 35 s)))=st at *
 generalize run 35 s=n at *
 generalize S s=ss at *
 have HA1:=Lib.hid (alloc_new w (.cells #[.int .i64 0,.int .i64 0,.string ⟨#[]⟩,.slice none 0 0,.slice none 0 0,.slice none 0 0] 46))
 have HB1:=Lib.hid ((Below.refl w.heap.size w).alloc (Nat.le_refl _) (.cells #[.int .i64 0,.int .i64 0,.string ⟨#[]⟩,.slice none 0 0,.slice none 0 0,.slice none 0 0] 46))
 go_enter Tryz.func132,Tryz.ntmps132
 go_wp2_with fail
 generalize w.alloc (.cells #[.int .i64 0,.int .i64 0,.string ⟨#[]⟩,.slice none 0 0,.slice none 0 0,.slice none 0 0] 46)=w1 at *
 refine(HH.out _).mono ?_
 rintro e w2 ⟨rfl,b2⟩
 have HA2:Hid (w2.heap[w.heap.size]? = some (Obj.cells #[.int .i64 0,.int .i64 0,.string ⟨#[]⟩,.slice none 0 0,.slice none 0 0,.slice none 0 0] 46 (0,0))):=Lib.hid ((b2.block _ (lt_of_at HA1.out)).trans HA1.out)
 have HB2:=Lib.hid (HB1.out.trans (b2.mono HB1.out.size))
 clear b2 HH HA1 HB1
 go_wp2_with fail
 refine(HP.out _).mono ?_
 rintro e w3 ⟨vs,rfl,hf,b3⟩
 obtain⟨as',cs,rfl⟩:=hf.now.len
 have HA3:Hid (w3.heap[w.heap.size]? = some (Obj.cells #[.int .i64 0,.int .i64 0,.string ⟨#[]⟩,.slice none 0 0,.slice none 0 0,.slice none 0 0] 46 (0,0))):=Lib.hid ((b3.block _ (lt_of_at HA2.out)).trans HA2.out)
 have HB3:=Lib.hid (HB2.out.trans (b3.mono HB2.out.size))
 have HF:=Lib.hid hf
 have hlt2:=lt_of_at HA2.out
 have hz2:=HB2.out.size
 clear b3 hf HP HA2 HB2
 have k0:w3.cell? ⟨w.heap.size,0,none⟩=some (.int .i64 0):=cell_at HA3.out 0
 have f0:w3.frozen? ⟨w.heap.size,0,none⟩=false:=frozen_at HA3.out 0
 have k1:w3.cell? ⟨w.heap.size,1,none⟩=some (.int .i64 0):=cell_at HA3.out 1
 have f1:w3.frozen? ⟨w.heap.size,1,none⟩=false:=frozen_at HA3.out 1
 have k2:w3.cell? ⟨w.heap.size,2,none⟩=some (.string ⟨#[]⟩):=cell_at HA3.out 2
 have f2:w3.frozen? ⟨w.heap.size,2,none⟩=false:=frozen_at HA3.out 2
 have k3:w3.cell? ⟨w.heap.size,3,none⟩=some (.slice none 0 0):=cell_at HA3.out 3
 have f3:w3.frozen? ⟨w.heap.size,3,none⟩=false:=frozen_at HA3.out 3
 have k4:w3.cell? ⟨w.heap.size,4,none⟩=some (.slice none 0 0):=cell_at HA3.out 4
 have f4:w3.frozen? ⟨w.heap.size,4,none⟩=false:=frozen_at HA3.out 4
 have k5:w3.cell? ⟨w.heap.size,5,none⟩=some (.slice none 0 0):=cell_at HA3.out 5
 have f5:w3.frozen? ⟨w.heap.size,5,none⟩=false:=frozen_at HA3.out 5
 go_wp2_with fail
 have HS:=Lib.hid (Kd.set6 (u0:=.int .i64 2) (u1:=.int .i64 (n:Nat)) (u2:=.string ⟨#[]⟩) (u3:=.slice none 0 0) (u4:=.slice as' L.length cs) (u5:=.slice none 0 0) HA3.out)
 have HB9:=Lib.hid (Kd.set6_below HB3.out (Nat.le_refl _) (.int .i64 2) (.int .i64 (n:Nat)) (.string ⟨#[]⟩) (.slice none 0 0) (.slice as' L.length cs) (.slice none 0 0))
 have HK9:=Lib.hid (fun B hB=>set6_keep (w:=w3) (b:=w.heap.size) (B:=B) hB (.int .i64 2) (.int .i64 (n:Nat)) (.string ⟨#[]⟩) (.slice none 0 0) (.slice as' L.length cs) (.slice none 0 0))
 generalize ((((((w3.setCell ⟨w.heap.size,0,none⟩ (.int .i64 2)).setCell ⟨w.heap.size,1,none⟩ (.int .i64 (n:Nat))).setCell ⟨w.heap.size,2,none⟩ (.string ⟨#[]⟩)).setCell ⟨w.heap.size,3,none⟩ (.slice none 0 0)).setCell ⟨w.heap.size,4,none⟩ (.slice as' L.length cs)).setCell ⟨w.heap.size,5,none⟩ (.slice none 0 0))=w9 at *
 have r0:w9.cell? ⟨w.heap.size,0,none⟩=some (.int .i64 2):=cell_at HS.out 0
 have r1:w9.cell? ⟨w.heap.size,1,none⟩=some (.int .i64 (n:Nat)):=cell_at HS.out 1
 have r2:w9.cell? ⟨w.heap.size,2,none⟩=some (.string ⟨#[]⟩):=cell_at HS.out 2
 have r3:w9.cell? ⟨w.heap.size,3,none⟩=some (.slice none 0 0):=cell_at HS.out 3
 have r4:w9.cell? ⟨w.heap.size,4,none⟩=some (.slice as' L.length cs):=cell_at HS.out 4
 have r5:w9.cell? ⟨w.heap.size,5,none⟩=some (.slice none 0 0):=cell_at HS.out 5
 exact bodyPost_ret (v:=.agg #[.int .i64 2,.int .i64 (n:Nat),.string ⟨#[]⟩,.slice none 0 0,.slice as' L.length cs,.slice none 0 0]) (by simp[results,Tryz.results132,go_sem,r0,r1,r2,r3,r4,r5]) rfl (blkF_of (inf:=[]) HV.out HB9.out (frRd_nil _ _) (by simp) (HF.out.put (HK9.out _ hlt2) hz2) (frB_nil _ _))
set_option maxHeartbeats 6400000 in
set_option maxRecDepth 100000 in
theorem paraB_any (v:Value) (xs:List Tx) (w:World) (hr:Rd w v xs) (ht:tot xs≤260000):
  Calls Tryz.prog 138 #[v] w (BlkF w (.mk 1 0 [] [] (parse (joinLF (xs.map trim))) [])):=by
 obtain⟨i0,hi,hz0,hz1,hz2⟩:=info_parts infoX
 obtain⟨ao,ca,rfl⟩:=hr.len
 have hlen:xs.length≤260000:=Nat.le_trans (tot_len xs) ht
 have HRd:=Lib.hid (fun w' (h:Below w.heap.size w w')=>Bt.Rd.at (hr.below h))
 have HU:=Lib.hid (fun j (hj:j<xs.length) w'=>trimP_any (S xs[j]) (by rw[S_size];have:=mem_20 ht hj;omega) w')
 simp only[S_list]at HU
 unfold StrK at HU
 have hjl:(joinLF (xs.map trim)).length≤260000:=by
  have h1:=joinLF_len (xs.map trim)
  have h2:=tot_map trim (fun s=>Ln.trim_len s) xs
  omega
 have HJ:=Lib.hid (fun v w' (h:Rd w' v (xs.map trim))=>joinP_any v (xs.map trim) w' h (by rw[List.length_map];omega) (by omega))
 have HP:=Lib.hid (fun w'=>parseF_any (S (joinLF (xs.map trim))) (by rw[S_size];omega) w')
 simp only[parse_eq]at HP
 unfold StrK at HJ
 unfold TrF at HP
 obtain⟨X,hX⟩:∃X,Bk.mk 1 0 [] [] (parse (joinLF (xs.map trim))) []=X:=⟨_,rfl⟩
 have HV:Hid (X=.mk 1 0 [] [] (parse (joinLF (xs.map trim))) []):=Lib.hid hX.symm
 rw[hX]
 have hm:xs.length≤maxLen:=by unfold maxLen;omega
 clear hX hr ht hjl
 generalize parse (joinLF (xs.map trim))=L at *
 generalize S (joinLF (xs.map trim))=st at *
 have HA1:=Lib.hid (alloc_new w (.cells #[.int .i64 0,.int .i64 0,.string ⟨#[]⟩,.slice none 0 0,.slice none 0 0,.slice none 0 0] 46))
 have HB1:=Lib.hid ((Below.refl w.heap.size w).alloc (Nat.le_refl _) (.cells #[.int .i64 0,.int .i64 0,.string ⟨#[]⟩,.slice none 0 0,.slice none 0 0,.slice none 0 0] 46))
 go_enter Tryz.func138,Tryz.ntmps138
 go_upto_region 1 with fail
 generalize w.alloc (.cells #[.int .i64 0,.int .i64 0,.string ⟨#[]⟩,.slice none 0 0,.slice none 0 0,.slice none 0 0] 46)=w1 at *
 go_wp2_with (at_make;refine wpList_make_full _ rfl _ _ 23 rfl w1.heap.size 9 i0 (.string ⟨#[]⟩) 1 Tryz.underlying23 hi hz0 hz1 _ _ _ _ xs.length rfl rfl rfl rfl (by rw[hz2];omega) hm (Nat.le_refl _) ?_)
 intro W2 hown hgrow
 have HF:Hid (FillS w1 xs.length ((xs.map trim).take 0) W2):=Lib.hid (by rw[List.take_zero];exact FillS.start hown hgrow)
 clear hown hgrow hi hz0 hz1 hz2
 go_wp2_with fail
 go_loopw [11] (fun iv wr=>∃j:Nat,j≤xs.length∧iv=.int .i64 j∧Hid (FillS w1 xs.length ((xs.map trim).take j) wr)) (fun iv _=>xs.length-(intOf iv).toNat)
 case atStart=>exact⟨0,Nat.zero_le _,rfl,HF⟩
 case round=>
  clear HF
  obtain⟨j,hj,rfl,HF⟩:=hrel
  have HBr:=Lib.hid HF.out.bel
  have HB:=Lib.hid (HB1.out.trans (HBr.out.mono HB1.out.size))
  by_cases hlt:j<xs.length
  ·have hji:(j:Int)<(xs.length:Int):=by omega
   obtain⟨b,of,hbo,c0⟩:=HRd.out wr HB.out j hlt
   subst hbo
   have HUj:=Lib.hid (HU.out j hlt wr)
   have htl:((xs.map trim).take j).length=j:=by rw[List.length_take,List.length_map];omega
   have HN:Hid (∀w',FillS w1 xs.length ((xs.map trim).take j) w'→FillS w1 xs.length ((xs.map trim).take (j+1)) (w'.setCell ⟨w1.heap.size,j,none⟩ (.string (S (trim xs[j]))))):=Lib.hid (fun w' h=>by
    have h2:=h.put (by omega) (trim xs[j])
    rw[htl]at h2
    rw[take_next (by rw[List.length_map];exact hlt),List.getElem_map]
    exact h2)
   clear htl
   generalize S xs[j]=sx at *
   generalize S (trim xs[j])=su at *
   go_wp2_with fail
   refine HUj.out.mono ?_
   rintro e w2 ⟨rfl,b2⟩
   have HF2:=Lib.hid (HF.out.go b2)
   have HF3:=Lib.hid (HN.out w2 HF2.out)
   obtain⟨⟨v1,hc1⟩,hf1⟩:=HF2.out.cell hlt
   clear b2 HUj HN
   go_wp2_with fail
   go_roundw
   case rel=>exact⟨j+1,by omega,by go_num,HF3⟩
   case measure=>simp[intOf]<;>omega
  ·obtain rfl:j=xs.length:=by omega
   have HO:Hid (Rd wr (.slice (some ⟨w1.heap.size,0,none⟩) xs.length xs.length) (xs.map trim)):=Lib.hid (by
    have h:=HF.out.out (by rw[List.length_take,List.length_map];omega)
    rw[List.take_of_length_le (by rw[List.length_map];exact Nat.le_refl _)]at h
    exact OutS.rd h)
   have HJr:=Lib.hid (HJ.out _ wr HO.out)
   have HA2:Hid (wr.heap[w.heap.size]? = some (Obj.cells #[.int .i64 0,.int .i64 0,.string ⟨#[]⟩,.slice none 0 0,.slice none 0 0,.slice none 0 0] 46 (0,0))):=Lib.hid ((HBr.out.block _ (lt_of_at HA1.out)).trans HA1.out)
   clear HF hlt HU HJ HBr HRd
   go_wp2_with fail
   refine HJr.out.mono ?_
   rintro e w3 ⟨rfl,b3⟩
   have HA3:Hid (w3.heap[w.heap.size]? = some (Obj.cells #[.int .i64 0,.int .i64 0,.string ⟨#[]⟩,.slice none 0 0,.slice none 0 0,.slice none 0 0] 46 (0,0))):=Lib.hid ((b3.block _ (lt_of_at HA2.out)).trans HA2.out)
   have HB3:=Lib.hid (HB.out.trans (b3.mono HB.out.size))
   clear b3 HJr
   go_wp2_with fail
   refine(HP.out _).mono ?_
   rintro e w4 ⟨vs,rfl,hf,b4⟩
   obtain⟨as',cs,rfl⟩:=hf.now.len
   have HA4:Hid (w4.heap[w.heap.size]? = some (Obj.cells #[.int .i64 0,.int .i64 0,.string ⟨#[]⟩,.slice none 0 0,.slice none 0 0,.slice none 0 0] 46 (0,0))):=Lib.hid ((b4.block _ (lt_of_at HA3.out)).trans HA3.out)
   have HB4:=Lib.hid (HB3.out.trans (b4.mono HB3.out.size))
   have HFp:=Lib.hid hf
   have hlt2:=lt_of_at HA3.out
   have hz2:=HB3.out.size
   clear b4 hf HP HA1 HA2 HA3 HB1 HB3 HO
   have k0:w4.cell? ⟨w.heap.size,0,none⟩=some (.int .i64 0):=cell_at HA4.out 0
   have f0:w4.frozen? ⟨w.heap.size,0,none⟩=false:=frozen_at HA4.out 0
   have k1:w4.cell? ⟨w.heap.size,1,none⟩=some (.int .i64 0):=cell_at HA4.out 1
   have f1:w4.frozen? ⟨w.heap.size,1,none⟩=false:=frozen_at HA4.out 1
   have k2:w4.cell? ⟨w.heap.size,2,none⟩=some (.string ⟨#[]⟩):=cell_at HA4.out 2
   have f2:w4.frozen? ⟨w.heap.size,2,none⟩=false:=frozen_at HA4.out 2
   have k3:w4.cell? ⟨w.heap.size,3,none⟩=some (.slice none 0 0):=cell_at HA4.out 3
   have f3:w4.frozen? ⟨w.heap.size,3,none⟩=false:=frozen_at HA4.out 3
   have k4:w4.cell? ⟨w.heap.size,4,none⟩=some (.slice none 0 0):=cell_at HA4.out 4
   have f4:w4.frozen? ⟨w.heap.size,4,none⟩=false:=frozen_at HA4.out 4
   have k5:w4.cell? ⟨w.heap.size,5,none⟩=some (.slice none 0 0):=cell_at HA4.out 5
   have f5:w4.frozen? ⟨w.heap.size,5,none⟩=false:=frozen_at HA4.out 5
   go_wp2_with fail
   have HS:=Lib.hid (Kd.set6 (u0:=.int .i64 1) (u1:=.int .i64 0) (u2:=.string ⟨#[]⟩) (u3:=.slice none 0 0) (u4:=.slice as' L.length cs) (u5:=.slice none 0 0) HA4.out)
   have HB9:=Lib.hid (Kd.set6_below HB4.out (Nat.le_refl _) (.int .i64 1) (.int .i64 0) (.string ⟨#[]⟩) (.slice none 0 0) (.slice as' L.length cs) (.slice none 0 0))
   have HK9:=Lib.hid (fun B hB=>set6_keep (w:=w4) (b:=w.heap.size) (B:=B) hB (.int .i64 1) (.int .i64 0) (.string ⟨#[]⟩) (.slice none 0 0) (.slice as' L.length cs) (.slice none 0 0))
   generalize ((((((w4.setCell ⟨w.heap.size,0,none⟩ (.int .i64 1)).setCell ⟨w.heap.size,1,none⟩ (.int .i64 0)).setCell ⟨w.heap.size,2,none⟩ (.string ⟨#[]⟩)).setCell ⟨w.heap.size,3,none⟩ (.slice none 0 0)).setCell ⟨w.heap.size,4,none⟩ (.slice as' L.length cs)).setCell ⟨w.heap.size,5,none⟩ (.slice none 0 0))=w9 at *
   have r0:w9.cell? ⟨w.heap.size,0,none⟩=some (.int .i64 1):=cell_at HS.out 0
   have r1:w9.cell? ⟨w.heap.size,1,none⟩=some (.int .i64 0):=cell_at HS.out 1
   have r2:w9.cell? ⟨w.heap.size,2,none⟩=some (.string ⟨#[]⟩):=cell_at HS.out 2
   have r3:w9.cell? ⟨w.heap.size,3,none⟩=some (.slice none 0 0):=cell_at HS.out 3
   have r4:w9.cell? ⟨w.heap.size,4,none⟩=some (.slice as' L.length cs):=cell_at HS.out 4
   have r5:w9.cell? ⟨w.heap.size,5,none⟩=some (.slice none 0 0):=cell_at HS.out 5
   exact bodyPost_ret (v:=.agg #[.int .i64 1,.int .i64 0,.string ⟨#[]⟩,.slice none 0 0,.slice as' L.length cs,.slice none 0 0]) (by simp[results,Tryz.results138,go_sem,r0,r1,r2,r3,r4,r5]) rfl (blkF_of (inf:=[]) HV.out HB9.out (frRd_nil _ _) (by simp) (HFp.out.put (HK9.out _ hlt2) hz2) (frB_nil _ _))
end Pa
namespace Pa
open Go.RowKit
open Tk (S S_of S_list S_size S_toList S_app ret_int eq8 ne8 at_data len_data Rd)
open Sp (Sp Tr parseB ret_bool TrF parseF_any OkAns)
open Bt (TrB KB)
open Cm (Keep alloc_new alloc_at cell_at frozen_at set_at set_other lt_of_at)
open Bk (Tx Bk fenceL spanK itemL dropBlank listL kindOf closes unquote unitem inner parse joinLF define items)
open Ln (run trim jn)
open Kd (E0 StrK InK LevK hdN hdT opN opT told11 trimP_any)
theorem fence_full (n:Nat):∀u:List Tx,(fenceL n u).2=[]→(∀z,u.getLast? = some z→closes z n=true→(fenceL n u).1=u.take (u.length-1))∧((∀z,u.getLast? = some z→closes z n=false)→(fenceL n u).1=u)
 |[],_=>⟨(fun z h=>by cases h),fun _=>rfl⟩
 |[s],h=>by
  cases hc:closes s n with
  |true=>
   rw[fence_yes hc]
   refine⟨fun z _ _=>rfl,fun hz=>?_⟩
   rw[hz s rfl]at hc
   cases hc
  |false=>
   rw[fence_no hc]
   refine⟨fun z hz hcz=>?_,fun _=>rfl⟩
   have e:s=z:=by simpa using hz
   rw[←e,hc]at hcz
   cases hcz
 |s::t::r,h=>by
  cases hc:closes s n with
  |true=>
   rw[fence_yes hc]at h
   cases h
  |false=>
   rw[fence_no hc]at h ⊢
   obtain⟨i1,i2⟩:=fence_full n (t::r) h
   have hlast:(s::t::r).getLast? = (t::r).getLast?:=by rw[List.getLast?_cons_cons]
   rw[hlast]
   refine⟨fun z hz hcz=>?_,fun hz=>?_⟩
   ·show s::(fenceL n (t::r)).1=_
    rw[i1 z hz hcz]
    rfl
   ·show s::(fenceL n (t::r)).1=_
    rw[i2 hz]
set_option maxHeartbeats 6400000 in
set_option maxRecDepth 100000 in
theorem fenceB_any (v:Value) (s:Tx) (u:List Tx) (w:World) (hr:Rd w v (s::u)) (ht:tot (s::u)≤260000) (hk:kindOf E0 s=4) (hu:restB s u=[]):
  Calls Tryz.prog 133 #[v] w (BlkF w (.mk 4 0 (trim (s.drop (run 96 s))) (fenceL (run 96 s) u).1 [] [])):=by
 obtain⟨ao,ca,rfl⟩:=hr.len
 have hlen:(s::u).length≤260000:=Nat.le_trans (tot_len (s::u)) ht
 have hul:u.length≤260000:=by simp only[List.length_cons]at hlen;omega
 have hsz:s.length≤260000:=by have:=tot_mem (s::u) s (List.mem_cons_self ..);omega
 have HRd:=Lib.hid (fun w' (h:Below w.heap.size w w')=>Bt.Rd.at (hr.below h))
 have HOp:=Lib.hid (fun w'=>told11.opens (S s) w' (by rw[S_size];exact hsz))
 have e1:opN s=run 96 s:=if_pos hk
 have e2:opT s=trim (s.drop (run 96 s)):=if_pos hk
 simp only[S_list,e1,e2]at HOp
 unfold LevK at HOp
 have hrl:run 96 s≤260000:=Nat.le_trans (Ln.run_le 96 s) hsz
 have HC:=Lib.hid (fun z (hz:z∈u) w'=>told11.closes (S z) (run 96 s:Nat) w' (by rw[S_size];have:=tot_mem (s::u) z (List.mem_cons_of_mem _ hz);omega) (by omega) (by omega))
 simp only[S_list,cl_nat]at HC
 rw[rest4 hk]at hu
 obtain⟨hf1,hf2⟩:=fence_full (run 96 s) u hu
 obtain⟨vc,hsl,hrc⟩:=rd_slice_from hr 1 (by simp) (by omega)
 have h1i:((1:Nat):Int)=1:=rfl
 rw[h1i]at hsl
 simp only[List.drop_succ_cons,List.drop_zero]at hrc
 have HRc:=Lib.hid hrc
 obtain⟨ac,cc,hvc⟩:=(hrc w (Below.refl _ _)).len
 subst hvc
 have HSl:=Lib.hid hsl
 obtain⟨X,hX⟩:∃X,Bk.mk 4 0 (trim (s.drop (run 96 s))) (fenceL (run 96 s) u).1 [] []=X:=⟨_,rfl⟩
 have HV:Hid (∀ls,(fenceL (run 96 s) u).1=ls→X=.mk 4 0 (trim (s.drop (run 96 s))) ls [] []):=Lib.hid (fun ls h=>by rw[←hX,h])
 rw[hX]
 clear hX e1 e2 hk hu h1i hsl
 unfold OkAns at HC
 have Hf1:=Lib.hid hf1
 have Hf2:=Lib.hid hf2
 clear hf1 hf2 hrc
 generalize (fenceL (run 96 s) u).1=ls at *
 generalize trim (s.drop (run 96 s))=inf at *
 generalize hgi:S inf=si at *
 have HSi:=Lib.hid hgi
 clear hgi
 generalize run 96 s=n at *
 have HA1:=Lib.hid (alloc_new w (.cells #[.int .i64 0,.int .i64 0,.string ⟨#[]⟩,.slice none 0 0,.slice none 0 0,.slice none 0 0] 46))
 have HB1:=Lib.hid ((Below.refl w.heap.size w).alloc (Nat.le_refl _) (.cells #[.int .i64 0,.int .i64 0,.string ⟨#[]⟩,.slice none 0 0,.slice none 0 0,.slice none 0 0] 46))
 obtain⟨b0,o0,hbo,c0⟩:=HRd.out _ HB1.out 0 (by simp)
 subst hbo
 simp only[List.getElem_cons_zero,Nat.add_zero]at c0
 have hll:(s::u).length=u.length+1:=rfl
 generalize S s=ss at *
 have h0i:(0:Int)<((u.length+1:Nat):Int):=by omega
 rw[hll]at HSl hr ⊢
 clear hll hr HRd
 go_enter Tryz.func133,Tryz.ntmps133
 go_wp2_with fail
 generalize w.alloc (.cells #[.int .i64 0,.int .i64 0,.string ⟨#[]⟩,.slice none 0 0,.slice none 0 0,.slice none 0 0] 46)=w1 at *
 refine(HOp.out _).mono ?_
 rintro e w2 ⟨rfl,b2⟩
 have HA2:Hid (w2.heap[w.heap.size]? = some (Obj.cells #[.int .i64 0,.int .i64 0,.string ⟨#[]⟩,.slice none 0 0,.slice none 0 0,.slice none 0 0] 46 (0,0))):=Lib.hid ((b2.block _ (lt_of_at HA1.out)).trans HA1.out)
 have HB2:=Lib.hid (HB1.out.trans (b2.mono HB1.out.size))
 have hsl:=HSl.out
 clear b2 HOp HA1 HB1 c0
 rcases Nat.eq_zero_or_pos u.length with hu0 |hu0
 ·have hue:u=[]:=List.eq_nil_of_length_eq_zero hu0
  have HL:Hid (ls=u):=Lib.hid (Hf2.out (fun z hz=>by rw[hue]at hz;cases hz))
  have HRt:Hid (∀w',Below w.heap.size w w'→Rd w' (.slice ac u.length cc) ([]++u)):=HRc
  have wl:IntKind.i64.wrap ((u.length:Int)-1)= -1:=by rw[IntKind.wrap_i64];omega
  have g1:decide ((-1:Int)≥0)=false:=rfl
  have g2:decide ((0:Int)≤-1)=false:=rfl
  clear HC Hf1 Hf2 HRc hue hu0
  go_upto_region 6 with fail
  obtain⟨v5,w5,hr5,ho5,hb5⟩:=OutS.app (OutG.nil (Nat.le_refl _)) (HRt.out w2 HB2.out) (by simp;omega)
  obtain⟨a5,m5,c5,h5⟩:∃ao n cap,v5=.slice ao n cap:=by
   rcases(OutG.own ho5).2 with ⟨h,_⟩|⟨g,cap,_,h,_⟩
   ·exact⟨none,0,0,h⟩
   ·exact⟨_,_,_,h⟩
  subst h5
  have HF5:=Lib.hid (OutS.fresh ho5)
  have HA5:Hid (w5.heap[w.heap.size]? = some (Obj.cells #[.int .i64 0,.int .i64 0,.string ⟨#[]⟩,.slice none 0 0,.slice none 0 0,.slice none 0 0] 46 (0,0))):=Lib.hid ((hb5.block _ (lt_of_at HA2.out)).trans HA2.out)
  have HB5:=Lib.hid (HB2.out.trans (hb5.mono HB2.out.size))
  have hlt2:=lt_of_at HA2.out
  have hz2:=HB2.out.size
  clear ho5 hb5
  have k0:w5.cell? ⟨w.heap.size,0,none⟩=some (.int .i64 0):=cell_at HA5.out 0
  have f0:w5.frozen? ⟨w.heap.size,0,none⟩=false:=frozen_at HA5.out 0
  have k1:w5.cell? ⟨w.heap.size,1,none⟩=some (.int .i64 0):=cell_at HA5.out 1
  have f1:w5.frozen? ⟨w.heap.size,1,none⟩=false:=frozen_at HA5.out 1
  have k2:w5.cell? ⟨w.heap.size,2,none⟩=some (.string ⟨#[]⟩):=cell_at HA5.out 2
  have f2:w5.frozen? ⟨w.heap.size,2,none⟩=false:=frozen_at HA5.out 2
  have k3:w5.cell? ⟨w.heap.size,3,none⟩=some (.slice none 0 0):=cell_at HA5.out 3
  have f3:w5.frozen? ⟨w.heap.size,3,none⟩=false:=frozen_at HA5.out 3
  have k4:w5.cell? ⟨w.heap.size,4,none⟩=some (.slice none 0 0):=cell_at HA5.out 4
  have f4:w5.frozen? ⟨w.heap.size,4,none⟩=false:=frozen_at HA5.out 4
  have k5:w5.cell? ⟨w.heap.size,5,none⟩=some (.slice none 0 0):=cell_at HA5.out 5
  have f5:w5.frozen? ⟨w.heap.size,5,none⟩=false:=frozen_at HA5.out 5
  go_wp2_with (at_builtin;refine Lib.wpList_append_run _ rfl _ _ _ _ rfl _ _ rfl rfl _ _ (hr5 _) ?_)
  have HS:=Lib.hid (Kd.set6 (u0:=.int .i64 4) (u1:=.int .i64 0) (u2:=.string si) (u3:=.slice a5 m5 c5) (u4:=.slice none 0 0) (u5:=.slice none 0 0) HA5.out)
  have HB9:=Lib.hid (Kd.set6_below HB5.out (Nat.le_refl _) (.int .i64 4) (.int .i64 0) (.string si) (.slice a5 m5 c5) (.slice none 0 0) (.slice none 0 0))
  have HK9:=Lib.hid (fun B hB=>set6_keep (w:=w5) (b:=w.heap.size) (B:=B) hB (.int .i64 4) (.int .i64 0) (.string si) (.slice a5 m5 c5) (.slice none 0 0) (.slice none 0 0))
  generalize ((((((w5.setCell ⟨w.heap.size,0,none⟩ (.int .i64 4)).setCell ⟨w.heap.size,1,none⟩ (.int .i64 0)).setCell ⟨w.heap.size,2,none⟩ (.string si)).setCell ⟨w.heap.size,3,none⟩ (.slice a5 m5 c5)).setCell ⟨w.heap.size,4,none⟩ (.slice none 0 0)).setCell ⟨w.heap.size,5,none⟩ (.slice none 0 0))=w9 at *
  have r0:w9.cell? ⟨w.heap.size,0,none⟩=some (.int .i64 4):=cell_at HS.out 0
  have r1:w9.cell? ⟨w.heap.size,1,none⟩=some (.int .i64 0):=cell_at HS.out 1
  have r2:w9.cell? ⟨w.heap.size,2,none⟩=some (.string si):=cell_at HS.out 2
  have r3:w9.cell? ⟨w.heap.size,3,none⟩=some (.slice a5 m5 c5):=cell_at HS.out 3
  have r4:w9.cell? ⟨w.heap.size,4,none⟩=some (.slice none 0 0):=cell_at HS.out 4
  have r5:w9.cell? ⟨w.heap.size,5,none⟩=some (.slice none 0 0):=cell_at HS.out 5
  exact bodyPost_ret (v:=.agg #[.int .i64 4,.int .i64 0,.string si,.slice a5 m5 c5,.slice none 0 0,.slice none 0 0]) (by simp[results,Tryz.results133,go_sem,r0,r1,r2,r3,r4,r5]) rfl (by have h:=blkF_of (inf:=inf) (HV.out _ HL.out) HB9.out (HF5.out.put (HK9.out _ hlt2) hz2) (by first |omega |(simp;omega)) (frTr_nil _ _) (frB_nil _ _);rw[HSi.out]at h;exact h)
 ·obtain⟨n1,hn1⟩:∃q,q=u.length-1:=⟨_,rfl⟩
  have hn1l:n1<u.length:=by omega
  have wl:IntKind.i64.wrap ((u.length:Int)-1)=(n1:Int):=by rw[IntKind.wrap_i64];omega
  have g1:decide ((n1:Int)≥0)=true:=decide_eq_true (by omega)
  have g2:decide ((0:Int)≤(n1:Int))=true:=decide_eq_true (by omega)
  have hn1i:(n1:Int)<(u.length:Int):=by omega
  have hlast:u.getLast? = some u[n1]:=by rw[List.getLast?_eq_getElem?,←hn1,List.getElem?_eq_getElem hn1l]
  obtain⟨bc,oc,hbc,d0⟩:=Bt.Rd.at (HRc.out w2 HB2.out) n1 hn1l
  subst hbc
  have HCj:=Lib.hid (fun w'=>HC.out u[n1] (List.getElem_mem hn1l) w')
  have HF1:=Lib.hid (Hf1.out _ hlast)
  have HF2:Hid (closes u[n1] n=false→ls=u):=Lib.hid (fun h=>Hf2.out (fun z hz=>by rw[hlast]at hz;injection hz with hz;rw[←hz];exact h))
  rw[←hn1]at HF1
  obtain⟨vt,hst,hrt⟩:=rd_slice_to (HRc.out w2 HB2.out) n1 (by omega) (by simp only[List.length_cons]at hlen;omega)
  obtain⟨at',ct,hvt⟩:=(hrt w2 (Below.refl _ _)).len
  have htk:(u.take n1).length=n1:=by rw[List.length_take];omega
  rw[htk]at hvt
  subst hvt
  have Hst:=Lib.hid hst
  have Hrt:=Lib.hid hrt
  clear HC Hf1 Hf2 hlast hst hrt hn1 htk
  generalize closes u[n1] n=cl at *
  generalize S u[n1]=sz at *
  cases cl with
  |true=>
   have HL:=Lib.hid (HF1.out rfl)
   clear HF1 HF2
   go_wp2_with fail
   refine(HCj.out _).mono ?_
   rintro e w3 ⟨rfl,b3⟩
   have HA3:Hid (w3.heap[w.heap.size]? = some (Obj.cells #[.int .i64 0,.int .i64 0,.string ⟨#[]⟩,.slice none 0 0,.slice none 0 0,.slice none 0 0] 46 (0,0))):=Lib.hid ((b3.block _ (lt_of_at HA2.out)).trans HA2.out)
   have HB3:=Lib.hid (HB2.out.trans (b3.mono HB2.out.size))
   have HRt:Hid (∀w',w'=w3→Rd w' (.slice at' n1 ct) ([]++u.take n1)):=Lib.hid (fun w' hb=>by rw[hb];exact Hrt.out w3 b3)
   have hst:=Hst.out
   clear b3 HCj d0 Hrt
   obtain⟨v5,w5,hr5,ho5,hb5⟩:=OutS.app (OutG.nil (Nat.le_refl _)) (HRt.out w3 rfl) (by simp;omega)
   obtain⟨a5,m5,c5,h5⟩:∃ao n cap,v5=.slice ao n cap:=by
    rcases(OutG.own ho5).2 with ⟨h,_⟩|⟨g,cap,_,h,_⟩
    ·exact⟨none,0,0,h⟩
    ·exact⟨_,_,_,h⟩
   subst h5
   have HF5:=Lib.hid (OutS.fresh ho5)
   have HA5:Hid (w5.heap[w.heap.size]? = some (Obj.cells #[.int .i64 0,.int .i64 0,.string ⟨#[]⟩,.slice none 0 0,.slice none 0 0,.slice none 0 0] 46 (0,0))):=Lib.hid ((hb5.block _ (lt_of_at HA3.out)).trans HA3.out)
   have HB5:=Lib.hid (HB3.out.trans (hb5.mono HB3.out.size))
   have hlt2:=lt_of_at HA3.out
   have hz2:=HB3.out.size
   clear ho5 hb5
   have k0:w5.cell? ⟨w.heap.size,0,none⟩=some (.int .i64 0):=cell_at HA5.out 0
   have f0:w5.frozen? ⟨w.heap.size,0,none⟩=false:=frozen_at HA5.out 0
   have k1:w5.cell? ⟨w.heap.size,1,none⟩=some (.int .i64 0):=cell_at HA5.out 1
   have f1:w5.frozen? ⟨w.heap.size,1,none⟩=false:=frozen_at HA5.out 1
   have k2:w5.cell? ⟨w.heap.size,2,none⟩=some (.string ⟨#[]⟩):=cell_at HA5.out 2
   have f2:w5.frozen? ⟨w.heap.size,2,none⟩=false:=frozen_at HA5.out 2
   have k3:w5.cell? ⟨w.heap.size,3,none⟩=some (.slice none 0 0):=cell_at HA5.out 3
   have f3:w5.frozen? ⟨w.heap.size,3,none⟩=false:=frozen_at HA5.out 3
   have k4:w5.cell? ⟨w.heap.size,4,none⟩=some (.slice none 0 0):=cell_at HA5.out 4
   have f4:w5.frozen? ⟨w.heap.size,4,none⟩=false:=frozen_at HA5.out 4
   have k5:w5.cell? ⟨w.heap.size,5,none⟩=some (.slice none 0 0):=cell_at HA5.out 5
   have f5:w5.frozen? ⟨w.heap.size,5,none⟩=false:=frozen_at HA5.out 5
   go_wp2_with (at_builtin;refine Lib.wpList_append_run _ rfl _ _ _ _ rfl _ _ rfl rfl _ _ (hr5 _) ?_)
   have HS:=Lib.hid (Kd.set6 (u0:=.int .i64 4) (u1:=.int .i64 0) (u2:=.string si) (u3:=.slice a5 m5 c5) (u4:=.slice none 0 0) (u5:=.slice none 0 0) HA5.out)
   have HB9:=Lib.hid (Kd.set6_below HB5.out (Nat.le_refl _) (.int .i64 4) (.int .i64 0) (.string si) (.slice a5 m5 c5) (.slice none 0 0) (.slice none 0 0))
   have HK9:=Lib.hid (fun B hB=>set6_keep (w:=w5) (b:=w.heap.size) (B:=B) hB (.int .i64 4) (.int .i64 0) (.string si) (.slice a5 m5 c5) (.slice none 0 0) (.slice none 0 0))
   generalize ((((((w5.setCell ⟨w.heap.size,0,none⟩ (.int .i64 4)).setCell ⟨w.heap.size,1,none⟩ (.int .i64 0)).setCell ⟨w.heap.size,2,none⟩ (.string si)).setCell ⟨w.heap.size,3,none⟩ (.slice a5 m5 c5)).setCell ⟨w.heap.size,4,none⟩ (.slice none 0 0)).setCell ⟨w.heap.size,5,none⟩ (.slice none 0 0))=w9 at *
   have r0:w9.cell? ⟨w.heap.size,0,none⟩=some (.int .i64 4):=cell_at HS.out 0
   have r1:w9.cell? ⟨w.heap.size,1,none⟩=some (.int .i64 0):=cell_at HS.out 1
   have r2:w9.cell? ⟨w.heap.size,2,none⟩=some (.string si):=cell_at HS.out 2
   have r3:w9.cell? ⟨w.heap.size,3,none⟩=some (.slice a5 m5 c5):=cell_at HS.out 3
   have r4:w9.cell? ⟨w.heap.size,4,none⟩=some (.slice none 0 0):=cell_at HS.out 4
   have r5:w9.cell? ⟨w.heap.size,5,none⟩=some (.slice none 0 0):=cell_at HS.out 5
   exact bodyPost_ret (v:=.agg #[.int .i64 4,.int .i64 0,.string si,.slice a5 m5 c5,.slice none 0 0,.slice none 0 0]) (by simp[results,Tryz.results133,go_sem,r0,r1,r2,r3,r4,r5]) rfl (by have h:=blkF_of (inf:=inf) (HV.out _ HL.out) HB9.out (HF5.out.put (HK9.out _ hlt2) hz2) (by first |omega |(simp;omega)) (frTr_nil _ _) (frB_nil _ _);rw[HSi.out]at h;exact h)
  |false=>
   have HL:=Lib.hid (HF2.out rfl)
   have HRt:Hid (∀w',Below w.heap.size w w'→Rd w' (.slice (some ⟨bc,oc,none⟩) u.length cc) ([]++u)):=HRc
   clear HF1 HF2 Hst Hrt HRc
   go_wp2_with fail
   refine(HCj.out _).mono ?_
   rintro e w3 ⟨rfl,b3⟩
   have HA3:Hid (w3.heap[w.heap.size]? = some (Obj.cells #[.int .i64 0,.int .i64 0,.string ⟨#[]⟩,.slice none 0 0,.slice none 0 0,.slice none 0 0] 46 (0,0))):=Lib.hid ((b3.block _ (lt_of_at HA2.out)).trans HA2.out)
   have HB3:=Lib.hid (HB2.out.trans (b3.mono HB2.out.size))
   clear b3 HCj d0
   obtain⟨v5,w5,hr5,ho5,hb5⟩:=OutS.app (OutG.nil (Nat.le_refl _)) (HRt.out w3 HB3.out) (by simp;omega)
   obtain⟨a5,m5,c5,h5⟩:∃ao n cap,v5=.slice ao n cap:=by
    rcases(OutG.own ho5).2 with ⟨h,_⟩|⟨g,cap,_,h,_⟩
    ·exact⟨none,0,0,h⟩
    ·exact⟨_,_,_,h⟩
   subst h5
   have HF5:=Lib.hid (OutS.fresh ho5)
   have HA5:Hid (w5.heap[w.heap.size]? = some (Obj.cells #[.int .i64 0,.int .i64 0,.string ⟨#[]⟩,.slice none 0 0,.slice none 0 0,.slice none 0 0] 46 (0,0))):=Lib.hid ((hb5.block _ (lt_of_at HA3.out)).trans HA3.out)
   have HB5:=Lib.hid (HB3.out.trans (hb5.mono HB3.out.size))
   have hlt2:=lt_of_at HA3.out
   have hz2:=HB3.out.size
   clear ho5 hb5
   have k0:w5.cell? ⟨w.heap.size,0,none⟩=some (.int .i64 0):=cell_at HA5.out 0
   have f0:w5.frozen? ⟨w.heap.size,0,none⟩=false:=frozen_at HA5.out 0
   have k1:w5.cell? ⟨w.heap.size,1,none⟩=some (.int .i64 0):=cell_at HA5.out 1
   have f1:w5.frozen? ⟨w.heap.size,1,none⟩=false:=frozen_at HA5.out 1
   have k2:w5.cell? ⟨w.heap.size,2,none⟩=some (.string ⟨#[]⟩):=cell_at HA5.out 2
   have f2:w5.frozen? ⟨w.heap.size,2,none⟩=false:=frozen_at HA5.out 2
   have k3:w5.cell? ⟨w.heap.size,3,none⟩=some (.slice none 0 0):=cell_at HA5.out 3
   have f3:w5.frozen? ⟨w.heap.size,3,none⟩=false:=frozen_at HA5.out 3
   have k4:w5.cell? ⟨w.heap.size,4,none⟩=some (.slice none 0 0):=cell_at HA5.out 4
   have f4:w5.frozen? ⟨w.heap.size,4,none⟩=false:=frozen_at HA5.out 4
   have k5:w5.cell? ⟨w.heap.size,5,none⟩=some (.slice none 0 0):=cell_at HA5.out 5
   have f5:w5.frozen? ⟨w.heap.size,5,none⟩=false:=frozen_at HA5.out 5
   go_wp2_with (at_builtin;refine Lib.wpList_append_run _ rfl _ _ _ _ rfl _ _ rfl rfl _ _ (hr5 _) ?_)
   have HS:=Lib.hid (Kd.set6 (u0:=.int .i64 4) (u1:=.int .i64 0) (u2:=.string si) (u3:=.slice a5 m5 c5) (u4:=.slice none 0 0) (u5:=.slice none 0 0) HA5.out)
   have HB9:=Lib.hid (Kd.set6_below HB5.out (Nat.le_refl _) (.int .i64 4) (.int .i64 0) (.string si) (.slice a5 m5 c5) (.slice none 0 0) (.slice none 0 0))
   have HK9:=Lib.hid (fun B hB=>set6_keep (w:=w5) (b:=w.heap.size) (B:=B) hB (.int .i64 4) (.int .i64 0) (.string si) (.slice a5 m5 c5) (.slice none 0 0) (.slice none 0 0))
   generalize ((((((w5.setCell ⟨w.heap.size,0,none⟩ (.int .i64 4)).setCell ⟨w.heap.size,1,none⟩ (.int .i64 0)).setCell ⟨w.heap.size,2,none⟩ (.string si)).setCell ⟨w.heap.size,3,none⟩ (.slice a5 m5 c5)).setCell ⟨w.heap.size,4,none⟩ (.slice none 0 0)).setCell ⟨w.heap.size,5,none⟩ (.slice none 0 0))=w9 at *
   have r0:w9.cell? ⟨w.heap.size,0,none⟩=some (.int .i64 4):=cell_at HS.out 0
   have r1:w9.cell? ⟨w.heap.size,1,none⟩=some (.int .i64 0):=cell_at HS.out 1
   have r2:w9.cell? ⟨w.heap.size,2,none⟩=some (.string si):=cell_at HS.out 2
   have r3:w9.cell? ⟨w.heap.size,3,none⟩=some (.slice a5 m5 c5):=cell_at HS.out 3
   have r4:w9.cell? ⟨w.heap.size,4,none⟩=some (.slice none 0 0):=cell_at HS.out 4
   have r5:w9.cell? ⟨w.heap.size,5,none⟩=some (.slice none 0 0):=cell_at HS.out 5
   exact bodyPost_ret (v:=.agg #[.int .i64 4,.int .i64 0,.string si,.slice a5 m5 c5,.slice none 0 0,.slice none 0 0]) (by simp[results,Tryz.results133,go_sem,r0,r1,r2,r3,r4,r5]) rfl (by have h:=blkF_of (inf:=inf) (HV.out _ HL.out) HB9.out (HF5.out.put (HK9.out _ hlt2) hz2) (by first |omega |(simp;omega)) (frTr_nil _ _) (frB_nil _ _);rw[HSi.out]at h;exact h)
end Pa
namespace Pa
open Go.RowKit
open Tk (S S_of S_list S_size S_toList S_app ret_int eq8 ne8 at_data len_data Rd)
open Sp (Sp Tr ret_bool)
open Bt (TrB KB)
open Cm (Keep alloc_new alloc_at cell_at frozen_at set_at lt_of_at)
open Bk (Tx Bk define kindOf)
open Kd
set_option maxHeartbeats 3200000 in
theorem defineG_any (s:ByteArray) (hs:s.size≤1000000) (w:World):
  Calls Tryz.prog 137 #[.string s] w (BlkF w (dfB s.data.toList)):=by
 have HH:=Lib.hid (fun w'=>halves_any s (by omega) w')
 have HO:=Lib.hid (fun w'=>ofP_any s hs w')
 have HX1:Hid (kindOf E0 s.data.toList=7→dfB s.data.toList=.mk 8 0 (halB s.data.toList).1 [(halB s.data.toList).2] [] []):=Lib.hid (fun h=>by unfold dfB;rw[if_pos h,Kd.kd7 h])
 have HX0:Hid (kindOf E0 s.data.toList≠7→dfB s.data.toList=.mk 0 0 [] [] [] []):=Lib.hid (fun h=>by unfold dfB;rw[if_neg h])
 obtain⟨X,hX⟩:∃X,dfB s.data.toList=X:=⟨_,rfl⟩
 rw[hX]at HX1 HX0 ⊢
 clear hX
 unfold HalAns at HH
 unfold NumK at HO
 generalize kindOf E0 s.data.toList=K at *
 generalize halB s.data.toList=P at *
 obtain⟨a,d⟩:=P
 simp only at HH HX1
 go_enter Tryz.func137,Tryz.ntmps137
 have HA1:=Lib.hid (alloc_new w (.cells #[.int .i64 0,.int .i64 0,.string ⟨#[]⟩,.slice none 0 0,.slice none 0 0,.slice none 0 0] 46))
 have HB1:=Lib.hid ((Below.refl w.heap.size w).alloc (Nat.le_refl _) (.cells #[.int .i64 0,.int .i64 0,.string ⟨#[]⟩,.slice none 0 0,.slice none 0 0,.slice none 0 0] 46))
 go_wp2_with fail
 generalize w.alloc (.cells #[.int .i64 0,.int .i64 0,.string ⟨#[]⟩,.slice none 0 0,.slice none 0 0,.slice none 0 0] 46)=w1 at *
 refine(HO.out _).mono ?_
 rintro e w2 ⟨rfl,b2⟩
 have HA2:Hid (w2.heap[w.heap.size]? = some (Obj.cells #[.int .i64 0,.int .i64 0,.string ⟨#[]⟩,.slice none 0 0,.slice none 0 0,.slice none 0 0] 46 (0,0))):=Lib.hid (by rw[b2.block _ (lt_of_at HA1.out)];exact HA1.out)
 have HB2:=Lib.hid (HB1.out.trans (b2.mono HB1.out.size))
 clear b2 HA1 HB1 HO
 by_cases hk:K=7
 ·have HR:=Lib.hid (HX1.out hk)
  have e1:((K:Int)!=7)=false:=by rw[hk];rfl
  clear HX1 HX0 hk
  generalize hsa:S a=sa at *
  have HSa:Hid (S a=sa):=Lib.hid hsa
  clear hsa
  go_wp2_with fail
  refine(HH.out _).mono ?_
  rintro e w3 ⟨rfl,q2,hq2⟩
  have HA3:Hid (w3.heap[w.heap.size]? = some (Obj.cells #[.int .i64 0,.int .i64 0,.string ⟨#[]⟩,.slice none 0 0,.slice none 0 0,.slice none 0 0] 46 (0,0))):=Lib.hid (by rw[hq2];exact HA2.out)
  have HB3:=Lib.hid (show Below w.heap.size w w3 from by rw[hq2];exact below_drewN HB2.out q2)
  clear hq2 HA2 HB2 HH
  have k0:w3.cell? ⟨w.heap.size,0,none⟩=some (.int .i64 0):=cell_at HA3.out 0
  have f0:w3.frozen? ⟨w.heap.size,0,none⟩=false:=frozen_at HA3.out 0
  have K0:∀o,(w3.alloc o).cell? ⟨w.heap.size,0,none⟩=some (.int .i64 0):=fun o=>cell_at (alloc_at HA3.out o) 0
  have F0:∀o,(w3.alloc o).frozen? ⟨w.heap.size,0,none⟩=false:=fun o=>frozen_at (alloc_at HA3.out o) 0
  have k1:w3.cell? ⟨w.heap.size,1,none⟩=some (.int .i64 0):=cell_at HA3.out 1
  have f1:w3.frozen? ⟨w.heap.size,1,none⟩=false:=frozen_at HA3.out 1
  have K1:∀o,(w3.alloc o).cell? ⟨w.heap.size,1,none⟩=some (.int .i64 0):=fun o=>cell_at (alloc_at HA3.out o) 1
  have F1:∀o,(w3.alloc o).frozen? ⟨w.heap.size,1,none⟩=false:=fun o=>frozen_at (alloc_at HA3.out o) 1
  have k2:w3.cell? ⟨w.heap.size,2,none⟩=some (.string ⟨#[]⟩):=cell_at HA3.out 2
  have f2:w3.frozen? ⟨w.heap.size,2,none⟩=false:=frozen_at HA3.out 2
  have K2:∀o,(w3.alloc o).cell? ⟨w.heap.size,2,none⟩=some (.string ⟨#[]⟩):=fun o=>cell_at (alloc_at HA3.out o) 2
  have F2:∀o,(w3.alloc o).frozen? ⟨w.heap.size,2,none⟩=false:=fun o=>frozen_at (alloc_at HA3.out o) 2
  have k3:w3.cell? ⟨w.heap.size,3,none⟩=some (.slice none 0 0):=cell_at HA3.out 3
  have f3:w3.frozen? ⟨w.heap.size,3,none⟩=false:=frozen_at HA3.out 3
  have K3:∀o,(w3.alloc o).cell? ⟨w.heap.size,3,none⟩=some (.slice none 0 0):=fun o=>cell_at (alloc_at HA3.out o) 3
  have F3:∀o,(w3.alloc o).frozen? ⟨w.heap.size,3,none⟩=false:=fun o=>frozen_at (alloc_at HA3.out o) 3
  have k4:w3.cell? ⟨w.heap.size,4,none⟩=some (.slice none 0 0):=cell_at HA3.out 4
  have f4:w3.frozen? ⟨w.heap.size,4,none⟩=false:=frozen_at HA3.out 4
  have K4:∀o,(w3.alloc o).cell? ⟨w.heap.size,4,none⟩=some (.slice none 0 0):=fun o=>cell_at (alloc_at HA3.out o) 4
  have F4:∀o,(w3.alloc o).frozen? ⟨w.heap.size,4,none⟩=false:=fun o=>frozen_at (alloc_at HA3.out o) 4
  have k5:w3.cell? ⟨w.heap.size,5,none⟩=some (.slice none 0 0):=cell_at HA3.out 5
  have f5:w3.frozen? ⟨w.heap.size,5,none⟩=false:=frozen_at HA3.out 5
  have K5:∀o,(w3.alloc o).cell? ⟨w.heap.size,5,none⟩=some (.slice none 0 0):=fun o=>cell_at (alloc_at HA3.out o) 5
  have F5:∀o,(w3.alloc o).frozen? ⟨w.heap.size,5,none⟩=false:=fun o=>frozen_at (alloc_at HA3.out o) 5
  go_wp2_with fail
  have HS:=Lib.hid (set6 (u0:=.int .i64 8) (u1:=.int .i64 0) (u2:=.string sa) (u3:=.slice (some ⟨w3.heap.size,0,none⟩) 1 1) (u4:=.slice none 0 0) (u5:=.slice none 0 0) (alloc_at HA3.out (.cells #[.string (S d)] 9)))
  have HB:=Lib.hid (set6_below (HB3.out.alloc HB3.out.size (.cells #[.string (S d)] 9)) (Nat.le_refl _) (.int .i64 8) (.int .i64 0) (.string sa) (.slice (some ⟨w3.heap.size,0,none⟩) 1 1) (.slice none 0 0) (.slice none 0 0))
  have hne:w3.heap.size≠w.heap.size:=by have:=lt_of_at HA3.out;omega
  have HR5:=Lib.hid (set6_other (w:=w3.alloc (.cells #[.string (S d)] 9)) hne (.int .i64 8) (.int .i64 0) (.string sa) (.slice (some ⟨w3.heap.size,0,none⟩) 1 1) (.slice none 0 0) (.slice none 0 0))
  have HN:=Lib.hid (alloc_new w3 (.cells #[.string (S d)] 9))
  have HR6:=Lib.hid (HR5.out.trans HN.out)
  clear HR5 HN
  generalize (((((((w3.alloc (.cells #[.string (S d)] 9)).setCell ⟨w.heap.size,0,none⟩ (.int .i64 8)).setCell ⟨w.heap.size,1,none⟩ (.int .i64 0)).setCell ⟨w.heap.size,2,none⟩ (.string sa)).setCell ⟨w.heap.size,3,none⟩ (.slice (some ⟨w3.heap.size,0,none⟩) 1 1)).setCell ⟨w.heap.size,4,none⟩ (.slice none 0 0)).setCell ⟨w.heap.size,5,none⟩ (.slice none 0 0))=w5 at *
  have r0:w5.cell? ⟨w.heap.size,0,none⟩=some (.int .i64 8):=cell_at HS.out 0
  have r1:w5.cell? ⟨w.heap.size,1,none⟩=some (.int .i64 0):=cell_at HS.out 1
  have r2:w5.cell? ⟨w.heap.size,2,none⟩=some (.string sa):=cell_at HS.out 2
  have r3:w5.cell? ⟨w.heap.size,3,none⟩=some (.slice (some ⟨w3.heap.size,0,none⟩) 1 1):=cell_at HS.out 3
  have r4:w5.cell? ⟨w.heap.size,4,none⟩=some (.slice none 0 0):=cell_at HS.out 4
  have r5:w5.cell? ⟨w.heap.size,5,none⟩=some (.slice none 0 0):=cell_at HS.out 5
  exact bodyPost_ret (v:=.agg #[.int .i64 8,.int .i64 0,.string sa,.slice (some ⟨w3.heap.size,0,none⟩) 1 1,.slice none 0 0,.slice none 0 0]) (by simp[results,Tryz.results137,go_sem,r0,r1,r2,r3,r4,r5]) rfl (blkF_one HSa.out HB.out HR6.out HB3.out.size HR.out)
 ·have HR:=Lib.hid (HX0.out hk)
  have e1:((K:Int)!=7)=true:=by rw[bne_iff_ne];omega
  clear HX1 HX0 hk HH
  have HA3:=HA2
  have HB3:=HB2
  have k0:w2.cell? ⟨w.heap.size,0,none⟩=some (.int .i64 0):=cell_at HA3.out 0
  have f0:w2.frozen? ⟨w.heap.size,0,none⟩=false:=frozen_at HA3.out 0
  have K0:∀o,(w2.alloc o).cell? ⟨w.heap.size,0,none⟩=some (.int .i64 0):=fun o=>cell_at (alloc_at HA3.out o) 0
  have F0:∀o,(w2.alloc o).frozen? ⟨w.heap.size,0,none⟩=false:=fun o=>frozen_at (alloc_at HA3.out o) 0
  have k1:w2.cell? ⟨w.heap.size,1,none⟩=some (.int .i64 0):=cell_at HA3.out 1
  have f1:w2.frozen? ⟨w.heap.size,1,none⟩=false:=frozen_at HA3.out 1
  have K1:∀o,(w2.alloc o).cell? ⟨w.heap.size,1,none⟩=some (.int .i64 0):=fun o=>cell_at (alloc_at HA3.out o) 1
  have F1:∀o,(w2.alloc o).frozen? ⟨w.heap.size,1,none⟩=false:=fun o=>frozen_at (alloc_at HA3.out o) 1
  have k2:w2.cell? ⟨w.heap.size,2,none⟩=some (.string ⟨#[]⟩):=cell_at HA3.out 2
  have f2:w2.frozen? ⟨w.heap.size,2,none⟩=false:=frozen_at HA3.out 2
  have K2:∀o,(w2.alloc o).cell? ⟨w.heap.size,2,none⟩=some (.string ⟨#[]⟩):=fun o=>cell_at (alloc_at HA3.out o) 2
  have F2:∀o,(w2.alloc o).frozen? ⟨w.heap.size,2,none⟩=false:=fun o=>frozen_at (alloc_at HA3.out o) 2
  have k3:w2.cell? ⟨w.heap.size,3,none⟩=some (.slice none 0 0):=cell_at HA3.out 3
  have f3:w2.frozen? ⟨w.heap.size,3,none⟩=false:=frozen_at HA3.out 3
  have K3:∀o,(w2.alloc o).cell? ⟨w.heap.size,3,none⟩=some (.slice none 0 0):=fun o=>cell_at (alloc_at HA3.out o) 3
  have F3:∀o,(w2.alloc o).frozen? ⟨w.heap.size,3,none⟩=false:=fun o=>frozen_at (alloc_at HA3.out o) 3
  have k4:w2.cell? ⟨w.heap.size,4,none⟩=some (.slice none 0 0):=cell_at HA3.out 4
  have f4:w2.frozen? ⟨w.heap.size,4,none⟩=false:=frozen_at HA3.out 4
  have K4:∀o,(w2.alloc o).cell? ⟨w.heap.size,4,none⟩=some (.slice none 0 0):=fun o=>cell_at (alloc_at HA3.out o) 4
  have F4:∀o,(w2.alloc o).frozen? ⟨w.heap.size,4,none⟩=false:=fun o=>frozen_at (alloc_at HA3.out o) 4
  have k5:w2.cell? ⟨w.heap.size,5,none⟩=some (.slice none 0 0):=cell_at HA3.out 5
  have f5:w2.frozen? ⟨w.heap.size,5,none⟩=false:=frozen_at HA3.out 5
  have K5:∀o,(w2.alloc o).cell? ⟨w.heap.size,5,none⟩=some (.slice none 0 0):=fun o=>cell_at (alloc_at HA3.out o) 5
  have F5:∀o,(w2.alloc o).frozen? ⟨w.heap.size,5,none⟩=false:=fun o=>frozen_at (alloc_at HA3.out o) 5
  go_wp2_with fail
  have HS:=Lib.hid (set6 (u0:=.int .i64 0) (u1:=.int .i64 0) (u2:=.string ⟨#[]⟩) (u3:=.slice none 0 0) (u4:=.slice none 0 0) (u5:=.slice none 0 0) HA3.out)
  have HB:=Lib.hid (set6_below HB3.out (Nat.le_refl _) (.int .i64 0) (.int .i64 0) (.string ⟨#[]⟩) (.slice none 0 0) (.slice none 0 0) (.slice none 0 0))
  generalize ((((((w2.setCell ⟨w.heap.size,0,none⟩ (.int .i64 0)).setCell ⟨w.heap.size,1,none⟩ (.int .i64 0)).setCell ⟨w.heap.size,2,none⟩ (.string ⟨#[]⟩)).setCell ⟨w.heap.size,3,none⟩ (.slice none 0 0)).setCell ⟨w.heap.size,4,none⟩ (.slice none 0 0)).setCell ⟨w.heap.size,5,none⟩ (.slice none 0 0))=w5 at *
  have r0:w5.cell? ⟨w.heap.size,0,none⟩=some (.int .i64 0):=cell_at HS.out 0
  have r1:w5.cell? ⟨w.heap.size,1,none⟩=some (.int .i64 0):=cell_at HS.out 1
  have r2:w5.cell? ⟨w.heap.size,2,none⟩=some (.string ⟨#[]⟩):=cell_at HS.out 2
  have r3:w5.cell? ⟨w.heap.size,3,none⟩=some (.slice none 0 0):=cell_at HS.out 3
  have r4:w5.cell? ⟨w.heap.size,4,none⟩=some (.slice none 0 0):=cell_at HS.out 4
  have r5:w5.cell? ⟨w.heap.size,5,none⟩=some (.slice none 0 0):=cell_at HS.out 5
  exact bodyPost_ret (v:=.agg #[.int .i64 0,.int .i64 0,.string ⟨#[]⟩,.slice none 0 0,.slice none 0 0,.slice none 0 0]) (by simp[results,Tryz.results137,go_sem,r0,r1,r2,r3,r4,r5]) rfl (blkF_zero HB.out HR.out)
end Pa
end Go.Proofs.YthpnbialpkkpgaaGreatDoor
