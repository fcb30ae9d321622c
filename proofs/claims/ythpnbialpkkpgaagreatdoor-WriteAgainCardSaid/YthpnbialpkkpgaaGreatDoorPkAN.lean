import Derived.Test.YthpnbialpkkpgaaGreatDoorPkAL
import Derived.Test.YthpnbialpkkpgaaGreatDoorPkAK
import Derived.Deep.RegionHeld3
import Derived.Test.YthpnbialpkkpgaaGreatDoorPkAB
import Derived.Test.YthpnbialpkkpgaaGreatDoorPkL
import Derived.Test.YthpnbialpkkpgaaGreatDoorPkI
set_option linter.unusedVariables false
namespace Go.Proofs.YthpnbialpkkpgaaGreatDoor
namespace Pa
open Go.RowKit
open Tk (S S_of S_list S_size S_toList S_app ret_int eq8 ne8 at_data len_data Rd)
open Sp (Sp Tr ret_bool)
open Bt (TrB KB)
open Cm (Keep alloc_new alloc_at cell_at frozen_at set_at set_other lt_of_at)
open Bk (Tx Bk fenceL spanK itemL dropBlank listL kindOf closes unquote unitem inner parse joinLF define items)
open Ln (run trim jn)
open Kd (E0 NumK StrK)
def er {α:Type} (o:Option α):Nat:=if o.isSome then 0 else 5
def wE (r:Nat):Nat:=if r=0 then 5 else 0
theorem wE_pos {r:Nat} (h:¬r=0):wE r=0:=if_neg h
def rdV (r:Nat):Value:=.agg #[.int .i64 (r:Nat)]
def BlksAns (w:World) (o:Option (List Bk)) (e:Ending) (w':World):Prop:=∃u,e=.returned (.tuple #[u,.int .i64 (er o:Nat)])∧Fr TrB w.heap.size w' u (o.getD [])∧Below w.heap.size w w'
def BlocksC (d:Nat):Prop:=∀(v:Value) (xs:List Tx) (w:World),Rd w v xs→tot xs≤260000→Calls Tryz.prog 64 #[rdV (16-d),v] w (BlksAns w (allE d xs))
def inD (d:Nat) (k:Int) (xs:List Tx):Option Bk:=(allE (d+1) xs).map fun ks=>.mk k 0 [] [] [] ks
def ContC (d:Nat):Prop:=∀(k:Int) (v:Value) (xs:List Tx) (w:World),Rd w v xs→tot xs≤260000→Calls Tryz.prog 134 #[rdV (16-d),.int .i64 k,v] w (BlockAns w (inD d k xs) (er (inD d k xs)))
set_option maxHeartbeats 800000 in
set_option maxRecDepth 100000 in
theorem within_any (r:Nat) (hr:r≤16) (w:World):
  Calls Tryz.prog 165 #[rdV r] w fun e w'=>e=.returned (.tuple #[rdV (r-1),.int .i64 (wE r:Nat)])∧Below w.heap.size w w':=by
 unfold rdV
 have HA0:=alloc_at (alloc_new w (.cells #[.int .i64 (r:Nat)] 80)) (.cells #[.int .i64 0] 80)
 have HA2:Hid ((((w.alloc (.cells #[.int .i64 (r:Nat)] 80)).alloc (.cells #[.int .i64 0] 80)).heap[(w.alloc (.cells #[.int .i64 (r:Nat)] 80)).heap.size]?)=some (.cells #[.int .i64 0] 80 (0,0))):=Lib.hid (alloc_new _ _)
 have hz1:(w.alloc (.cells #[.int .i64 (r:Nat)] 80)).heap.size=w.heap.size+1:=by simp
 rw[hz1]at HA2
 have HB:=Lib.hid (((Below.refl w.heap.size w).alloc (Nat.le_refl _) (.cells #[.int .i64 (r:Nat)] 80)).alloc (by simp) (.cells #[.int .i64 0] 80))
 have HA:=Lib.hid HA0
 clear HA0
 go_enter Tryz.func165,Tryz.ntmps165
 go_upto_region 1 with fail
 try rw[hz1]
 clear hz1
 generalize (w.alloc (.cells #[.int .i64 (r:Nat)] 80)).alloc (.cells #[.int .i64 0] 80)=w1 at *
 have c0:w1.cell? ⟨w.heap.size,0,none⟩=some (.int .i64 (r:Nat)):=cell_at HA.out 0
 have d0:w1.cell? ⟨w.heap.size+1,0,none⟩=some (.int .i64 0):=cell_at HA2.out 0
 have f0:w1.frozen? ⟨w.heap.size+1,0,none⟩=false:=frozen_at HA2.out 0
 by_cases h0:r=0
 ·subst h0
  have c0':w1.cell? ⟨w.heap.size,0,none⟩=some (.int .i64 0):=c0
  clear c0
  go_wp2_with fail
  have HS:=Lib.hid (set_at HA2.out 0 (.int .i64 0))
  have HB9:=Lib.hid (HB.out.setCell (p:=⟨w.heap.size+1,0,none⟩) (Nat.le_succ _) (.int .i64 0))
  generalize w1.setCell ⟨w.heap.size+1,0,none⟩ (.int .i64 0)=w9 at *
  have r0:w9.cell? ⟨w.heap.size+1,0,none⟩=some (.int .i64 0):=cell_at HS.out 0
  exact bodyPost_ret (v:=.tuple #[.agg #[.int .i64 0],.int .i64 5]) (by simp[results,Tryz.results165,go_sem,r0]) rfl ⟨rfl,HB9.out⟩
 ·have e1:((r:Int)==0)=false:=by rw[beq_eq_false_iff_ne];omega
  obtain⟨q,hq⟩:∃q,q=r-1:=⟨_,rfl⟩
  have hw1:IntKind.i64.wrap ((r:Int)-1)=(q:Int):=by rw[IntKind.wrap_i64];omega
  have HQ:Hid (r-1=q∧¬r=0):=Lib.hid ⟨hq.symm,h0⟩
  clear hq h0
  go_wp2_with fail
  have HS:=Lib.hid (set_at HA2.out 0 (.int .i64 (q:Nat)))
  have HB9:=Lib.hid (HB.out.setCell (p:=⟨w.heap.size+1,0,none⟩) (Nat.le_succ _) (.int .i64 (q:Nat)))
  generalize w1.setCell ⟨w.heap.size+1,0,none⟩ (.int .i64 (q:Nat))=w9 at *
  have r0:w9.cell? ⟨w.heap.size+1,0,none⟩=some (.int .i64 (q:Nat)):=cell_at HS.out 0
  exact bodyPost_ret (v:=.tuple #[.agg #[.int .i64 (q:Nat)],.int .i64 0]) (by simp[results,Tryz.results165,go_sem,r0]) rfl ⟨by rw[wE_pos HQ.out.2,HQ.out.1];rfl,HB9.out⟩
theorem ans_none' {w w9:World} {o:Option Bk} {n:Nat} (HV:o=none) (HP:n=5) (HB:Below w.heap.size w w9):
  BlockAns w o n (.returned (.tuple #[.agg #[.int .i64 0,.int .i64 0,.string ⟨#[]⟩,.slice none 0 0,.slice none 0 0,.slice none 0 0],.int .i64 5])) w9:=by
 subst HV;subst HP
 exact⟨_,_,_,rfl,HB,fun w'' _=>kb_nil w'' 0 0 []⟩
set_option maxHeartbeats 3200000 in
set_option maxRecDepth 100000 in
theorem contC_any (d:Nat) (hd:d≤16) (HD:d+1≤16→BlocksC (d+1)):ContC d:=by
 intro k v xs w hr ht
 obtain⟨ao,ca,rfl⟩:=hr.len
 have HRd:=Lib.hid (fun w' (h:Below w.heap.size w w')=>hr.below h)
 obtain⟨r,hrr⟩:∃r,16-d=r:=⟨_,rfl⟩
 have HW:=Lib.hid (fun w'=>within_any r (by omega) w')
 have H0:Hid (r=0→allE (d+1) xs=none):=Lib.hid (fun h=>allE_deep (by omega) xs)
 have HBk:Hid (r≠0→∀w',Below w.heap.size w w'→Calls Tryz.prog 64 #[rdV (r-1),.slice ao xs.length ca] w' (BlksAns w' (allE (d+1) xs))):=Lib.hid (fun h w' hb=>by
  have h2:=HD (by omega) _ xs w' (HRd.out w' hb) ht
  rw[show 16-(d+1)=r-1 by omega]at h2
  exact h2)
 unfold inD
 rw[hrr]
 unfold rdV at *
 have hri:(r:Int)≤16:=by omega
 generalize allE (d+1) xs=O at *
 clear hrr HD hr ht HRd hd
 have HA0:=alloc_at (alloc_new w (.cells #[.int .i64 (r:Nat)] 80)) (.cells #[.int .i64 0,.int .i64 0,.string ⟨#[]⟩,.slice none 0 0,.slice none 0 0,.slice none 0 0] 46)
 have HA2:Hid ((((w.alloc (.cells #[.int .i64 (r:Nat)] 80)).alloc (.cells #[.int .i64 0,.int .i64 0,.string ⟨#[]⟩,.slice none 0 0,.slice none 0 0,.slice none 0 0] 46)).heap[(w.alloc (.cells #[.int .i64 (r:Nat)] 80)).heap.size]?)=some (.cells #[.int .i64 0,.int .i64 0,.string ⟨#[]⟩,.slice none 0 0,.slice none 0 0,.slice none 0 0] 46 (0,0))):=Lib.hid (alloc_new _ _)
 have hz1:(w.alloc (.cells #[.int .i64 (r:Nat)] 80)).heap.size=w.heap.size+1:=by simp
 rw[hz1]at HA2
 have HB1:=Lib.hid (((Below.refl w.heap.size w).alloc (Nat.le_refl _) (.cells #[.int .i64 (r:Nat)] 80)).alloc (by simp) (.cells #[.int .i64 0,.int .i64 0,.string ⟨#[]⟩,.slice none 0 0,.slice none 0 0,.slice none 0 0] 46))
 have HA1:=Lib.hid HA0
 clear HA0
 go_enter Tryz.func134,Tryz.ntmps134
 go_upto_region 1 with fail
 try rw[hz1]
 clear hz1
 generalize (w.alloc (.cells #[.int .i64 (r:Nat)] 80)).alloc (.cells #[.int .i64 0,.int .i64 0,.string ⟨#[]⟩,.slice none 0 0,.slice none 0 0,.slice none 0 0] 46)=w1 at *
 have c0:w1.cell? ⟨w.heap.size,0,none⟩=some (.int .i64 (r:Nat)):=cell_at HA1.out 0
 by_cases h0:r=0
 ·have HO:=Lib.hid (H0.out h0)
  subst h0
  have HW0:Hid (∀w',Calls Tryz.prog 165 #[.agg #[.int .i64 ((0:Nat):Int)]] w' fun e w''=>e=.returned (.tuple #[.agg #[.int .i64 0],.int .i64 5])∧Below w'.heap.size w' w''):=Lib.hid (fun w'=>HW.out w')
  have hc0:((0:Nat):Int)=0:=rfl
  rw[hc0]at c0
  simp only[hc0]at HW0
  clear HW H0 HBk hc0
  go_wp2_with fail
  refine(HW0.out _).mono ?_
  rintro e w2 ⟨rfl,b2⟩
  have HR2:Hid (w2.heap[w.heap.size+1]? = some (.cells #[.int .i64 0,.int .i64 0,.string ⟨#[]⟩,.slice none 0 0,.slice none 0 0,.slice none 0 0] 46 (0,0))):=Lib.hid ((b2.block _ (lt_of_at HA2.out)).trans HA2.out)
  have HB2:=Lib.hid (HB1.out.trans (b2.mono HB1.out.size))
  have HR3:Hid ((w2.alloc (.cells #[.int .i64 0] 80)).heap[w.heap.size+1]? = some (.cells #[.int .i64 0,.int .i64 0,.string ⟨#[]⟩,.slice none 0 0,.slice none 0 0,.slice none 0 0] 46 (0,0))):=Lib.hid (alloc_at HR2.out _)
  have HB3:=Lib.hid (HB2.out.alloc HB2.out.size (.cells #[.int .i64 0] 80))
  clear b2 HW0 HA1 HA2 HB1 HB2
  go_upto_region 2 with fail
  generalize w2.alloc (.cells #[.int .i64 0] 80)=w3 at *
  have k0:w3.cell? ⟨w.heap.size+1,0,none⟩=some (.int .i64 0):=cell_at HR3.out 0
  have f0:w3.frozen? ⟨w.heap.size+1,0,none⟩=false:=frozen_at HR3.out 0
  have k1:w3.cell? ⟨w.heap.size+1,1,none⟩=some (.int .i64 0):=cell_at HR3.out 1
  have f1:w3.frozen? ⟨w.heap.size+1,1,none⟩=false:=frozen_at HR3.out 1
  have k2:w3.cell? ⟨w.heap.size+1,2,none⟩=some (.string ⟨#[]⟩):=cell_at HR3.out 2
  have f2:w3.frozen? ⟨w.heap.size+1,2,none⟩=false:=frozen_at HR3.out 2
  have k3:w3.cell? ⟨w.heap.size+1,3,none⟩=some (.slice none 0 0):=cell_at HR3.out 3
  have f3:w3.frozen? ⟨w.heap.size+1,3,none⟩=false:=frozen_at HR3.out 3
  have k4:w3.cell? ⟨w.heap.size+1,4,none⟩=some (.slice none 0 0):=cell_at HR3.out 4
  have f4:w3.frozen? ⟨w.heap.size+1,4,none⟩=false:=frozen_at HR3.out 4
  have k5:w3.cell? ⟨w.heap.size+1,5,none⟩=some (.slice none 0 0):=cell_at HR3.out 5
  have f5:w3.frozen? ⟨w.heap.size+1,5,none⟩=false:=frozen_at HR3.out 5
  go_wp2_with fail
  have HS:=Lib.hid (Kd.set6 (u0:=.int .i64 0) (u1:=.int .i64 0) (u2:=.string ⟨#[]⟩) (u3:=.slice none 0 0) (u4:=.slice none 0 0) (u5:=.slice none 0 0) HR3.out)
  have HB9:=Lib.hid (Kd.set6_below HB3.out (Nat.le_succ _) (.int .i64 0) (.int .i64 0) (.string ⟨#[]⟩) (.slice none 0 0) (.slice none 0 0) (.slice none 0 0))
  have HK9:=Lib.hid (fun B hB=>set6_keep (w:=w3) (b:=w.heap.size+1) (B:=B) hB (.int .i64 0) (.int .i64 0) (.string ⟨#[]⟩) (.slice none 0 0) (.slice none 0 0) (.slice none 0 0))
  generalize ((((((w3.setCell ⟨w.heap.size+1,0,none⟩ (.int .i64 0)).setCell ⟨w.heap.size+1,1,none⟩ (.int .i64 0)).setCell ⟨w.heap.size+1,2,none⟩ (.string ⟨#[]⟩)).setCell ⟨w.heap.size+1,3,none⟩ (.slice none 0 0)).setCell ⟨w.heap.size+1,4,none⟩ (.slice none 0 0)).setCell ⟨w.heap.size+1,5,none⟩ (.slice none 0 0))=w9 at *
  have r0:w9.cell? ⟨w.heap.size+1,0,none⟩=some (.int .i64 0):=cell_at HS.out 0
  have r1:w9.cell? ⟨w.heap.size+1,1,none⟩=some (.int .i64 0):=cell_at HS.out 1
  have r2:w9.cell? ⟨w.heap.size+1,2,none⟩=some (.string ⟨#[]⟩):=cell_at HS.out 2
  have r3:w9.cell? ⟨w.heap.size+1,3,none⟩=some (.slice none 0 0):=cell_at HS.out 3
  have r4:w9.cell? ⟨w.heap.size+1,4,none⟩=some (.slice none 0 0):=cell_at HS.out 4
  have r5:w9.cell? ⟨w.heap.size+1,5,none⟩=some (.slice none 0 0):=cell_at HS.out 5
  exact bodyPost_ret (v:=.tuple #[.agg #[.int .i64 0,.int .i64 0,.string ⟨#[]⟩,.slice none 0 0,.slice none 0 0,.slice none 0 0],.int .i64 5]) (by simp[results,Tryz.results134,go_sem,r0,r1,r2,r3,r4,r5]) rfl (by rw[HO.out];exact ans_none' rfl rfl HB9.out)
 ·have HW1:Hid (∀w',Calls Tryz.prog 165 #[.agg #[.int .i64 (r:Nat)]] w' fun e w''=>e=.returned (.tuple #[.agg #[.int .i64 ((r-1:Nat):Int)],.int .i64 0])∧Below w'.heap.size w' w''):=Lib.hid (fun w'=>by
   have h:=HW.out w'
   rw[wE_pos h0]at h
   exact h)
  have HB4:=Lib.hid (HBk.out h0)
  obtain⟨q,hq⟩:∃q,r-1=q:=⟨_,rfl⟩
  rw[hq]at HW1 HB4
  unfold BlksAns at HB4
  clear HW H0 HBk h0 hq
  go_wp2_with fail
  refine(HW1.out _).mono ?_
  rintro e w2 ⟨rfl,b2⟩
  have HR2:Hid (w2.heap[w.heap.size+1]? = some (.cells #[.int .i64 0,.int .i64 0,.string ⟨#[]⟩,.slice none 0 0,.slice none 0 0,.slice none 0 0] 46 (0,0))):=Lib.hid ((b2.block _ (lt_of_at HA2.out)).trans HA2.out)
  have HB2:=Lib.hid (HB1.out.trans (b2.mono HB1.out.size))
  have HR3:Hid ((w2.alloc (.cells #[.int .i64 (q:Nat)] 80)).heap[w.heap.size+1]? = some (.cells #[.int .i64 0,.int .i64 0,.string ⟨#[]⟩,.slice none 0 0,.slice none 0 0,.slice none 0 0] 46 (0,0))):=Lib.hid (alloc_at HR2.out _)
  have HI3:Hid ((w2.alloc (.cells #[.int .i64 (q:Nat)] 80)).heap[w2.heap.size]? = some (.cells #[.int .i64 (q:Nat)] 80 (0,0))):=Lib.hid (alloc_new _ _)
  have HB3:=Lib.hid (HB2.out.alloc HB2.out.size (.cells #[.int .i64 (q:Nat)] 80))
  clear b2 HW1 HA1 HA2 HB1 HB2
  go_upto_region 2 with fail
  generalize w2.alloc (.cells #[.int .i64 (q:Nat)] 80)=w3 at *
  have i0:w3.cell? ⟨w2.heap.size,0,none⟩=some (.int .i64 (q:Nat)):=cell_at HI3.out 0
  go_wp2_with fail
  refine(HB4.out _ HB3.out).mono ?_
  rintro e w4 ⟨u,rfl,hf,b4⟩
  obtain⟨au,cu,rfl⟩:=hf.now.len
  have HF:=Lib.hid hf
  have HR4:Hid (w4.heap[w.heap.size+1]? = some (.cells #[.int .i64 0,.int .i64 0,.string ⟨#[]⟩,.slice none 0 0,.slice none 0 0,.slice none 0 0] 46 (0,0))):=Lib.hid ((b4.block _ (lt_of_at HR3.out)).trans HR3.out)
  have hlt3:=lt_of_at HR3.out
  have hz3:=HB3.out.size
  have HB5:=Lib.hid (HB3.out.trans (b4.mono HB3.out.size))
  clear hf b4 HB4 HR3 HB3 HI3 HR2
  have k0:w4.cell? ⟨w.heap.size+1,0,none⟩=some (.int .i64 0):=cell_at HR4.out 0
  have f0:w4.frozen? ⟨w.heap.size+1,0,none⟩=false:=frozen_at HR4.out 0
  have k1:w4.cell? ⟨w.heap.size+1,1,none⟩=some (.int .i64 0):=cell_at HR4.out 1
  have f1:w4.frozen? ⟨w.heap.size+1,1,none⟩=false:=frozen_at HR4.out 1
  have k2:w4.cell? ⟨w.heap.size+1,2,none⟩=some (.string ⟨#[]⟩):=cell_at HR4.out 2
  have f2:w4.frozen? ⟨w.heap.size+1,2,none⟩=false:=frozen_at HR4.out 2
  have k3:w4.cell? ⟨w.heap.size+1,3,none⟩=some (.slice none 0 0):=cell_at HR4.out 3
  have f3:w4.frozen? ⟨w.heap.size+1,3,none⟩=false:=frozen_at HR4.out 3
  have k4:w4.cell? ⟨w.heap.size+1,4,none⟩=some (.slice none 0 0):=cell_at HR4.out 4
  have f4:w4.frozen? ⟨w.heap.size+1,4,none⟩=false:=frozen_at HR4.out 4
  have k5:w4.cell? ⟨w.heap.size+1,5,none⟩=some (.slice none 0 0):=cell_at HR4.out 5
  have f5:w4.frozen? ⟨w.heap.size+1,5,none⟩=false:=frozen_at HR4.out 5
  cases O with
  |none=>
   have en:(er (none:Option (List Bk)):Int)=5:=rfl
   simp only[en]
   go_wp2_with fail
   have HS:=Lib.hid (Kd.set6 (u0:=.int .i64 0) (u1:=.int .i64 0) (u2:=.string ⟨#[]⟩) (u3:=.slice none 0 0) (u4:=.slice none 0 0) (u5:=.slice none 0 0) HR4.out)
   have HB9:=Lib.hid (Kd.set6_below HB5.out (Nat.le_succ _) (.int .i64 0) (.int .i64 0) (.string ⟨#[]⟩) (.slice none 0 0) (.slice none 0 0) (.slice none 0 0))
   have HK9:=Lib.hid (fun B hB=>set6_keep (w:=w4) (b:=w.heap.size+1) (B:=B) hB (.int .i64 0) (.int .i64 0) (.string ⟨#[]⟩) (.slice none 0 0) (.slice none 0 0) (.slice none 0 0))
   generalize ((((((w4.setCell ⟨w.heap.size+1,0,none⟩ (.int .i64 0)).setCell ⟨w.heap.size+1,1,none⟩ (.int .i64 0)).setCell ⟨w.heap.size+1,2,none⟩ (.string ⟨#[]⟩)).setCell ⟨w.heap.size+1,3,none⟩ (.slice none 0 0)).setCell ⟨w.heap.size+1,4,none⟩ (.slice none 0 0)).setCell ⟨w.heap.size+1,5,none⟩ (.slice none 0 0))=w9 at *
   have r0:w9.cell? ⟨w.heap.size+1,0,none⟩=some (.int .i64 0):=cell_at HS.out 0
   have r1:w9.cell? ⟨w.heap.size+1,1,none⟩=some (.int .i64 0):=cell_at HS.out 1
   have r2:w9.cell? ⟨w.heap.size+1,2,none⟩=some (.string ⟨#[]⟩):=cell_at HS.out 2
   have r3:w9.cell? ⟨w.heap.size+1,3,none⟩=some (.slice none 0 0):=cell_at HS.out 3
   have r4:w9.cell? ⟨w.heap.size+1,4,none⟩=some (.slice none 0 0):=cell_at HS.out 4
   have r5:w9.cell? ⟨w.heap.size+1,5,none⟩=some (.slice none 0 0):=cell_at HS.out 5
   exact bodyPost_ret (v:=.tuple #[.agg #[.int .i64 0,.int .i64 0,.string ⟨#[]⟩,.slice none 0 0,.slice none 0 0,.slice none 0 0],.int .i64 5]) (by simp[results,Tryz.results134,go_sem,r0,r1,r2,r3,r4,r5]) rfl (ans_none' rfl rfl HB9.out)
  |some ks=>
   have en:(er (some ks):Int)=0:=rfl
   simp only[en,Option.getD_some]
   simp only[Option.getD_some]at HF
   go_wp2_with fail
   have HS:=Lib.hid (Kd.set6 (u0:=.int .i64 k) (u1:=.int .i64 0) (u2:=.string ⟨#[]⟩) (u3:=.slice none 0 0) (u4:=.slice none 0 0) (u5:=.slice au ks.length cu) HR4.out)
   have HB9:=Lib.hid (Kd.set6_below HB5.out (Nat.le_succ _) (.int .i64 k) (.int .i64 0) (.string ⟨#[]⟩) (.slice none 0 0) (.slice none 0 0) (.slice au ks.length cu))
   have HK9:=Lib.hid (fun B hB=>set6_keep (w:=w4) (b:=w.heap.size+1) (B:=B) hB (.int .i64 k) (.int .i64 0) (.string ⟨#[]⟩) (.slice none 0 0) (.slice none 0 0) (.slice au ks.length cu))
   generalize ((((((w4.setCell ⟨w.heap.size+1,0,none⟩ (.int .i64 k)).setCell ⟨w.heap.size+1,1,none⟩ (.int .i64 0)).setCell ⟨w.heap.size+1,2,none⟩ (.string ⟨#[]⟩)).setCell ⟨w.heap.size+1,3,none⟩ (.slice none 0 0)).setCell ⟨w.heap.size+1,4,none⟩ (.slice none 0 0)).setCell ⟨w.heap.size+1,5,none⟩ (.slice au ks.length cu))=w9 at *
   have r0:w9.cell? ⟨w.heap.size+1,0,none⟩=some (.int .i64 k):=cell_at HS.out 0
   have r1:w9.cell? ⟨w.heap.size+1,1,none⟩=some (.int .i64 0):=cell_at HS.out 1
   have r2:w9.cell? ⟨w.heap.size+1,2,none⟩=some (.string ⟨#[]⟩):=cell_at HS.out 2
   have r3:w9.cell? ⟨w.heap.size+1,3,none⟩=some (.slice none 0 0):=cell_at HS.out 3
   have r4:w9.cell? ⟨w.heap.size+1,4,none⟩=some (.slice none 0 0):=cell_at HS.out 4
   have r5:w9.cell? ⟨w.heap.size+1,5,none⟩=some (.slice au ks.length cu):=cell_at HS.out 5
   exact bodyPost_ret (v:=.tuple #[.agg #[.int .i64 k,.int .i64 0,.string ⟨#[]⟩,.slice none 0 0,.slice none 0 0,.slice au ks.length cu],.int .i64 ((0:Nat):Int)]) (by simp[results,Tryz.results134,go_sem,r0,r1,r2,r3,r4,r5]) rfl (ans_some (inf:=[]) (n:=0) (p:=0) rfl rfl HB9.out (frRd_nil _ _) (by simp) (frTr_nil _ _) (HF.out.put (HK9.out _ hlt3) hz3))
end Pa
namespace Pa
open Go.RowKit
open Tk (S S_of S_list S_size S_toList S_app ret_int eq8 ne8 at_data len_data Rd)
open Sp (Sp Tr ret_bool)
open Bt (TrB KB)
open Cm (Keep alloc_new alloc_at cell_at frozen_at set_at set_other lt_of_at)
open Bk (Tx Bk fenceL spanK itemL dropBlank listL kindOf closes unquote unitem inner parse joinLF define items)
open Ln (run trim jn)
open Kd (E0 NumK StrK)
def blkAt (d:Nat) (xs:List Tx) (p:Nat × Nat):Option Bk:=match cut xs p.1 p.2 with |[]=>none |s::u=>valB allE d s u
theorem gat_at (d:Nat) (xs:List Tx) (p:Nat × Nat) (r:List (Nat × Nat)):gat d xs (p::r)=after (blkAt d xs p) (gat d xs r):=rfl
def BlockC (d:Nat):Prop:=∀(v:Value) (s:Tx) (u:List Tx) (w:World),Rd w v (s::u)→tot (s::u)≤260000→kindOf E0 s≠1→restB s u=[]→Calls Tryz.prog 100 #[rdV (16-d),v] w (BlockAns w (valB allE d s u) (er (valB allE d s u)))
def BkAt (n B:Nat) (w:World) (o:Option Bk):Prop:=∃vl vs vk,w.heap[n]? = some (.cells #[.int .i64 (bz o).kind,.int .i64 (bz o).level,.string (S (bz o).info),vl,vs,vk] 46 (0,0))∧∀w'',Keep (fun j=>j<B) w w''→KB w'' (bz o,vl,vs,vk)
theorem bkAt_alloc {w3 w4:World} {o:Option Bk} {vl vs vk:Value} (b4:Below w3.drew.heap.size w3.drew w4) (h:∀w'',Keep (fun j=>j<w3.drew.heap.size) w4 w''→KB w'' (bz o,vl,vs,vk)):
  BkAt w4.heap.size w3.heap.size (w4.alloc (.cells #[.int .i64 (bz o).kind,.int .i64 (bz o).level,.string (S (bz o).info),vl,vs,vk] 46)) o∧Below w3.heap.size w3 (w4.alloc (.cells #[.int .i64 (bz o).kind,.int .i64 (bz o).level,.string (S (bz o).info),vl,vs,vk] 46)):=
 ⟨⟨vl,vs,vk,alloc_new w4 _,fun w'' k2=>h w'' (((Keep.refl _ _).alloc _).trans k2)⟩,(((Below.refl w3.heap.size w3).drew).trans b4).alloc b4.size _⟩
theorem bkAt_set {w3 w4:World} {o:Option Bk} {vl vs vk:Value} {z:Obj} (b4:Below (w3.alloc z).drew.heap.size (w3.alloc z).drew w4) (h:∀w'',Keep (fun j=>j<(w3.alloc z).drew.heap.size) w4 w''→KB w'' (bz o,vl,vs,vk)) (hz:w4.heap[w3.heap.size]? = some (.cells #[.int .i64 0,.int .i64 0,.string ⟨#[]⟩,.slice none 0 0,.slice none 0 0,.slice none 0 0] 46 (0,0))):
  BkAt w3.heap.size w3.heap.size ((((((w4.setCell ⟨w3.heap.size,0,none⟩ (.int .i64 (bz o).kind)).setCell ⟨w3.heap.size,1,none⟩ (.int .i64 (bz o).level)).setCell ⟨w3.heap.size,2,none⟩ (.string (S (bz o).info))).setCell ⟨w3.heap.size,3,none⟩ vl).setCell ⟨w3.heap.size,4,none⟩ vs).setCell ⟨w3.heap.size,5,none⟩ vk) o∧
   Below w3.heap.size w3 ((((((w4.setCell ⟨w3.heap.size,0,none⟩ (.int .i64 (bz o).kind)).setCell ⟨w3.heap.size,1,none⟩ (.int .i64 (bz o).level)).setCell ⟨w3.heap.size,2,none⟩ (.string (S (bz o).info))).setCell ⟨w3.heap.size,3,none⟩ vl).setCell ⟨w3.heap.size,4,none⟩ vs).setCell ⟨w3.heap.size,5,none⟩ vk):=by
 have hs:(w3.alloc z).drew.heap.size=w3.heap.size+1:=by simp
 have hb:Below w3.heap.size w3 w4:=(((Below.refl w3.heap.size w3).alloc (Nat.le_refl _) z).drew).trans (b4.mono (by omega))
 refine⟨⟨vl,vs,vk,Kd.set6 hz,fun w'' k2=>h w'' ((set6_keep (by omega) _ _ _ _ _ _).trans (k2.mono (fun j _ hj=>by omega)))⟩,Kd.set6_below hb (Nat.le_refl _) _ _ _ _ _ _⟩
theorem rdp_of {w:World} {v:Value} {l:List (Nat × Nat)} (h:RdP w v l):∃ao cap,v=.slice ao l.length cap:=by
 obtain⟨⟨ao,cap,hv,_⟩,_⟩:=h
 exact⟨ao,cap,hv⟩
set_option maxHeartbeats 3200000 in
set_option maxRecDepth 100000 in
theorem blocksC_any (d:Nat) (hd:d≤16) (HK:BlockC d):BlocksC d:=by
 intro v xs w hr ht
 obtain⟨ao,ca,rfl⟩:=hr.len
 have hlen:xs.length≤260000:=Nat.le_trans (tot_len xs) ht
 obtain⟨r,hrr⟩:∃r,16-d=r:=⟨_,rfl⟩
 have HSp:=Lib.hid (fun w' (hb:Below w.heap.size w w')=>spreadP_any _ xs w' (hr.below hb) ht)
 have HSl:Hid (∀p∈sprB xs,∃v',(∀w',(Instr.slice 23 (.slice ao xs.length ca) (some (.int .i64 (p.1:Nat))) (some (.int .i64 (p.2:Nat))) none).run Tryz.prog w'=.ok v' w')∧∀w',Below w.heap.size w w'→Calls Tryz.prog 100 #[rdV r,v'] w' (BlockAns w' (blkAt d xs p) (er (blkAt d xs p)))):=Lib.hid (fun p hp=>by
  obtain⟨h1,h2,s,u,hc,hk,hre⟩:=spr_good xs _ 0 (Nat.zero_le _) p hp
  obtain⟨v',hs,hrd⟩:=rd_slice_run hr p.1 p.2 (by omega) h2 (by omega)
  refine⟨v',hs,fun w' hb=>?_⟩
  have hR:Rd w' v' (s::u):=by rw[←hc];exact hrd w' hb
  have hT:tot (s::u)≤260000:=by rw[←hc];exact Nat.le_trans (tot_cut xs _ _) ht
  have h:=HK v' s u w' hR hT hk hre
  have e:blkAt d xs p=valB allE d s u:=by unfold blkAt;rw[hc]
  rw[hrr,←e]at h
  exact h)
 have hps:(sprB xs).length≤260000:=by have:=rise_len (Nat.zero_le _) (sprB_rise xs);omega
 rw[all_gat d hd xs,hrr]
 have HG:Hid (∀p r,gat d xs (p::r)=after (blkAt d xs p) (gat d xs r)):=Lib.hid (gat_at d xs)
 have HG0:Hid (gat d xs []=some []):=Lib.hid rfl
 generalize sprB xs=ps at *
 generalize gat d xs=G at *
 generalize blkAt d xs=K at *
 obtain⟨X,hX⟩:∃X,G ps=X:=⟨_,rfl⟩
 have H0:Hid (X=(G (ps.drop 0)).map ((([]:List (Bk × Value × Value × Value)).map (·.1))++·)):=Lib.hid (by
  rw[List.drop_zero,←hX]
  cases G ps<;>rfl)
 rw[hX]
 unfold rdV at *
 have HA1:=Lib.hid (alloc_new w (.cells #[.int .i64 (r:Nat)] 80))
 have HB1:=Lib.hid ((Below.refl w.heap.size w).alloc (Nat.le_refl _) (.cells #[.int .i64 (r:Nat)] 80))
 unfold SprAns at HSp
 clear hX hr ht HK hrr hd
 go_enter Tryz.func64,Tryz.ntmps64
 go_wp2_with fail
 generalize w.alloc (.cells #[.int .i64 (r:Nat)] 80)=w1 at *
 refine(HSp.out _ HB1.out).mono ?_
 rintro e w2 ⟨vp,rfl,hrp,b2⟩
 obtain⟨ap,cp,rfl⟩:=rdp_of hrp
 have HA2:Hid (w2.heap[w.heap.size]? = some (.cells #[.int .i64 (r:Nat)] 80 (0,0))):=Lib.hid ((b2.block _ (lt_of_at HA1.out)).trans HA1.out)
 have HB2:=Lib.hid (HB1.out.trans (b2.mono HB1.out.size))
 have HP:=Lib.hid hrp
 clear hrp b2 HSp HA1 HB1
 go_wp2_with fail
 go_loopw [6,14] (fun vo iv wr=>∃(j:Nat) (qs:List (Bk × Value × Value × Value)),j≤ps.length∧qs.length≤j∧iv=.int .i64 j∧Hid (OutB w2.heap.size wr vo qs)∧Hid (Below w2.heap.size w2 wr)∧Hid (X=(G (ps.drop j)).map (qs.map (·.1)++·))) (fun _ iv _=>ps.length-(intOf iv).toNat)
 case atStart=>exact⟨0,[],Nat.zero_le _,Nat.le_refl _,rfl,Lib.hid (OutG.nil (Nat.le_refl _)),Lib.hid (Below.refl _ _),H0⟩
 case round=>
  clear H0
  obtain⟨j,qs,hj,hqs,rfl,HO,HB,HN⟩:=hrel
  by_cases hlt:j<ps.length
  ·have hji:(j:Int)<(ps.length:Int):=by omega
   obtain⟨bp,op,ap',cp',h1,h2,c0,c1⟩:=RdP.at ⟨HP.out.1.below HB.out,HP.out.2⟩ j hlt
   simp only[Value.slice.injEq,true_and]at h1
   obtain⟨rfl,rfl⟩:=h1
   subst h2
   obtain⟨vs,hsl,hbk⟩:=HSl.out ps[j] (List.getElem_mem hlt)
   have HBk:=Lib.hid hbk
   have HSl1:=Lib.hid hsl
   have hdr:ps.drop j=ps[j]::ps.drop (j+1):=List.drop_eq_getElem_cons hlt
   have HN2:Hid (X=(after (K ps[j]) (G (ps.drop (j+1)))).map (qs.map (·.1)++·)):=Lib.hid (by rw[HN.out,hdr,HG.out])
   clear hbk hdr HN hsl
   generalize K ps[j]=o at *
   generalize ps[j]=pq at *
   obtain⟨p,q⟩:=pq
   simp only at c0 c1 HBk HSl1
   have HAr:Hid (wr.heap[w.heap.size]? = some (.cells #[.int .i64 (r:Nat)] 80 (0,0))):=Lib.hid ((HB.out.block _ (lt_of_at HA2.out)).trans HA2.out)
   have HP3:=Lib.hid (alloc_new wr (.cells #[.int .i64 (p:Nat),.int .i64 (q:Nat)] 41))
   have HR3:=Lib.hid (alloc_at HAr.out (.cells #[.int .i64 (p:Nat),.int .i64 (q:Nat)] 41))
   have HB3:=Lib.hid (HB.out.alloc HB.out.size (.cells #[.int .i64 (p:Nat),.int .i64 (q:Nat)] 41))
   have HO3:Hid (OutB w2.heap.size (wr.alloc (.cells #[.int .i64 (p:Nat),.int .i64 (q:Nat)] 41)) _ qs):=Lib.hid (OutG.go HO.out ((Keep.refl _ _).alloc _))
   go_upto_region 5 with fail
   generalize wr.alloc (.cells #[.int .i64 (p:Nat),.int .i64 (q:Nat)] 41)=w3 at *
   have HBk3:Hid (∀w',Below w3.heap.size w3 w'→Calls Tryz.prog 100 #[.agg #[.int .i64 (r:Nat)],vs] w' (BlockAns w' o (er o))):=Lib.hid (fun w' hb=>HBk.out w' (HB2.out.trans ((HB3.out.trans (hb.mono HB3.out.size)).mono HB2.out.size)))
   clear HBk HB HO HAr c0 c1 HSl HP
   unfold BlockAns at HBk3
   go_cut [9,10,14]from 14 to 36 (fun bv ev jv wx=>∃n,bv=.pointer (some ⟨n,0,none⟩)∧ev=.int .i64 (er o:Nat)∧jv=.int .i64 j∧Hid (BkAt n w3.heap.size wx o∧Below w3.heap.size w3 wx))
   case first=>
    have HS:Hid (∀W:World,Keep (fun _=>False) w3 W→W.cell? ⟨w.heap.size,0,none⟩=some (.int .i64 (r:Nat))∧W.cell? ⟨wr.heap.size,0,none⟩=some (.int .i64 (p:Nat))∧W.cell? ⟨wr.heap.size,1,none⟩=some (.int .i64 (q:Nat))):=Lib.hid (fun W hW=>by
     have a0:=hW.at HR3.out (fun h=>h)
     have a1:=hW.at HP3.out (fun h=>h)
     exact⟨cell_at a0 0,cell_at a1 0,cell_at a1 1⟩)
    have hsl:=HSl1.out
    have s0:=(HS.out w3 (Keep.refl _ _)).1
    have s1:=(HS.out w3 (Keep.refl _ _)).2.1
    have s2:=(HS.out w3 (Keep.refl _ _)).2.2
    clear HR3 HP3 HO3 HG HG0 HN2 HSl1
    go_region_held3 (fun W=>W.cell? ⟨w.heap.size,0,none⟩=some (.int .i64 (r:Nat))∧W.cell? ⟨wr.heap.size,0,none⟩=some (.int .i64 (p:Nat))∧W.cell? ⟨wr.heap.size,1,none⟩=some (.int .i64 (q:Nat)))
     (with_reducible exact HS.out _ (by first |exact Keep.refl _ _ |exact(Keep.refl _ _).drew |exact((Keep.refl _ _).alloc _).drew |exact Keep.trans (Keep.refl _ _).drew (Keep.of_below (by assumption))|exact(Keep.trans (Keep.refl _ _).drew (Keep.of_below (by assumption))).alloc _ |exact(Keep.trans ((Keep.refl _ _).alloc _).drew (Keep.of_below (by assumption)))|exact(((((((Keep.trans ((Keep.refl _ _).alloc _).drew (Keep.of_below (by assumption))).setCell (Or.inr (Nat.le_refl _)) _).setCell (Or.inr (Nat.le_refl _)) _).setCell (Or.inr (Nat.le_refl _)) _).setCell (Or.inr (Nat.le_refl _)) _).setCell (Or.inr (Nat.le_refl _)) _).setCell (Or.inr (Nat.le_refl _)) _)))
     (first
      |(go_at_call 100;refine(HBk3.out _ ((Below.refl _ _).drew)).mono ?_;rintro e w4 ⟨vl,vs',vk,rfl,b4,hkb⟩;have hkb0:=hkb w4 (Keep.refl _ _);obtain⟨al,cl,hvl⟩:=hkb0.rd.len;obtain⟨as',cs,hvs⟩:=hkb0.sp.len;obtain⟨ak,ck,hvk⟩:=hkb0.tr.len;simp only at hvl hvs hvk;subst hvl;subst hvs;subst hvk;have HKB:=Lib.hid hkb;clear hkb hkb0)
      |(go_at_call 100;refine(HBk3.out _ (((Below.refl _ _).alloc (Nat.le_refl _) (.cells #[.int .i64 0,.int .i64 0,.string ⟨#[]⟩,.slice none 0 0,.slice none 0 0,.slice none 0 0] 46)).drew)).mono ?_;rintro e w4 ⟨vl,vs',vk,rfl,b4,hkb⟩;have hkb0:=hkb w4 (Keep.refl _ _);obtain⟨al,cl,hvl⟩:=hkb0.rd.len;obtain⟨as',cs,hvs⟩:=hkb0.sp.len;obtain⟨ak,ck,hvk⟩:=hkb0.tr.len;simp only at hvl hvs hvk;subst hvl;subst hvs;subst hvk;have HKB:=Lib.hid hkb;clear hkb hkb0;have HZ:Hid (w4.heap[w3.heap.size]? = some (.cells #[.int .i64 0,.int .i64 0,.string ⟨#[]⟩,.slice none 0 0,.slice none 0 0,.slice none 0 0] 46 (0,0))):=Lib.hid ((b4.block _ (by simp)).trans (alloc_new w3 _));have z0:w4.cell? ⟨w3.heap.size,0,none⟩=some (.int .i64 0):=cell_at HZ.out 0;have y0:w4.frozen? ⟨w3.heap.size,0,none⟩=false:=frozen_at HZ.out 0;have z1:w4.cell? ⟨w3.heap.size,1,none⟩=some (.int .i64 0):=cell_at HZ.out 1;have y1:w4.frozen? ⟨w3.heap.size,1,none⟩=false:=frozen_at HZ.out 1;have z2:w4.cell? ⟨w3.heap.size,2,none⟩=some (.string ⟨#[]⟩):=cell_at HZ.out 2;have y2:w4.frozen? ⟨w3.heap.size,2,none⟩=false:=frozen_at HZ.out 2;have z3:w4.cell? ⟨w3.heap.size,3,none⟩=some (.slice none 0 0):=cell_at HZ.out 3;have y3:w4.frozen? ⟨w3.heap.size,3,none⟩=false:=frozen_at HZ.out 3;have z4:w4.cell? ⟨w3.heap.size,4,none⟩=some (.slice none 0 0):=cell_at HZ.out 4;have y4:w4.frozen? ⟨w3.heap.size,4,none⟩=false:=frozen_at HZ.out 4;have z5:w4.cell? ⟨w3.heap.size,5,none⟩=some (.slice none 0 0):=cell_at HZ.out 5;have y5:w4.frozen? ⟨w3.heap.size,5,none⟩=false:=frozen_at HZ.out 5))
    ·go_wp2_with fail
     go_meet
     exact⟨_,rfl,rfl,rfl,Lib.hid (bkAt_alloc b4 HKB.out)⟩
    ·go_wp2_with fail
     go_meet
     exact⟨_,rfl,rfl,rfl,Lib.hid (bkAt_set b4 HKB.out HZ.out)⟩
   case rest=>
    obtain⟨n,rfl,rfl,rfl,HX⟩:=hcut
    obtain⟨⟨vl,vs',vk,hA,hkb⟩,bX⟩:=HX.out
    have hkb0:=hkb wc (Keep.refl _ _)
    obtain⟨al,cl,hvl⟩:=hkb0.rd.len
    obtain⟨as',cs,hvs⟩:=hkb0.sp.len
    obtain⟨ak,ck,hvk⟩:=hkb0.tr.len
    simp only at hvl hvs hvk
    subst hvl;subst hvs;subst hvk
    have HKB:=Lib.hid hkb
    have k0:=cell_at hA 0
    have k1:=cell_at hA 1
    have k2:=cell_at hA 2
    have k3:=cell_at hA 3
    have k4:=cell_at hA 4
    have k5:=cell_at hA 5
    have HBc:=Lib.hid (HB3.out.trans (bX.mono HB3.out.size))
    have HOc:Hid (OutB w2.heap.size wc _ qs):=Lib.hid (OutG.go HO3.out (Keep.of_below bX))
    have hown:Hid (∀g,(Value.ownBlock _)=some g→g<w3.heap.size):=Lib.hid (fun g hg=>(OutG.block HO3.out g hg).2)
    have hz3:=HB3.out.size
    clear hkb hkb0 hA bX HX HBk3 HO3 HSl1 HP3 HR3 HB3
    cases o with
    |none=>
     have HR:Hid (X=none):=Lib.hid (by rw[HN2.out];rfl)
     have en:(er (none:Option Bk):Int)=5:=rfl
     rw[en]
     clear HN2 HKB hown HOc en
     go_wp2_with fail
     go_ret2
     exact⟨_,by rw[HR.out];rfl,by rw[HR.out];exact frB_nil _ _,HB2.out.trans (HBc.out.mono HB2.out.size)⟩
    |some b=>
     have HN3:Hid (X=(G (ps.drop (j+1))).map ((qs++[(b,Value.bool false,Value.bool false,Value.bool false)]).map (·.1)++·)):=Lib.hid (by
      rw[HN2.out,after]
      cases G (ps.drop (j+1))with
      |none=>rfl
      |some r=>simp)
     have en:(er (some b):Int)=0:=rfl
     have zb:bz (some b)=b:=rfl
     rw[zb]at HKB k0 k1 k2 k3 k4 k5
     rw[en]
     simp only[List.getElem?_toArray,List.getElem?_cons_zero,List.getElem?_cons_succ]at k0 k1 k2 k3 k4 k5
     generalize hCs:(#[Value.int .i64 b.kind,.int .i64 b.level,.string (S b.info),.slice al b.lines.length cl,.slice as' b.spans.length cs,.slice ak b.kids.length ck]:Array Value)=Cs
     obtain⟨v5,w5,hr5,ho5,hk5⟩:=OutB.push HOc.out (x:=(b,.slice al b.lines.length cl,.slice as' b.spans.length cs,.slice ak b.kids.length ck)) (fun w' k2=>HKB.out w' (k2.mono (fun g _ hg=>hg.elim (fun h=>Nat.lt_of_lt_of_le h hz3) (fun h=>hown.out g h.symm)))) (by omega)
     have HB5:=Lib.hid (HBc.out.trans (OutG.below HOc.out hk5))
     have HO5:=Lib.hid ho5
     have HN5:Hid (X=(G (ps.drop (j+1))).map ((qs++[(b,Value.slice al b.lines.length cl,Value.slice as' b.spans.length cs,Value.slice ak b.kids.length ck)]).map (·.1)++·)):=Lib.hid (by rw[HN3.out,List.map_append,List.map_append];rfl)
     simp only[hCs]at hr5
     subst hCs
     have Hq5:Hid ((qs++[(b,Value.slice al b.lines.length cl,Value.slice as' b.spans.length cs,Value.slice ak b.kids.length ck)]).length≤j+1):=Lib.hid (by rw[List.length_append];simp;omega)
     clear HN3 zb ho5 hk5 HN2 HKB hown en hz3 HOc
     go_wp2_with (at_builtin;refine Lib.wpList_append_run _ rfl _ _ _ _ rfl _ _ rfl rfl _ _ (hr5 _) ?_)
     go_roundw
     case rel=>exact⟨j+1,_,by omega,Hq5.out,by go_num,HO5,HB5,HN5⟩
     case measure=>simp[intOf]<;>omega
  ·obtain rfl:j=ps.length:=by omega
   have HR:Hid (X=some (qs.map (·.1))):=Lib.hid (by rw[HN.out,List.drop_length,HG0.out];simp)
   clear HN hlt
   go_wp2_with fail
   go_ret2
   exact⟨_,by rw[HR.out];rfl,by rw[HR.out];exact(OutB.fresh HO.out).mono HB2.out.size,HB2.out.trans (HB.out.mono HB2.out.size)⟩
end Pa
namespace Pa
open Go.RowKit
open Tk (S S_of S_list S_size S_toList S_app ret_int eq8 ne8 at_data len_data Rd)
open Sp (Sp Tr ret_bool)
open Bt (TrB KB)
open Cm (Keep alloc_new alloc_at cell_at frozen_at set_at set_other lt_of_at)
open Bk (Tx Bk fenceL spanK itemL dropBlank listL kindOf closes unquote unitem inner parse joinLF define items)
open Ln (run trim jn)
open Kd (E0 NumK StrK uiT)
theorem bkAt_allocG {w3 w4:World} {B B':Nat} {o:Option Bk} {vl vs vk:Value} (hB:B≤B') (hb:Below B w3 w4) (hs:B≤w4.heap.size) (h:∀w'',Keep (fun j=>j<B') w4 w''→KB w'' (bz o,vl,vs,vk)):
  BkAt w4.heap.size B (w4.alloc (.cells #[.int .i64 (bz o).kind,.int .i64 (bz o).level,.string (S (bz o).info),vl,vs,vk] 46)) o∧Below B w3 (w4.alloc (.cells #[.int .i64 (bz o).kind,.int .i64 (bz o).level,.string (S (bz o).info),vl,vs,vk] 46)):=
 ⟨⟨vl,vs,vk,alloc_new w4 _,fun w'' k2=>h w'' (((Keep.refl _ _).alloc _).trans (k2.mono (fun j _ hj=>Nat.lt_of_lt_of_le hj hB)))⟩,hb.alloc hs _⟩
theorem bkAt_setG {w3 w4:World} {B B' n:Nat} {o:Option Bk} {vl vs vk:Value} (hB:B≤B') (hn:B≤n) (hn':n<B') (hb:Below B w3 w4) (h:∀w'',Keep (fun j=>j<B') w4 w''→KB w'' (bz o,vl,vs,vk)) (hz:w4.heap[n]? = some (.cells #[.int .i64 0,.int .i64 0,.string ⟨#[]⟩,.slice none 0 0,.slice none 0 0,.slice none 0 0] 46 (0,0))):
  BkAt n B ((((((w4.setCell ⟨n,0,none⟩ (.int .i64 (bz o).kind)).setCell ⟨n,1,none⟩ (.int .i64 (bz o).level)).setCell ⟨n,2,none⟩ (.string (S (bz o).info))).setCell ⟨n,3,none⟩ (vl)).setCell ⟨n,4,none⟩ (vs)).setCell ⟨n,5,none⟩ (vk)) o∧Below B w3 ((((((w4.setCell ⟨n,0,none⟩ (.int .i64 (bz o).kind)).setCell ⟨n,1,none⟩ (.int .i64 (bz o).level)).setCell ⟨n,2,none⟩ (.string (S (bz o).info))).setCell ⟨n,3,none⟩ (vl)).setCell ⟨n,4,none⟩ (vs)).setCell ⟨n,5,none⟩ (vk)):=
 ⟨⟨vl,vs,vk,Kd.set6 hz,fun w'' k2=>h w'' ((set6_keep hn' _ _ _ _ _ _).trans (k2.mono (fun j _ hj=>Nat.lt_of_lt_of_le hj hB)))⟩,Kd.set6_below hb hn _ _ _ _ _ _⟩
theorem izP_izd {s:Tx} {u:List Tx} (h:kindOf E0 s=6):izP (s::u)=izd (s::u):=by
 have e:uiT s=unitem s:=if_pos h
 show uiT s::u.map (fun x=>(inner x).getD [])=unitem s::u.map (fun x=>(inner x).getD [])
 rw[e]
theorem items_cons (f:List Tx→Option (List Bk)) (x:List Tx) (r:List (List Tx)):items f (x::r)=after ((f x).map fun k=>.mk 7 0 [] [] [] k) (items f r):=by
 rw[items]
 cases f x<;>rfl
def ListC (d:Nat):Prop:=∀(v:Value) (s:Tx) (u:List Tx) (w:World),Rd w v (s::u)→tot (s::u)≤260000→kindOf E0 s=6→Calls Tryz.prog 136 #[rdV (16-d),v] w (BlockAns w (valB allE d s u) (er (valB allE d s u)))
set_option maxHeartbeats 6400000 in
set_option maxRecDepth 100000 in
theorem listC_any (d:Nat) (hd:d≤16) (HC:d+1≤16→ContC (d+1)):ListC d:=by
 intro v s u w hr ht hk
 have hval:=val6 (rec:=allE) (d:=d) (l:=u) hk
 rw[hval]
 clear hval
 obtain⟨xs,hxs⟩:∃xs,s::u=xs:=⟨_,rfl⟩
 rw[hxs]at hr ht ⊢
 have h0x:0<xs.length:=by rw[←hxs];simp
 have hk0:kindOf E0 xs[0]=6:=by simp only[←hxs,List.getElem_cons_zero];exact hk
 clear hxs hk
 obtain⟨ao,ca,rfl⟩:=hr.len
 have hlen:xs.length≤260000:=Nat.le_trans (tot_len xs) ht
 obtain⟨hm,_⟩:=itB_list h0x hk0
 rw[List.drop_zero]at hm
 obtain⟨r,hrr⟩:∃r,16-d=r:=⟨_,rfl⟩
 have HW:=Lib.hid (fun w'=>within_any r (by omega) w')
 have HIt:=Lib.hid (fun w' (hb:Below w.heap.size w w')=>itemsP_any _ xs w' (hr.below hb) ht 0 (Nat.zero_le _))
 have hps:(itB xs 0).length≤260000:=by have:=rise_len (Nat.zero_le _) (itp_rise xs (xs.length+1) 0 (Nat.zero_le _));unfold itB;omega
 have HSl:Hid (∀p∈itB xs 0,∃v',(∀w',(Instr.slice 23 (.slice ao xs.length ca) (some (.int .i64 (p.1:Nat))) (some (.int .i64 (p.2:Nat))) none).run Tryz.prog w'=.ok v' w')∧(∀w',Below w.heap.size w w'→Calls Tryz.prog 167 #[v'] w' (RowAns w' (itm xs p)))):=Lib.hid (fun p hp=>by
  obtain⟨h1,h2,s,u,hc,hk⟩:=itp_six xs _ 0 (Nat.zero_le _) p hp
  obtain⟨v',hs,hrd⟩:=rd_slice_run hr p.1 p.2 (by omega) h2 (by omega)
  refine⟨v',hs,fun w' hb=>?_⟩
  have h:=itemizedP_any v' (cut xs p.1 p.2) w' (hrd w' hb) (Nat.le_trans (tot_cut xs _ _) ht) (by rw[hc];simp)
  unfold itm
  rw[hc]at h ⊢
  rw[izP_izd hk]at h
  exact h)
 have HCt:Hid (r≠0→∀p∈itB xs 0,∀(v':Value) (w':World),Rd w' v' (itm xs p)→Calls Tryz.prog 134 #[rdV (r-1),.int .i64 7,v'] w' (BlockAns w' ((allE (d+2) (itm xs p)).map fun k=>.mk 7 0 [] [] [] k) (er ((allE (d+2) (itm xs p)).map fun k=>Bk.mk 7 0 [] [] [] k)))):=Lib.hid (fun h p hp v' w' hrd=>by
  have hmem:itm xs p∈(lst xs).1:=by rw[←hm];exact List.mem_map.2 ⟨p,hp,rfl⟩
  have htl:tot (itm xs p)≤260000:=Nat.le_trans (list_tot _ xs _ hmem) ht
  have h2:=HC (by omega) 7 v' (itm xs p) w' hrd htl
  rw[show 16-(d+1)=r-1 by omega]at h2
  exact h2)
 rw[←hm,hrr]
 obtain⟨ps,hpe⟩:∃ps,itB xs 0=ps:=⟨_,rfl⟩
 have hne:ps≠[]:=by
  rw[←hpe]
  intro h
  obtain⟨_,p,hp,_⟩:=itB_list h0x hk0
  rw[h]at hp
  cases hp
 rw[hpe]at HSl HCt hps ⊢
 simp only[hpe]at HIt
 have HI:Hid (∀p r,items (allE (d+2)) ((p::r).map (itm xs))=after ((allE (d+2) (itm xs p)).map fun k=>.mk 7 0 [] [] [] k) (items (allE (d+2)) (r.map (itm xs)))):=Lib.hid (fun p r=>by rw[List.map_cons,items_cons])
 have HI0:Hid (items (allE (d+2)) (([]:List (Nat × Nat)).map (itm xs))=some []):=Lib.hid rfl
 have H16:Hid (r=0→items (allE (d+2)) (ps.map (itm xs))=none):=Lib.hid (fun h=>by
  cases ps with
  |nil=>exact absurd rfl hne
  |cons p ps=>
   rw[List.map_cons,items_cons,allE_deep (by omega)]
   rfl)
 generalize hG:(fun l=>items (allE (d+2)) (List.map (itm xs) l))=G
 have hG':∀l,items (allE (d+2)) (List.map (itm xs) l)=G l:=fun l=>by rw[←hG]
 simp only[hG']at HI HI0 H16 ⊢
 clear hG hG' hm hpe hne HC hd h0x hk0
 generalize hKf:(fun p=>(allE (d+2) (itm xs p)).map fun k=>Bk.mk 7 0 [] [] [] k)=K
 have hK':∀p,((allE (d+2) (itm xs p)).map fun k=>Bk.mk 7 0 [] [] [] k)=K p:=fun p=>by rw[←hKf]
 simp only[hK']at HI HCt
 clear hKf hK'
 obtain⟨X,hX⟩:∃X,G ps=X:=⟨_,rfl⟩
 have H0:Hid (X=(G (ps.drop 0)).map ((([]:List (Bk × Value × Value × Value)).map (·.1))++·)):=Lib.hid (by
  rw[List.drop_zero,←hX]
  cases G ps<;>rfl)
 rw[hX]at H16 ⊢
 unfold rdV at *
 unfold SprF at HIt
 have HBw:=Lib.hid (fun w' (h:Below w.heap.size w w')=>h)
 clear hX hr ht hrr
 have HA0:=alloc_at (alloc_new w (.cells #[.int .i64 (r:Nat)] 80)) (.cells #[.int .i64 0,.int .i64 0,.string ⟨#[]⟩,.slice none 0 0,.slice none 0 0,.slice none 0 0] 46)
 have HA2:Hid ((((w.alloc (.cells #[.int .i64 (r:Nat)] 80)).alloc (.cells #[.int .i64 0,.int .i64 0,.string ⟨#[]⟩,.slice none 0 0,.slice none 0 0,.slice none 0 0] 46)).heap[(w.alloc (.cells #[.int .i64 (r:Nat)] 80)).heap.size]?)=some (.cells #[.int .i64 0,.int .i64 0,.string ⟨#[]⟩,.slice none 0 0,.slice none 0 0,.slice none 0 0] 46 (0,0))):=Lib.hid (alloc_new _ _)
 have hz1:(w.alloc (.cells #[.int .i64 (r:Nat)] 80)).heap.size=w.heap.size+1:=by simp
 rw[hz1]at HA2
 have HB1:=Lib.hid (((Below.refl w.heap.size w).alloc (Nat.le_refl _) (.cells #[.int .i64 (r:Nat)] 80)).alloc (by simp) (.cells #[.int .i64 0,.int .i64 0,.string ⟨#[]⟩,.slice none 0 0,.slice none 0 0,.slice none 0 0] 46))
 have HA1:=Lib.hid HA0
 clear HA0
 go_enter Tryz.func136,Tryz.ntmps136
 go_upto_region 1 with fail
 try rw[hz1]
 clear hz1
 generalize (w.alloc (.cells #[.int .i64 (r:Nat)] 80)).alloc (.cells #[.int .i64 0,.int .i64 0,.string ⟨#[]⟩,.slice none 0 0,.slice none 0 0,.slice none 0 0] 46)=w1 at *
 have c0:w1.cell? ⟨w.heap.size,0,none⟩=some (.int .i64 (r:Nat)):=cell_at HA1.out 0
 by_cases h0:r=0
 ·have HO:=Lib.hid (H16.out h0)
  subst h0
  have HW0:Hid (∀w',Calls Tryz.prog 165 #[.agg #[.int .i64 ((0:Nat):Int)]] w' fun e w''=>e=.returned (.tuple #[.agg #[.int .i64 0],.int .i64 5])∧Below w'.heap.size w' w''):=Lib.hid (fun w'=>HW.out w')
  have hc0:((0:Nat):Int)=0:=rfl
  rw[hc0]at c0
  simp only[hc0]at HW0
  clear HW H0 HIt HSl HCt HI HI0 H16 hc0
  go_wp2_with fail
  refine(HW0.out _).mono ?_
  rintro e w2 ⟨rfl,b2⟩
  have HR2:Hid (w2.heap[w.heap.size+1]? = some (.cells #[.int .i64 0,.int .i64 0,.string ⟨#[]⟩,.slice none 0 0,.slice none 0 0,.slice none 0 0] 46 (0,0))):=Lib.hid ((b2.block _ (lt_of_at HA2.out)).trans HA2.out)
  have HB2:=Lib.hid (HB1.out.trans (b2.mono HB1.out.size))
  have HR3:Hid ((w2.alloc (.cells #[.int .i64 0] 80)).heap[w.heap.size+1]? = some (.cells #[.int .i64 0,.int .i64 0,.string ⟨#[]⟩,.slice none 0 0,.slice none 0 0,.slice none 0 0] 46 (0,0))):=Lib.hid (alloc_at HR2.out _)
  have HB3:=Lib.hid (HB2.out.alloc HB2.out.size (.cells #[.int .i64 0] 80))
  clear b2 HW0 HA1 HA2 HB1 HB2
  go_upto_region 2 with fail
  generalize w2.alloc (.cells #[.int .i64 0] 80)=w3 at *
  have k0:w3.cell? ⟨w.heap.size+1,0,none⟩=some (.int .i64 0):=cell_at HR3.out 0
  have f0:w3.frozen? ⟨w.heap.size+1,0,none⟩=false:=frozen_at HR3.out 0
  have k1:w3.cell? ⟨w.heap.size+1,1,none⟩=some (.int .i64 0):=cell_at HR3.out 1
  have f1:w3.frozen? ⟨w.heap.size+1,1,none⟩=false:=frozen_at HR3.out 1
  have k2:w3.cell? ⟨w.heap.size+1,2,none⟩=some (.string ⟨#[]⟩):=cell_at HR3.out 2
  have f2:w3.frozen? ⟨w.heap.size+1,2,none⟩=false:=frozen_at HR3.out 2
  have k3:w3.cell? ⟨w.heap.size+1,3,none⟩=some (.slice none 0 0):=cell_at HR3.out 3
  have f3:w3.frozen? ⟨w.heap.size+1,3,none⟩=false:=frozen_at HR3.out 3
  have k4:w3.cell? ⟨w.heap.size+1,4,none⟩=some (.slice none 0 0):=cell_at HR3.out 4
  have f4:w3.frozen? ⟨w.heap.size+1,4,none⟩=false:=frozen_at HR3.out 4
  have k5:w3.cell? ⟨w.heap.size+1,5,none⟩=some (.slice none 0 0):=cell_at HR3.out 5
  have f5:w3.frozen? ⟨w.heap.size+1,5,none⟩=false:=frozen_at HR3.out 5
  go_wp2_with fail
  have HS:=Lib.hid (Kd.set6 (u0:=.int .i64 0) (u1:=.int .i64 0) (u2:=.string ⟨#[]⟩) (u3:=.slice none 0 0) (u4:=.slice none 0 0) (u5:=.slice none 0 0) HR3.out)
  have HB9:=Lib.hid (Kd.set6_below HB3.out (Nat.le_succ _) (.int .i64 0) (.int .i64 0) (.string ⟨#[]⟩) (.slice none 0 0) (.slice none 0 0) (.slice none 0 0))
  have HK9:=Lib.hid (fun B hB=>set6_keep (w:=w3) (b:=w.heap.size+1) (B:=B) hB (.int .i64 0) (.int .i64 0) (.string ⟨#[]⟩) (.slice none 0 0) (.slice none 0 0) (.slice none 0 0))
  generalize ((((((w3.setCell ⟨w.heap.size+1,0,none⟩ (.int .i64 0)).setCell ⟨w.heap.size+1,1,none⟩ (.int .i64 0)).setCell ⟨w.heap.size+1,2,none⟩ (.string ⟨#[]⟩)).setCell ⟨w.heap.size+1,3,none⟩ (.slice none 0 0)).setCell ⟨w.heap.size+1,4,none⟩ (.slice none 0 0)).setCell ⟨w.heap.size+1,5,none⟩ (.slice none 0 0))=w9 at *
  have r0:w9.cell? ⟨w.heap.size+1,0,none⟩=some (.int .i64 0):=cell_at HS.out 0
  have r1:w9.cell? ⟨w.heap.size+1,1,none⟩=some (.int .i64 0):=cell_at HS.out 1
  have r2:w9.cell? ⟨w.heap.size+1,2,none⟩=some (.string ⟨#[]⟩):=cell_at HS.out 2
  have r3:w9.cell? ⟨w.heap.size+1,3,none⟩=some (.slice none 0 0):=cell_at HS.out 3
  have r4:w9.cell? ⟨w.heap.size+1,4,none⟩=some (.slice none 0 0):=cell_at HS.out 4
  have r5:w9.cell? ⟨w.heap.size+1,5,none⟩=some (.slice none 0 0):=cell_at HS.out 5
  exact bodyPost_ret (v:=.tuple #[.agg #[.int .i64 0,.int .i64 0,.string ⟨#[]⟩,.slice none 0 0,.slice none 0 0,.slice none 0 0],.int .i64 5]) (by simp[results,Tryz.results136,go_sem,r0,r1,r2,r3,r4,r5]) rfl (by rw[HO.out];exact ans_none' rfl rfl HB9.out)
 ·have HW1:Hid (∀w',Calls Tryz.prog 165 #[.agg #[.int .i64 (r:Nat)]] w' fun e w''=>e=.returned (.tuple #[.agg #[.int .i64 ((r-1:Nat):Int)],.int .i64 0])∧Below w'.heap.size w' w''):=Lib.hid (fun w'=>by
   have h:=HW.out w'
   rw[wE_pos h0]at h
   exact h)
  have HCt1:=Lib.hid (HCt.out h0)
  obtain⟨m,hm⟩:∃q,r-1=q:=⟨_,rfl⟩
  rw[hm]at HW1 HCt1
  clear HW HCt H16 h0 hm
  go_wp2_with fail
  refine(HW1.out _).mono ?_
  rintro e w2 ⟨rfl,b2⟩
  have HR2:Hid (w2.heap[w.heap.size+1]? = some (.cells #[.int .i64 0,.int .i64 0,.string ⟨#[]⟩,.slice none 0 0,.slice none 0 0,.slice none 0 0] 46 (0,0))):=Lib.hid ((b2.block _ (lt_of_at HA2.out)).trans HA2.out)
  have HB2:=Lib.hid (HB1.out.trans (b2.mono HB1.out.size))
  have HR3:Hid ((w2.alloc (.cells #[.int .i64 (m:Nat)] 80)).heap[w.heap.size+1]? = some (.cells #[.int .i64 0,.int .i64 0,.string ⟨#[]⟩,.slice none 0 0,.slice none 0 0,.slice none 0 0] 46 (0,0))):=Lib.hid (alloc_at HR2.out _)
  have HI3:Hid ((w2.alloc (.cells #[.int .i64 (m:Nat)] 80)).heap[w2.heap.size]? = some (.cells #[.int .i64 (m:Nat)] 80 (0,0))):=Lib.hid (alloc_new _ _)
  have HB3:=Lib.hid (HB2.out.alloc HB2.out.size (.cells #[.int .i64 (m:Nat)] 80))
  clear b2 HW1 HA1 HA2 HB1
  have hz2:=HB2.out.size
  go_upto_region 2 with fail
  generalize w2.alloc (.cells #[.int .i64 (m:Nat)] 80)=w3 at *
  have HA4:=Lib.hid (alloc_new w3 (.cells #[.int .i64 6,.int .i64 0,.string ⟨#[]⟩,.slice none 0 0,.slice none 0 0,.slice none 0 0] 46))
  have HR4:=Lib.hid (alloc_at HR3.out (.cells #[.int .i64 6,.int .i64 0,.string ⟨#[]⟩,.slice none 0 0,.slice none 0 0,.slice none 0 0] 46))
  have HI4:=Lib.hid (alloc_at HI3.out (.cells #[.int .i64 6,.int .i64 0,.string ⟨#[]⟩,.slice none 0 0,.slice none 0 0,.slice none 0 0] 46))
  have HB4:=Lib.hid (HB3.out.alloc HB3.out.size (.cells #[.int .i64 6,.int .i64 0,.string ⟨#[]⟩,.slice none 0 0,.slice none 0 0,.slice none 0 0] 46))
  have hlt2:=lt_of_at HI3.out
  have hlt1:=lt_of_at HR3.out
  clear HR2 HB2
  go_upto_region 5 with fail
  generalize w3.alloc (.cells #[.int .i64 6,.int .i64 0,.string ⟨#[]⟩,.slice none 0 0,.slice none 0 0,.slice none 0 0] 46)=w4 at *
  have hlt3:=lt_of_at HA4.out
  generalize w3.heap.size=n8 at *
  go_wp2_with fail
  refine(HIt.out _ HB4.out).mono ?_
  rintro e w5 ⟨vp,rfl,hop,b5⟩
  obtain⟨ap,cp,rfl⟩:=rdp_of (SprF.rd hop)
  have HOp:=Lib.hid hop
  have HA5:Hid (w5.heap[n8]? = some (.cells #[.int .i64 6,.int .i64 0,.string ⟨#[]⟩,.slice none 0 0,.slice none 0 0,.slice none 0 0] 46 (0,0))):=Lib.hid ((b5.block _ (lt_of_at HA4.out)).trans HA4.out)
  have HR5:Hid (w5.heap[w.heap.size+1]? = some (.cells #[.int .i64 0,.int .i64 0,.string ⟨#[]⟩,.slice none 0 0,.slice none 0 0,.slice none 0 0] 46 (0,0))):=Lib.hid ((b5.block _ (lt_of_at HR4.out)).trans HR4.out)
  have HI5:Hid (w5.heap[w2.heap.size]? = some (.cells #[.int .i64 (m:Nat)] 80 (0,0))):=Lib.hid ((b5.block _ (lt_of_at HI4.out)).trans HI4.out)
  have HB5:=Lib.hid (HB4.out.trans (b5.mono HB4.out.size))
  have hz45:=b5.size
  have hlr0:=lt_of_at HR5.out
  have hz5:=HB5.out.size
  clear hop b5 HIt HA4 HR4 HI4 HB4 HR3 HI3 HB3
  go_wp2_with fail
  go_loopw [26] (fun iv wr=>∃(j:Nat) (qs:List (Bk × Value × Value × Value)) (vo:Value),j≤ps.length∧qs.length≤j∧iv=.int .i64 j∧Hid (wr.heap[n8]? = some (.cells #[.int .i64 6,.int .i64 0,.string ⟨#[]⟩,.slice none 0 0,.slice none 0 0,vo] 46 (0,0)))∧Hid (OutB w5.heap.size wr vo qs)∧Hid (Keep (fun k=>k=n8) w5 wr)∧Hid (X=(G (ps.drop j)).map (qs.map (·.1)++·))) (fun iv _=>ps.length-(intOf iv).toNat)
  case atStart=>exact⟨0,[],_,Nat.zero_le _,Nat.le_refl _,rfl,HA5,Lib.hid (OutG.nil (Nat.le_refl _)),Lib.hid (Keep.refl _ _),H0⟩
  case round=>
   clear H0
   obtain⟨j,qs,vo,hj,hqs,rfl,HA,HO,HKp,HN⟩:=hrel
   obtain⟨av,mv,cv,hv⟩:∃ao n cap,vo=.slice ao n cap:=by
    rcases(OutG.own HO.out).2 with ⟨h,_⟩|⟨g,cap,_,h,_⟩
    ·exact⟨none,0,0,h⟩
    ·exact⟨_,_,_,h⟩
   subst hv
   have HB:=Lib.hid (HB5.out.trans (HKp.out.below (B:=w.heap.size) (fun k hk=>by omega) HB5.out.size))
   have HR:Hid (wr.heap[w.heap.size+1]? = some (.cells #[.int .i64 0,.int .i64 0,.string ⟨#[]⟩,.slice none 0 0,.slice none 0 0,.slice none 0 0] 46 (0,0))):=Lib.hid (HKp.out.at HR5.out (by omega))
   by_cases hlt:j<ps.length
   ·have hji:(j:Int)<(ps.length:Int):=by omega
    have HI6:Hid (wr.heap[w2.heap.size]? = some (.cells #[.int .i64 (m:Nat)] 80 (0,0))):=Lib.hid (HKp.out.at HI5.out (by omega))
    have hrp:RdP wr (.slice ap ps.length cp) ps:=⟨OutG.rk (OutG.go HOp.out.1 (HKp.out.mono (fun k _ hk=>by omega))) (fun _=>rfl),HOp.out.2⟩
    obtain⟨bp,op,ap',cp',h1,h2,c0,c1⟩:=RdP.at hrp j hlt
    simp only[Value.slice.injEq,true_and]at h1
    obtain⟨rfl,rfl⟩:=h1
    subst h2
    obtain⟨vs,hsl,hiz⟩:=HSl.out ps[j] (List.getElem_mem hlt)
    have HCp:=Lib.hid (HCt1.out ps[j] (List.getElem_mem hlt))
    have HIz:=Lib.hid hiz
    have HSl1:=Lib.hid hsl
    have hdr:ps.drop j=ps[j]::ps.drop (j+1):=List.drop_eq_getElem_cons hlt
    have HN2:Hid (X=(after (K ps[j]) (G (ps.drop (j+1)))).map (qs.map (·.1)++·)):=Lib.hid (by rw[HN.out,hdr,HI.out])
    clear hiz hdr HN hsl hrp
    generalize K ps[j]=o at *
    generalize itm xs ps[j]=tx at *
    generalize ps[j]=pq at *
    obtain⟨p,q⟩:=pq
    simp only at c0 c1 HSl1
    have HP6:=Lib.hid (alloc_new wr (.cells #[.int .i64 (p:Nat),.int .i64 (q:Nat)] 41))
    have HR6:=Lib.hid (alloc_at HR.out (.cells #[.int .i64 (p:Nat),.int .i64 (q:Nat)] 41))
    have HJ6:=Lib.hid (alloc_at HI6.out (.cells #[.int .i64 (p:Nat),.int .i64 (q:Nat)] 41))
    have HA6:=Lib.hid (alloc_at HA.out (.cells #[.int .i64 (p:Nat),.int .i64 (q:Nat)] 41))
    have HB6:=Lib.hid (HB.out.alloc HB.out.size (.cells #[.int .i64 (p:Nat),.int .i64 (q:Nat)] 41))
    have HK6:=Lib.hid (HKp.out.alloc (.cells #[.int .i64 (p:Nat),.int .i64 (q:Nat)] 41))
    have HO6:Hid (OutB w5.heap.size (wr.alloc (.cells #[.int .i64 (p:Nat),.int .i64 (q:Nat)] 41)) (.slice av mv cv) qs):=Lib.hid (OutG.go HO.out ((Keep.refl _ _).alloc _))
    go_upto_region 8 with fail
    generalize wr.alloc (.cells #[.int .i64 (p:Nat),.int .i64 (q:Nat)] 41)=w6 at *
    have HIz6:Hid (∀w',Below w6.heap.size w6 w'→Calls Tryz.prog 167 #[vs] w' (RowAns w' tx)):=Lib.hid (fun w' hb=>HIz.out w' (HB6.out.trans (hb.mono HB6.out.size)))
    clear HIz HB HO HA HR HI6 c0 c1 HSl HKp HCt1
    unfold RowAns at HIz6
    unfold BlockAns at HCp
    go_cut [11,12,26]from 26 to 52 (fun bv ev jv wx=>∃n,bv=.pointer (some ⟨n,0,none⟩)∧ev=.int .i64 (er o:Nat)∧jv=.int .i64 j∧Hid (BkAt n w6.heap.size wx o∧Below w6.heap.size w6 wx))
    case first=>
     have HS:Hid (∀W:World,Keep (fun _=>False) w6 W→W.cell? ⟨w2.heap.size,0,none⟩=some (.int .i64 (m:Nat))∧W.cell? ⟨wr.heap.size,0,none⟩=some (.int .i64 (p:Nat))∧W.cell? ⟨wr.heap.size,1,none⟩=some (.int .i64 (q:Nat))):=Lib.hid (fun W hW=>by
      have a0:=hW.at HJ6.out (fun h=>h)
      have a1:=hW.at HP6.out (fun h=>h)
      exact⟨cell_at a0 0,cell_at a1 0,cell_at a1 1⟩)
     have hsl:=HSl1.out
     have s0:=(HS.out w6 (Keep.refl _ _)).1
     have s1:=(HS.out w6 (Keep.refl _ _)).2.1
     have s2:=(HS.out w6 (Keep.refl _ _)).2.2
     have hle7:True:=trivial
     clear HR6 HP6 HO6 HI HI0 HN2 HSl1 HJ6 HA6 HK6 HA5 HR5 HI5 HOp
     go_region_held3 (fun W=>W.cell? ⟨w2.heap.size,0,none⟩=some (.int .i64 (m:Nat))∧W.cell? ⟨wr.heap.size,0,none⟩=some (.int .i64 (p:Nat))∧W.cell? ⟨wr.heap.size,1,none⟩=some (.int .i64 (q:Nat)))
      (with_reducible exact HS.out _ (by first |exact Keep.refl _ _ |exact(Keep.refl _ _).drew |exact((Keep.refl _ _).alloc _).drew |exact(Keep.trans (Keep.refl _ _).drew (Keep.of_below (by assumption)))|exact(Keep.trans ((Keep.refl _ _).alloc _).drew (Keep.of_below (by assumption)))|exact(Keep.trans (Keep.refl _ _).drew (Keep.of_below (by assumption))).alloc _ |exact Keep.trans (Keep.trans (Keep.refl _ _).drew (Keep.of_below (by assumption))) (Keep.of_below (by assumption))|exact(Keep.trans (Keep.trans (Keep.refl _ _).drew (Keep.of_below (by assumption))) (Keep.of_below (by assumption))).alloc _ |exact Keep.trans ((Keep.trans (Keep.refl _ _).drew (Keep.of_below (by assumption))).alloc _) (Keep.of_below (by assumption))|exact Keep.trans (Keep.trans ((Keep.refl _ _).alloc _).drew (Keep.of_below (by assumption))) (Keep.of_below (by assumption))|exact(((((((Keep.trans ((Keep.trans (Keep.refl _ _).drew (Keep.of_below (by assumption))).alloc _) (Keep.of_below (by assumption))).setCell (Or.inr hle7) _).setCell (Or.inr hle7) _).setCell (Or.inr hle7) _).setCell (Or.inr hle7) _).setCell (Or.inr hle7) _).setCell (Or.inr hle7) _)|exact(((((((Keep.trans (Keep.trans ((Keep.refl _ _).alloc _).drew (Keep.of_below (by assumption))) (Keep.of_below (by assumption))).setCell (Or.inr (Nat.le_refl _)) _).setCell (Or.inr (Nat.le_refl _)) _).setCell (Or.inr (Nat.le_refl _)) _).setCell (Or.inr (Nat.le_refl _)) _).setCell (Or.inr (Nat.le_refl _)) _).setCell (Or.inr (Nat.le_refl _)) _)))
      (first
       |(go_at_call 167;refine(HIz6.out _ ((Below.refl _ _).drew)).mono ?_;rintro e w7 ⟨vi,rfl,hoi,b7⟩;have HRi:=Lib.hid (OutS.rd hoi);obtain⟨ai,ci,hvi⟩:=(OutS.rd hoi).len;subst hvi;clear hoi;have hle7:w6.heap.size≤w7.heap.size:=b7.size)
       |(go_at_call 167;refine(HIz6.out _ (((Below.refl _ _).alloc (Nat.le_refl _) (.cells #[.int .i64 0,.int .i64 0,.string ⟨#[]⟩,.slice none 0 0,.slice none 0 0,.slice none 0 0] 46)).drew)).mono ?_;rintro e w7 ⟨vi,rfl,hoi,b7⟩;have HRi:=Lib.hid (OutS.rd hoi);obtain⟨ai,ci,hvi⟩:=(OutS.rd hoi).len;subst hvi;clear hoi;have HZ:Hid (w7.heap[w6.heap.size]? = some (.cells #[.int .i64 0,.int .i64 0,.string ⟨#[]⟩,.slice none 0 0,.slice none 0 0,.slice none 0 0] 46 (0,0))):=Lib.hid ((b7.block _ (by simp)).trans (alloc_new w6 _)))
       |(go_at_call 134;refine(HCp.out _ _ HRi.out).mono ?_;rintro e w8 ⟨vl,vs',vk,rfl,b8,hkb⟩;have hkb0:=hkb w8 (Keep.refl _ _);obtain⟨al,cl,hvl⟩:=hkb0.rd.len;obtain⟨as',cs,hvs⟩:=hkb0.sp.len;obtain⟨ak,ck,hvk⟩:=hkb0.tr.len;simp only at hvl hvs hvk;subst hvl;subst hvs;subst hvk;have HKB:=Lib.hid hkb;clear hkb hkb0;try (have HZ8:Hid (w8.heap[w6.heap.size]? = some (.cells #[.int .i64 0,.int .i64 0,.string ⟨#[]⟩,.slice none 0 0,.slice none 0 0,.slice none 0 0] 46 (0,0))):=Lib.hid ((b8.block _ (lt_of_at HZ.out)).trans HZ.out);have z0:w8.cell? ⟨w6.heap.size,0,none⟩=some (.int .i64 0):=cell_at HZ8.out 0;have y0:w8.frozen? ⟨w6.heap.size,0,none⟩=false:=frozen_at HZ8.out 0;have z1:w8.cell? ⟨w6.heap.size,1,none⟩=some (.int .i64 0):=cell_at HZ8.out 1;have y1:w8.frozen? ⟨w6.heap.size,1,none⟩=false:=frozen_at HZ8.out 1;have z2:w8.cell? ⟨w6.heap.size,2,none⟩=some (.string ⟨#[]⟩):=cell_at HZ8.out 2;have y2:w8.frozen? ⟨w6.heap.size,2,none⟩=false:=frozen_at HZ8.out 2;have z3:w8.cell? ⟨w6.heap.size,3,none⟩=some (.slice none 0 0):=cell_at HZ8.out 3;have y3:w8.frozen? ⟨w6.heap.size,3,none⟩=false:=frozen_at HZ8.out 3;have z4:w8.cell? ⟨w6.heap.size,4,none⟩=some (.slice none 0 0):=cell_at HZ8.out 4;have y4:w8.frozen? ⟨w6.heap.size,4,none⟩=false:=frozen_at HZ8.out 4;have z5:w8.cell? ⟨w6.heap.size,5,none⟩=some (.slice none 0 0):=cell_at HZ8.out 5;have y5:w8.frozen? ⟨w6.heap.size,5,none⟩=false:=frozen_at HZ8.out 5))
       |(go_at_call 134;refine(HCp.out _ _ (HRi.out.below ((Below.refl _ _).alloc (Nat.le_refl _) (.cells #[.int .i64 0,.int .i64 0,.string ⟨#[]⟩,.slice none 0 0,.slice none 0 0,.slice none 0 0] 46)))).mono ?_;rintro e w8 ⟨vl,vs',vk,rfl,b8,hkb⟩;have hkb0:=hkb w8 (Keep.refl _ _);obtain⟨al,cl,hvl⟩:=hkb0.rd.len;obtain⟨as',cs,hvs⟩:=hkb0.sp.len;obtain⟨ak,ck,hvk⟩:=hkb0.tr.len;simp only at hvl hvs hvk;subst hvl;subst hvs;subst hvk;have HKB:=Lib.hid hkb;clear hkb hkb0;have HZ8:Hid (w8.heap[w7.heap.size]? = some (.cells #[.int .i64 0,.int .i64 0,.string ⟨#[]⟩,.slice none 0 0,.slice none 0 0,.slice none 0 0] 46 (0,0))):=Lib.hid ((b8.block _ (by simp)).trans (alloc_new w7 _));have z0:w8.cell? ⟨w7.heap.size,0,none⟩=some (.int .i64 0):=cell_at HZ8.out 0;have y0:w8.frozen? ⟨w7.heap.size,0,none⟩=false:=frozen_at HZ8.out 0;have z1:w8.cell? ⟨w7.heap.size,1,none⟩=some (.int .i64 0):=cell_at HZ8.out 1;have y1:w8.frozen? ⟨w7.heap.size,1,none⟩=false:=frozen_at HZ8.out 1;have z2:w8.cell? ⟨w7.heap.size,2,none⟩=some (.string ⟨#[]⟩):=cell_at HZ8.out 2;have y2:w8.frozen? ⟨w7.heap.size,2,none⟩=false:=frozen_at HZ8.out 2;have z3:w8.cell? ⟨w7.heap.size,3,none⟩=some (.slice none 0 0):=cell_at HZ8.out 3;have y3:w8.frozen? ⟨w7.heap.size,3,none⟩=false:=frozen_at HZ8.out 3;have z4:w8.cell? ⟨w7.heap.size,4,none⟩=some (.slice none 0 0):=cell_at HZ8.out 4;have y4:w8.frozen? ⟨w7.heap.size,4,none⟩=false:=frozen_at HZ8.out 4;have z5:w8.cell? ⟨w7.heap.size,5,none⟩=some (.slice none 0 0):=cell_at HZ8.out 5;have y5:w8.frozen? ⟨w7.heap.size,5,none⟩=false:=frozen_at HZ8.out 5))
     ·go_wp2_with fail
      go_meet
      have hb:Below w6.heap.size w6 w8:=((Below.refl w6.heap.size w6).drew.trans b7).trans (b8.mono b7.size)
      exact⟨_,rfl,rfl,rfl,Lib.hid (bkAt_allocG b7.size hb (Nat.le_trans b7.size b8.size) HKB.out)⟩
     ·go_wp2_with fail
      go_meet
      have hs:(w7.alloc (.cells #[.int .i64 0,.int .i64 0,.string ⟨#[]⟩,.slice none 0 0,.slice none 0 0,.slice none 0 0] 46)).heap.size=w7.heap.size+1:=by simp
      have h7:w6.heap.size≤w7.heap.size:=b7.size
      have hb:Below w6.heap.size w6 w8:=((Below.refl w6.heap.size w6).drew.trans b7).trans (((Below.refl w6.heap.size w7).alloc h7 (.cells #[.int .i64 0,.int .i64 0,.string ⟨#[]⟩,.slice none 0 0,.slice none 0 0,.slice none 0 0] 46)).trans (b8.mono (by rw[hs];omega)))
      exact⟨_,rfl,rfl,rfl,Lib.hid (bkAt_setG (by omega) h7 (by omega) hb HKB.out HZ8.out)⟩
     ·go_wp2_with fail
      go_meet
      have hs:(w6.alloc (.cells #[.int .i64 0,.int .i64 0,.string ⟨#[]⟩,.slice none 0 0,.slice none 0 0,.slice none 0 0] 46)).drew.heap.size=w6.heap.size+1:=by simp
      have h7:w6.heap.size+1≤w7.heap.size:=hs▸b7.size
      have hb:Below w6.heap.size w6 w8:=(((Below.refl w6.heap.size w6).alloc (Nat.le_refl _) (.cells #[.int .i64 0,.int .i64 0,.string ⟨#[]⟩,.slice none 0 0,.slice none 0 0,.slice none 0 0] 46)).drew.trans (b7.mono (by omega))).trans (b8.mono (by omega))
      exact⟨_,rfl,rfl,rfl,Lib.hid (bkAt_setG (by omega) (Nat.le_refl _) (by omega) hb HKB.out HZ8.out)⟩
    case rest=>
     obtain⟨n,rfl,rfl,rfl,HX⟩:=hcut
     obtain⟨⟨vl,vs',vk,hA,hkb⟩,bX⟩:=HX.out
     have hkb0:=hkb wc (Keep.refl _ _)
     obtain⟨al,cl,hvl⟩:=hkb0.rd.len
     obtain⟨as',cs,hvs⟩:=hkb0.sp.len
     obtain⟨ak,ck,hvk⟩:=hkb0.tr.len
     simp only at hvl hvs hvk
     subst hvl;subst hvs;subst hvk
     have HKB:=Lib.hid hkb
     have k0:=cell_at hA 0
     have k1:=cell_at hA 1
     have k2:=cell_at hA 2
     have k3:=cell_at hA 3
     have k4:=cell_at hA 4
     have k5:=cell_at hA 5
     have HBc:=Lib.hid (HB6.out.trans (bX.mono HB6.out.size))
     have HKc:=Lib.hid (HK6.out.trans (Keep.of_below bX))
     have HOc:Hid (OutB w5.heap.size wc (.slice av mv cv) qs):=Lib.hid (OutG.go HO6.out (Keep.of_below bX))
     have HAc:Hid (wc.heap[n8]? = some (.cells #[.int .i64 6,.int .i64 0,.string ⟨#[]⟩,.slice none 0 0,.slice none 0 0,.slice av mv cv] 46 (0,0))):=Lib.hid ((bX.block _ (lt_of_at HA6.out)).trans HA6.out)
     have HRc:Hid (wc.heap[w.heap.size+1]? = some (.cells #[.int .i64 0,.int .i64 0,.string ⟨#[]⟩,.slice none 0 0,.slice none 0 0,.slice none 0 0] 46 (0,0))):=Lib.hid ((bX.block _ (lt_of_at HR6.out)).trans HR6.out)
     have hown:Hid (∀g,(Value.ownBlock (.slice av mv cv))=some g→g<w6.heap.size):=Lib.hid (fun g hg=>(OutG.block HO6.out g hg).2)
     have hz6:w5.heap.size≤w6.heap.size:=HK6.out.size
     clear hkb hkb0 hA bX HX HIz6 HCp HO6 HSl1 HP6 HR6 HB6 HJ6 HA6 HK6
     cases o with
     |none=>
      have HX':Hid (X=none):=Lib.hid (by rw[HN2.out];rfl)
      have en:(er (none:Option Bk):Int)=5:=rfl
      rw[en]
      clear HN2 HKB hown HOc en HAc HKc k0 k1 k2 k3 k4 k5
      have k0:wc.cell? ⟨w.heap.size+1,0,none⟩=some (.int .i64 0):=cell_at HRc.out 0
      have f0:wc.frozen? ⟨w.heap.size+1,0,none⟩=false:=frozen_at HRc.out 0
      have k1:wc.cell? ⟨w.heap.size+1,1,none⟩=some (.int .i64 0):=cell_at HRc.out 1
      have f1:wc.frozen? ⟨w.heap.size+1,1,none⟩=false:=frozen_at HRc.out 1
      have k2:wc.cell? ⟨w.heap.size+1,2,none⟩=some (.string ⟨#[]⟩):=cell_at HRc.out 2
      have f2:wc.frozen? ⟨w.heap.size+1,2,none⟩=false:=frozen_at HRc.out 2
      have k3:wc.cell? ⟨w.heap.size+1,3,none⟩=some (.slice none 0 0):=cell_at HRc.out 3
      have f3:wc.frozen? ⟨w.heap.size+1,3,none⟩=false:=frozen_at HRc.out 3
      have k4:wc.cell? ⟨w.heap.size+1,4,none⟩=some (.slice none 0 0):=cell_at HRc.out 4
      have f4:wc.frozen? ⟨w.heap.size+1,4,none⟩=false:=frozen_at HRc.out 4
      have k5:wc.cell? ⟨w.heap.size+1,5,none⟩=some (.slice none 0 0):=cell_at HRc.out 5
      have f5:wc.frozen? ⟨w.heap.size+1,5,none⟩=false:=frozen_at HRc.out 5
      go_wp2_with fail
      have HS:=Lib.hid (Kd.set6 (u0:=.int .i64 0) (u1:=.int .i64 0) (u2:=.string ⟨#[]⟩) (u3:=.slice none 0 0) (u4:=.slice none 0 0) (u5:=.slice none 0 0) HRc.out)
      have HB9:=Lib.hid (Kd.set6_below HBc.out (Nat.le_succ _) (.int .i64 0) (.int .i64 0) (.string ⟨#[]⟩) (.slice none 0 0) (.slice none 0 0) (.slice none 0 0))
      have HK9:=Lib.hid (fun B hB=>set6_keep (w:=wc) (b:=w.heap.size+1) (B:=B) hB (.int .i64 0) (.int .i64 0) (.string ⟨#[]⟩) (.slice none 0 0) (.slice none 0 0) (.slice none 0 0))
      generalize ((((((wc.setCell ⟨w.heap.size+1,0,none⟩ (.int .i64 0)).setCell ⟨w.heap.size+1,1,none⟩ (.int .i64 0)).setCell ⟨w.heap.size+1,2,none⟩ (.string ⟨#[]⟩)).setCell ⟨w.heap.size+1,3,none⟩ (.slice none 0 0)).setCell ⟨w.heap.size+1,4,none⟩ (.slice none 0 0)).setCell ⟨w.heap.size+1,5,none⟩ (.slice none 0 0))=w9 at *
      have r0:w9.cell? ⟨w.heap.size+1,0,none⟩=some (.int .i64 0):=cell_at HS.out 0
      have r1:w9.cell? ⟨w.heap.size+1,1,none⟩=some (.int .i64 0):=cell_at HS.out 1
      have r2:w9.cell? ⟨w.heap.size+1,2,none⟩=some (.string ⟨#[]⟩):=cell_at HS.out 2
      have r3:w9.cell? ⟨w.heap.size+1,3,none⟩=some (.slice none 0 0):=cell_at HS.out 3
      have r4:w9.cell? ⟨w.heap.size+1,4,none⟩=some (.slice none 0 0):=cell_at HS.out 4
      have r5:w9.cell? ⟨w.heap.size+1,5,none⟩=some (.slice none 0 0):=cell_at HS.out 5
      exact bodyPost_ret (v:=.tuple #[.agg #[.int .i64 0,.int .i64 0,.string ⟨#[]⟩,.slice none 0 0,.slice none 0 0,.slice none 0 0],.int .i64 5]) (by simp[results,Tryz.results136,go_sem,r0,r1,r2,r3,r4,r5]) rfl (by rw[HX'.out];exact ans_none' rfl rfl HB9.out)
     |some b=>
      have HN3:Hid (X=(G (ps.drop (j+1))).map ((qs++[(b,Value.bool false,Value.bool false,Value.bool false)]).map (·.1)++·)):=Lib.hid (by
       rw[HN2.out,after]
       cases G (ps.drop (j+1))with
       |none=>rfl
       |some r=>simp)
      have en:(er (some b):Int)=0:=rfl
      have zb:bz (some b)=b:=rfl
      rw[zb]at HKB k0 k1 k2 k3 k4 k5
      rw[en]
      simp only[List.getElem?_toArray,List.getElem?_cons_zero,List.getElem?_cons_succ]at k0 k1 k2 k3 k4 k5
      generalize hCs:(#[Value.int .i64 b.kind,.int .i64 b.level,.string (S b.info),.slice al b.lines.length cl,.slice as' b.spans.length cs,.slice ak b.kids.length ck]:Array Value)=Cs
      obtain⟨v9,w9,hr9,ho9,hk9⟩:=OutB.push HOc.out (x:=(b,.slice al b.lines.length cl,.slice as' b.spans.length cs,.slice ak b.kids.length ck)) (fun w' k2=>HKB.out w' (k2.mono (fun g _ hg=>hg.elim (fun h=>Nat.lt_of_lt_of_le h hz6) (fun h=>hown.out g h.symm)))) (by omega)
      obtain⟨a9,m9,d9,h9⟩:∃ao n cap,v9=.slice ao n cap:=by
       rcases(OutG.own ho9).2 with ⟨h,_⟩|⟨g,cap,_,h,_⟩
       ·exact⟨none,0,0,h⟩
       ·exact⟨_,_,_,h⟩
      subst h9
      have HA9:Hid (w9.heap[n8]? = some (.cells #[.int .i64 6,.int .i64 0,.string ⟨#[]⟩,.slice none 0 0,.slice none 0 0,.slice av mv cv] 46 (0,0))):=Lib.hid (hk9.at HAc.out (fun h=>by have:=(OutG.block HOc.out n8 h.symm).1;omega))
      have HK9:Hid (Keep (fun k=>k=n8) w5 (w9.setCell ⟨n8,5,none⟩ (.slice a9 m9 d9))):=Lib.hid (((((HKc.out.mono (T:=fun k=>k=n8∨some k=(Value.slice av mv cv).ownBlock) (fun k _ h=>Or.inl h)).trans (hk9.mono (fun k _ h=>Or.inr h))).mono (T:=fun k=>k=n8) (fun k hk h=>h.elim id (fun h'=>by have:=(OutG.block HOc.out k h'.symm).1;omega)))).setCell (p:=⟨n8,5,none⟩) (Or.inl rfl) _)
      have HO9:Hid (OutB w5.heap.size (w9.setCell ⟨n8,5,none⟩ (.slice a9 m9 d9)) (.slice a9 m9 d9) (qs++[(b,Value.slice al b.lines.length cl,Value.slice as' b.spans.length cs,Value.slice ak b.kids.length ck)])):=Lib.hid (OutG.go ho9 ((Keep.refl _ _).setCell (p:=⟨n8,5,none⟩) (Or.inl (by show n8<w5.heap.size;omega)) _))
      have HS9:Hid ((w9.setCell ⟨n8,5,none⟩ (.slice a9 m9 d9)).heap[n8]? = some (.cells #[.int .i64 6,.int .i64 0,.string ⟨#[]⟩,.slice none 0 0,.slice none 0 0,.slice a9 m9 d9] 46 (0,0))):=Lib.hid (set_at HA9.out 5 (.slice a9 m9 d9))
      have HN5:Hid (X=(G (ps.drop (j+1))).map ((qs++[(b,Value.slice al b.lines.length cl,Value.slice as' b.spans.length cs,Value.slice ak b.kids.length ck)]).map (·.1)++·)):=Lib.hid (by rw[HN3.out,List.map_append,List.map_append];rfl)
      have o5:wc.cell? ⟨n8,5,none⟩=some (.slice av mv cv):=cell_at HAc.out 5
      have p5:w9.cell? ⟨n8,5,none⟩=some (.slice av mv cv):=cell_at HA9.out 5
      have q5:w9.frozen? ⟨n8,5,none⟩=false:=frozen_at HA9.out 5
      simp only[hCs]at hr9
      subst hCs
      have Hq5:Hid ((qs++[(b,Value.slice al b.lines.length cl,Value.slice as' b.spans.length cs,Value.slice ak b.kids.length ck)]).length≤j+1):=Lib.hid (by rw[List.length_append];simp;omega)
      clear HN3 zb ho9 hk9 HN2 HKB hown en hz6 HOc HAc HA9 HKc
      go_wp2_with (at_builtin;refine Lib.wpList_append_run _ rfl _ _ _ _ rfl _ _ rfl rfl _ _ (hr9 _) ?_)
      go_roundw
      case rel=>exact⟨j+1,_,_,by omega,Hq5.out,by go_num,HS9,HO9,HK9,HN5⟩
      case measure=>simp[intOf]<;>omega
   ·obtain rfl:j=ps.length:=by omega
    have HX:Hid (X=some (qs.map (·.1))):=Lib.hid (by rw[HN.out,List.drop_length,HI0.out];simp)
    have HF:=Lib.hid (OutB.fresh HO.out)
    have o0:wr.cell? ⟨n8,0,none⟩=some (.int .i64 6):=cell_at HA.out 0
    have o1:wr.cell? ⟨n8,1,none⟩=some (.int .i64 0):=cell_at HA.out 1
    have o2:wr.cell? ⟨n8,2,none⟩=some (.string ⟨#[]⟩):=cell_at HA.out 2
    have o3:wr.cell? ⟨n8,3,none⟩=some (.slice none 0 0):=cell_at HA.out 3
    have o4:wr.cell? ⟨n8,4,none⟩=some (.slice none 0 0):=cell_at HA.out 4
    have o5:wr.cell? ⟨n8,5,none⟩=some (.slice av mv cv):=cell_at HA.out 5
    have k0:wr.cell? ⟨w.heap.size+1,0,none⟩=some (.int .i64 0):=cell_at HR.out 0
    have f0:wr.frozen? ⟨w.heap.size+1,0,none⟩=false:=frozen_at HR.out 0
    have k1:wr.cell? ⟨w.heap.size+1,1,none⟩=some (.int .i64 0):=cell_at HR.out 1
    have f1:wr.frozen? ⟨w.heap.size+1,1,none⟩=false:=frozen_at HR.out 1
    have k2:wr.cell? ⟨w.heap.size+1,2,none⟩=some (.string ⟨#[]⟩):=cell_at HR.out 2
    have f2:wr.frozen? ⟨w.heap.size+1,2,none⟩=false:=frozen_at HR.out 2
    have k3:wr.cell? ⟨w.heap.size+1,3,none⟩=some (.slice none 0 0):=cell_at HR.out 3
    have f3:wr.frozen? ⟨w.heap.size+1,3,none⟩=false:=frozen_at HR.out 3
    have k4:wr.cell? ⟨w.heap.size+1,4,none⟩=some (.slice none 0 0):=cell_at HR.out 4
    have f4:wr.frozen? ⟨w.heap.size+1,4,none⟩=false:=frozen_at HR.out 4
    have k5:wr.cell? ⟨w.heap.size+1,5,none⟩=some (.slice none 0 0):=cell_at HR.out 5
    have f5:wr.frozen? ⟨w.heap.size+1,5,none⟩=false:=frozen_at HR.out 5
    have hlr:=lt_of_at HR.out
    clear HN hlt HO HKp HCt1 HSl HI HI0
    go_wp2_with fail
    have HS:=Lib.hid (Kd.set6 (u0:=.int .i64 6) (u1:=.int .i64 0) (u2:=.string ⟨#[]⟩) (u3:=.slice none 0 0) (u4:=.slice none 0 0) (u5:=.slice av mv cv) HR.out)
    have HB9:=Lib.hid (Kd.set6_below HB.out (Nat.le_succ _) (.int .i64 6) (.int .i64 0) (.string ⟨#[]⟩) (.slice none 0 0) (.slice none 0 0) (.slice av mv cv))
    have HK9:=Lib.hid (fun B hB=>set6_keep (w:=wr) (b:=w.heap.size+1) (B:=B) hB (.int .i64 6) (.int .i64 0) (.string ⟨#[]⟩) (.slice none 0 0) (.slice none 0 0) (.slice av mv cv))
    generalize ((((((wr.setCell ⟨w.heap.size+1,0,none⟩ (.int .i64 6)).setCell ⟨w.heap.size+1,1,none⟩ (.int .i64 0)).setCell ⟨w.heap.size+1,2,none⟩ (.string ⟨#[]⟩)).setCell ⟨w.heap.size+1,3,none⟩ (.slice none 0 0)).setCell ⟨w.heap.size+1,4,none⟩ (.slice none 0 0)).setCell ⟨w.heap.size+1,5,none⟩ (.slice av mv cv))=w9 at *
    have r0:w9.cell? ⟨w.heap.size+1,0,none⟩=some (.int .i64 6):=cell_at HS.out 0
    have r1:w9.cell? ⟨w.heap.size+1,1,none⟩=some (.int .i64 0):=cell_at HS.out 1
    have r2:w9.cell? ⟨w.heap.size+1,2,none⟩=some (.string ⟨#[]⟩):=cell_at HS.out 2
    have r3:w9.cell? ⟨w.heap.size+1,3,none⟩=some (.slice none 0 0):=cell_at HS.out 3
    have r4:w9.cell? ⟨w.heap.size+1,4,none⟩=some (.slice none 0 0):=cell_at HS.out 4
    have r5:w9.cell? ⟨w.heap.size+1,5,none⟩=some (.slice av mv cv):=cell_at HS.out 5
    exact bodyPost_ret (v:=.tuple #[.agg #[.int .i64 6,.int .i64 0,.string ⟨#[]⟩,.slice none 0 0,.slice none 0 0,.slice av mv cv],.int .i64 ((0:Nat):Int)]) (by simp[results,Tryz.results136,go_sem,r0,r1,r2,r3,r4,r5]) rfl (by rw[HX.out];exact ans_some (inf:=[]) (n:=0) (p:=0) rfl rfl HB9.out (frRd_nil _ _) (by simp) (frTr_nil _ _) (HF.out.put (HK9.out _ (Nat.lt_of_lt_of_le hlr0 (Nat.le_refl _))) hz5))
end Pa
end Go.Proofs.YthpnbialpkkpgaaGreatDoor
namespace Go.Proofs.YthpnbialpkkpgaaGreatDoor
namespace Pa
open Go.RowKit
open Tk (S S_of S_list S_size S_toList S_app ret_int eq8 ne8 at_data len_data Rd)
open Sp (Sp Tr ret_bool)
open Bt (TrB KB)
open Cm (Keep alloc_new alloc_at cell_at frozen_at set_at set_other lt_of_at)
open Bk (Tx Bk fenceL spanK itemL dropBlank listL kindOf closes unquote unitem inner parse joinLF define items)
open Ln (run trim jn)
open Kd (E0 NumK StrK uqT dfB told11)
theorem ans_bz {w w3 w9:World} {B':Nat} {o:Option Bk} {n p:Nat} {vl vs vk:Value} (HP:n=p) (HB:Below w.heap.size w w9) (hB:w.heap.size≤B') (hk:Keep (fun j=>j<B') w3 w9) (h:∀w'',Keep (fun j=>j<B') w3 w''→KB w'' (bz o,vl,vs,vk)):
  BlockAns w o n (.returned (.tuple #[.agg #[.int .i64 (bz o).kind,.int .i64 (bz o).level,.string (S (bz o).info),vl,vs,vk],.int .i64 (p:Nat)])) w9:=by
 subst HP
 exact⟨vl,vs,vk,rfl,HB,fun w'' k2=>h w'' (hk.trans (k2.mono (fun j _ hj=>Nat.lt_of_lt_of_le hj hB)))⟩
theorem span_whole {k:Nat} {s:Tx} {u:List Tx} (h:(spanK E0 k (s::u)).2=[]):(spanK E0 k (s::u)).1=s::u:=by
 have h1:=span_fst E0 k (s::u)
 rw[h]at h1
 simpa using h1
set_option maxHeartbeats 3200000 in
set_option maxRecDepth 100000 in
theorem blockP2_any (d:Nat) (v:Value) (s:Tx) (u:List Tx) (w:World) (hr:Rd w v (s::u)) (ht:tot (s::u)≤260000) (hk:kindOf E0 s=2) (hre:restB s u=[]):
  Calls Tryz.prog 100 #[rdV (16-d),v] w (BlockAns w (valB allE d s u) (er (valB allE d s u))):=by
 obtain⟨ao,ca,rfl⟩:=hr.len
 have hsz:s.length≤260000:=by have:=tot_mem (s::u) s (List.mem_cons_self ..);omega
 have HRd:=Lib.hid (fun w' (h:Below w.heap.size w w')=>hr.below h)
 have HO:Hid (∀w',Calls Tryz.prog 25 #[.string (S s)] w' (NumK w' 2)):=Lib.hid (fun w'=>by
  have h:=told11.of (S s) w' (by rw[S_size];exact hsz)
  rw[S_list,hk]at h
  exact h)
 unfold NumK at HO
 obtain⟨r,hrr⟩:∃r,16-d=r:=⟨_,rfl⟩
 have HC:=Lib.hid (fun w'=>headingP_any s hsz hk w')
 obtain⟨b,hb⟩:∃b,Bk.mk 2 (run 35 s) [] [] (parse (trim (s.drop (run 35 s)))) []=b:=⟨_,rfl⟩
 have HV:Hid (valB allE d s u=some b):=Lib.hid (by rw[val2 hk,←hb])
 simp only[hb]at HC
 rw[hrr]
 unfold rdV
 generalize valB allE d s u=O at *
 unfold BlkF at HC
 clear hb hk hre hr ht hrr hsz
 have HA0:=alloc_at (alloc_new w (.cells #[.int .i64 (r:Nat)] 80)) (.cells #[.int .i64 0,.int .i64 0,.string ⟨#[]⟩,.slice none 0 0,.slice none 0 0,.slice none 0 0] 46)
 have HA2:Hid ((((w.alloc (.cells #[.int .i64 (r:Nat)] 80)).alloc (.cells #[.int .i64 0,.int .i64 0,.string ⟨#[]⟩,.slice none 0 0,.slice none 0 0,.slice none 0 0] 46)).heap[(w.alloc (.cells #[.int .i64 (r:Nat)] 80)).heap.size]?)=some (.cells #[.int .i64 0,.int .i64 0,.string ⟨#[]⟩,.slice none 0 0,.slice none 0 0,.slice none 0 0] 46 (0,0))):=Lib.hid (alloc_new _ _)
 have hz1:(w.alloc (.cells #[.int .i64 (r:Nat)] 80)).heap.size=w.heap.size+1:=by simp
 rw[hz1]at HA2
 have HB1:=Lib.hid (((Below.refl w.heap.size w).alloc (Nat.le_refl _) (.cells #[.int .i64 (r:Nat)] 80)).alloc (by simp) (.cells #[.int .i64 0,.int .i64 0,.string ⟨#[]⟩,.slice none 0 0,.slice none 0 0,.slice none 0 0] 46))
 have HA1:=Lib.hid HA0
 clear HA0
 go_enter Tryz.func100,Tryz.ntmps100
 go_upto_region 1 with fail
 try rw[hz1]
 clear hz1
 generalize (w.alloc (.cells #[.int .i64 (r:Nat)] 80)).alloc (.cells #[.int .i64 0,.int .i64 0,.string ⟨#[]⟩,.slice none 0 0,.slice none 0 0,.slice none 0 0] 46)=w1 at *
 obtain⟨b0,o0,hbo,c0⟩:=Bt.Rd.at (HRd.out w1 HB1.out) 0 (by simp)
 subst hbo
 simp only[List.getElem_cons_zero,Nat.add_zero]at c0
 have h0i:(0:Int)<((s::u).length:Int):=by simp only[List.length_cons];omega
 go_wp2_with fail
 refine(HO.out _).mono ?_
 rintro e w2 ⟨rfl,b2⟩
 have HR2:Hid (w2.heap[w.heap.size+1]? = some (.cells #[.int .i64 0,.int .i64 0,.string ⟨#[]⟩,.slice none 0 0,.slice none 0 0,.slice none 0 0] 46 (0,0))):=Lib.hid ((b2.block _ (lt_of_at HA2.out)).trans HA2.out)
 have HX2:Hid (w2.heap[w.heap.size]? = some (.cells #[.int .i64 (r:Nat)] 80 (0,0))):=Lib.hid ((b2.block _ (lt_of_at HA1.out)).trans HA1.out)
 have HB2:=Lib.hid (HB1.out.trans (b2.mono HB1.out.size))
 have HRd2:=Lib.hid (HRd.out w2 HB2.out)
 clear b2 HO HA1 HA2 HB1 c0
 obtain⟨b0',o0',hbo,c0⟩:=Bt.Rd.at HRd2.out 0 (by simp)
 simp only[Option.some.injEq,Addr.mk.injEq,and_true]at hbo
 obtain⟨rfl,rfl⟩:=hbo
 simp only[List.getElem_cons_zero,Nat.add_zero]at c0
 generalize S s=ss at *
 go_wp2_with fail
 refine(HC.out _).mono ?_
 rintro e w3 ⟨vl,vs',vk,rfl,b3,hkb⟩
 have hkb0:=hkb w3 (Keep.refl _ _)
 obtain⟨al,cl,hvl⟩:=hkb0.rd.len
 obtain⟨as',cs,hvs⟩:=hkb0.sp.len
 obtain⟨ak,ck,hvk⟩:=hkb0.tr.len
 simp only at hvl hvs hvk
 subst hvl;subst hvs;subst hvk
 have HKB:=Lib.hid hkb
 have HR3:Hid (w3.heap[w.heap.size+1]? = some (.cells #[.int .i64 0,.int .i64 0,.string ⟨#[]⟩,.slice none 0 0,.slice none 0 0,.slice none 0 0] 46 (0,0))):=Lib.hid ((b3.block _ (lt_of_at HR2.out)).trans HR2.out)
 have HB3:=Lib.hid (HB2.out.trans (b3.mono HB2.out.size))
 have hlt2:=lt_of_at HR2.out
 have hz2:=HB2.out.size
 clear b3 hkb hkb0 HR2 HX2 HB2
 have k0:w3.cell? ⟨w.heap.size+1,0,none⟩=some (.int .i64 0):=cell_at HR3.out 0
 have f0:w3.frozen? ⟨w.heap.size+1,0,none⟩=false:=frozen_at HR3.out 0
 have k1:w3.cell? ⟨w.heap.size+1,1,none⟩=some (.int .i64 0):=cell_at HR3.out 1
 have f1:w3.frozen? ⟨w.heap.size+1,1,none⟩=false:=frozen_at HR3.out 1
 have k2:w3.cell? ⟨w.heap.size+1,2,none⟩=some (.string ⟨#[]⟩):=cell_at HR3.out 2
 have f2:w3.frozen? ⟨w.heap.size+1,2,none⟩=false:=frozen_at HR3.out 2
 have k3:w3.cell? ⟨w.heap.size+1,3,none⟩=some (.slice none 0 0):=cell_at HR3.out 3
 have f3:w3.frozen? ⟨w.heap.size+1,3,none⟩=false:=frozen_at HR3.out 3
 have k4:w3.cell? ⟨w.heap.size+1,4,none⟩=some (.slice none 0 0):=cell_at HR3.out 4
 have f4:w3.frozen? ⟨w.heap.size+1,4,none⟩=false:=frozen_at HR3.out 4
 have k5:w3.cell? ⟨w.heap.size+1,5,none⟩=some (.slice none 0 0):=cell_at HR3.out 5
 have f5:w3.frozen? ⟨w.heap.size+1,5,none⟩=false:=frozen_at HR3.out 5
 go_wp2_with fail
 have HS:=Lib.hid (Kd.set6 (u0:=.int .i64 b.kind) (u1:=.int .i64 b.level) (u2:=.string (S b.info)) (u3:=.slice al b.lines.length cl) (u4:=.slice as' b.spans.length cs) (u5:=.slice ak b.kids.length ck) HR3.out)
 have HB9:=Lib.hid (Kd.set6_below HB3.out (Nat.le_succ _) (.int .i64 b.kind) (.int .i64 b.level) (.string (S b.info)) (.slice al b.lines.length cl) (.slice as' b.spans.length cs) (.slice ak b.kids.length ck))
 have HK9:=Lib.hid (fun B hB=>set6_keep (w:=w3) (b:=w.heap.size+1) (B:=B) hB (.int .i64 b.kind) (.int .i64 b.level) (.string (S b.info)) (.slice al b.lines.length cl) (.slice as' b.spans.length cs) (.slice ak b.kids.length ck))
 generalize ((((((w3.setCell ⟨w.heap.size+1,0,none⟩ (.int .i64 b.kind)).setCell ⟨w.heap.size+1,1,none⟩ (.int .i64 b.level)).setCell ⟨w.heap.size+1,2,none⟩ (.string (S b.info))).setCell ⟨w.heap.size+1,3,none⟩ (.slice al b.lines.length cl)).setCell ⟨w.heap.size+1,4,none⟩ (.slice as' b.spans.length cs)).setCell ⟨w.heap.size+1,5,none⟩ (.slice ak b.kids.length ck))=w9 at *
 have r0:w9.cell? ⟨w.heap.size+1,0,none⟩=some (.int .i64 b.kind):=cell_at HS.out 0
 have r1:w9.cell? ⟨w.heap.size+1,1,none⟩=some (.int .i64 b.level):=cell_at HS.out 1
 have r2:w9.cell? ⟨w.heap.size+1,2,none⟩=some (.string (S b.info)):=cell_at HS.out 2
 have r3:w9.cell? ⟨w.heap.size+1,3,none⟩=some (.slice al b.lines.length cl):=cell_at HS.out 3
 have r4:w9.cell? ⟨w.heap.size+1,4,none⟩=some (.slice as' b.spans.length cs):=cell_at HS.out 4
 have r5:w9.cell? ⟨w.heap.size+1,5,none⟩=some (.slice ak b.kids.length ck):=cell_at HS.out 5
 exact bodyPost_ret (v:=.tuple #[.agg #[.int .i64 b.kind,.int .i64 b.level,.string (S b.info),.slice al b.lines.length cl,.slice as' b.spans.length cs,.slice ak b.kids.length ck],.int .i64 ((0:Nat):Int)]) (by simp[results,Tryz.results100,go_sem,r0,r1,r2,r3,r4,r5]) rfl (by rw[HV.out];exact ans_bz (o:=some b) rfl HB9.out hz2 (HK9.out _ hlt2) HKB.out)
set_option maxHeartbeats 3200000 in
set_option maxRecDepth 100000 in
theorem blockP3_any (d:Nat) (v:Value) (s:Tx) (u:List Tx) (w:World) (hr:Rd w v (s::u)) (ht:tot (s::u)≤260000) (hk:kindOf E0 s=3) (hre:restB s u=[]):
  Calls Tryz.prog 100 #[rdV (16-d),v] w (BlockAns w (valB allE d s u) (er (valB allE d s u))):=by
 obtain⟨ao,ca,rfl⟩:=hr.len
 have hsz:s.length≤260000:=by have:=tot_mem (s::u) s (List.mem_cons_self ..);omega
 have HRd:=Lib.hid (fun w' (h:Below w.heap.size w w')=>hr.below h)
 have HO:Hid (∀w',Calls Tryz.prog 25 #[.string (S s)] w' (NumK w' 3)):=Lib.hid (fun w'=>by
  have h:=told11.of (S s) w' (by rw[S_size];exact hsz)
  rw[S_list,hk]at h
  exact h)
 unfold NumK at HO
 obtain⟨r,hrr⟩:∃r,16-d=r:=⟨_,rfl⟩
 have HV:Hid (valB allE d s u=some (.mk 3 0 [] [] [] [])):=Lib.hid (val3 hk)
 rw[hrr]
 unfold rdV
 generalize valB allE d s u=O at *
 clear hk hre hr ht hrr hsz
 have HA0:=alloc_at (alloc_new w (.cells #[.int .i64 (r:Nat)] 80)) (.cells #[.int .i64 0,.int .i64 0,.string ⟨#[]⟩,.slice none 0 0,.slice none 0 0,.slice none 0 0] 46)
 have HA2:Hid ((((w.alloc (.cells #[.int .i64 (r:Nat)] 80)).alloc (.cells #[.int .i64 0,.int .i64 0,.string ⟨#[]⟩,.slice none 0 0,.slice none 0 0,.slice none 0 0] 46)).heap[(w.alloc (.cells #[.int .i64 (r:Nat)] 80)).heap.size]?)=some (.cells #[.int .i64 0,.int .i64 0,.string ⟨#[]⟩,.slice none 0 0,.slice none 0 0,.slice none 0 0] 46 (0,0))):=Lib.hid (alloc_new _ _)
 have hz1:(w.alloc (.cells #[.int .i64 (r:Nat)] 80)).heap.size=w.heap.size+1:=by simp
 rw[hz1]at HA2
 have HB1:=Lib.hid (((Below.refl w.heap.size w).alloc (Nat.le_refl _) (.cells #[.int .i64 (r:Nat)] 80)).alloc (by simp) (.cells #[.int .i64 0,.int .i64 0,.string ⟨#[]⟩,.slice none 0 0,.slice none 0 0,.slice none 0 0] 46))
 have HA1:=Lib.hid HA0
 clear HA0
 go_enter Tryz.func100,Tryz.ntmps100
 go_upto_region 1 with fail
 try rw[hz1]
 clear hz1
 generalize (w.alloc (.cells #[.int .i64 (r:Nat)] 80)).alloc (.cells #[.int .i64 0,.int .i64 0,.string ⟨#[]⟩,.slice none 0 0,.slice none 0 0,.slice none 0 0] 46)=w1 at *
 obtain⟨b0,o0,hbo,c0⟩:=Bt.Rd.at (HRd.out w1 HB1.out) 0 (by simp)
 subst hbo
 simp only[List.getElem_cons_zero,Nat.add_zero]at c0
 have h0i:(0:Int)<((s::u).length:Int):=by simp only[List.length_cons];omega
 go_wp2_with fail
 refine(HO.out _).mono ?_
 rintro e w2 ⟨rfl,b2⟩
 have HR2:Hid (w2.heap[w.heap.size+1]? = some (.cells #[.int .i64 0,.int .i64 0,.string ⟨#[]⟩,.slice none 0 0,.slice none 0 0,.slice none 0 0] 46 (0,0))):=Lib.hid ((b2.block _ (lt_of_at HA2.out)).trans HA2.out)
 have HX2:Hid (w2.heap[w.heap.size]? = some (.cells #[.int .i64 (r:Nat)] 80 (0,0))):=Lib.hid ((b2.block _ (lt_of_at HA1.out)).trans HA1.out)
 have HB2:=Lib.hid (HB1.out.trans (b2.mono HB1.out.size))
 have HRd2:=Lib.hid (HRd.out w2 HB2.out)
 clear b2 HO HA1 HA2 HB1 c0
 have k0:w2.cell? ⟨w.heap.size+1,0,none⟩=some (.int .i64 0):=cell_at HR2.out 0
 have f0:w2.frozen? ⟨w.heap.size+1,0,none⟩=false:=frozen_at HR2.out 0
 have k1:w2.cell? ⟨w.heap.size+1,1,none⟩=some (.int .i64 0):=cell_at HR2.out 1
 have f1:w2.frozen? ⟨w.heap.size+1,1,none⟩=false:=frozen_at HR2.out 1
 have k2:w2.cell? ⟨w.heap.size+1,2,none⟩=some (.string ⟨#[]⟩):=cell_at HR2.out 2
 have f2:w2.frozen? ⟨w.heap.size+1,2,none⟩=false:=frozen_at HR2.out 2
 have k3:w2.cell? ⟨w.heap.size+1,3,none⟩=some (.slice none 0 0):=cell_at HR2.out 3
 have f3:w2.frozen? ⟨w.heap.size+1,3,none⟩=false:=frozen_at HR2.out 3
 have k4:w2.cell? ⟨w.heap.size+1,4,none⟩=some (.slice none 0 0):=cell_at HR2.out 4
 have f4:w2.frozen? ⟨w.heap.size+1,4,none⟩=false:=frozen_at HR2.out 4
 have k5:w2.cell? ⟨w.heap.size+1,5,none⟩=some (.slice none 0 0):=cell_at HR2.out 5
 have f5:w2.frozen? ⟨w.heap.size+1,5,none⟩=false:=frozen_at HR2.out 5
 go_wp2_with fail
 have HS:=Lib.hid (Kd.set6 (u0:=.int .i64 3) (u1:=.int .i64 0) (u2:=.string ⟨#[]⟩) (u3:=.slice none 0 0) (u4:=.slice none 0 0) (u5:=.slice none 0 0) HR2.out)
 have HB9:=Lib.hid (Kd.set6_below HB2.out (Nat.le_succ _) (.int .i64 3) (.int .i64 0) (.string ⟨#[]⟩) (.slice none 0 0) (.slice none 0 0) (.slice none 0 0))
 have HK9:=Lib.hid (fun B hB=>set6_keep (w:=w2) (b:=w.heap.size+1) (B:=B) hB (.int .i64 3) (.int .i64 0) (.string ⟨#[]⟩) (.slice none 0 0) (.slice none 0 0) (.slice none 0 0))
 generalize ((((((w2.setCell ⟨w.heap.size+1,0,none⟩ (.int .i64 3)).setCell ⟨w.heap.size+1,1,none⟩ (.int .i64 0)).setCell ⟨w.heap.size+1,2,none⟩ (.string ⟨#[]⟩)).setCell ⟨w.heap.size+1,3,none⟩ (.slice none 0 0)).setCell ⟨w.heap.size+1,4,none⟩ (.slice none 0 0)).setCell ⟨w.heap.size+1,5,none⟩ (.slice none 0 0))=w9 at *
 have r0:w9.cell? ⟨w.heap.size+1,0,none⟩=some (.int .i64 3):=cell_at HS.out 0
 have r1:w9.cell? ⟨w.heap.size+1,1,none⟩=some (.int .i64 0):=cell_at HS.out 1
 have r2:w9.cell? ⟨w.heap.size+1,2,none⟩=some (.string ⟨#[]⟩):=cell_at HS.out 2
 have r3:w9.cell? ⟨w.heap.size+1,3,none⟩=some (.slice none 0 0):=cell_at HS.out 3
 have r4:w9.cell? ⟨w.heap.size+1,4,none⟩=some (.slice none 0 0):=cell_at HS.out 4
 have r5:w9.cell? ⟨w.heap.size+1,5,none⟩=some (.slice none 0 0):=cell_at HS.out 5
 exact bodyPost_ret (v:=.tuple #[.agg #[.int .i64 3,.int .i64 0,.string ⟨#[]⟩,.slice none 0 0,.slice none 0 0,.slice none 0 0],.int .i64 ((0:Nat):Int)]) (by simp[results,Tryz.results100,go_sem,r0,r1,r2,r3,r4,r5]) rfl (by rw[HV.out];exact ans_some (inf:=[]) (n:=0) (p:=0) rfl rfl HB9.out (frRd_nil _ _) (by simp) (frTr_nil _ _) (frB_nil _ _))
set_option maxHeartbeats 3200000 in
set_option maxRecDepth 100000 in
theorem blockP4_any (d:Nat) (v:Value) (s:Tx) (u:List Tx) (w:World) (hr:Rd w v (s::u)) (ht:tot (s::u)≤260000) (hk:kindOf E0 s=4) (hre:restB s u=[]):
  Calls Tryz.prog 100 #[rdV (16-d),v] w (BlockAns w (valB allE d s u) (er (valB allE d s u))):=by
 obtain⟨ao,ca,rfl⟩:=hr.len
 have hsz:s.length≤260000:=by have:=tot_mem (s::u) s (List.mem_cons_self ..);omega
 have HRd:=Lib.hid (fun w' (h:Below w.heap.size w w')=>hr.below h)
 have HO:Hid (∀w',Calls Tryz.prog 25 #[.string (S s)] w' (NumK w' 4)):=Lib.hid (fun w'=>by
  have h:=told11.of (S s) w' (by rw[S_size];exact hsz)
  rw[S_list,hk]at h
  exact h)
 unfold NumK at HO
 obtain⟨r,hrr⟩:∃r,16-d=r:=⟨_,rfl⟩
 have HC:=Lib.hid (fun w' (h:Rd w' (.slice ao (s::u).length ca) (s::u))=>fenceB_any _ s u w' h ht hk hre)
 obtain⟨b,hb⟩:∃b,Bk.mk 4 0 (trim (s.drop (run 96 s))) (fenceL (run 96 s) u).1 [] []=b:=⟨_,rfl⟩
 have HV:Hid (valB allE d s u=some b):=Lib.hid (by rw[val4 hk,←hb])
 simp only[hb]at HC
 rw[hrr]
 unfold rdV
 generalize valB allE d s u=O at *
 unfold BlkF at HC
 clear hb hk hre hr ht hrr hsz
 have HA0:=alloc_at (alloc_new w (.cells #[.int .i64 (r:Nat)] 80)) (.cells #[.int .i64 0,.int .i64 0,.string ⟨#[]⟩,.slice none 0 0,.slice none 0 0,.slice none 0 0] 46)
 have HA2:Hid ((((w.alloc (.cells #[.int .i64 (r:Nat)] 80)).alloc (.cells #[.int .i64 0,.int .i64 0,.string ⟨#[]⟩,.slice none 0 0,.slice none 0 0,.slice none 0 0] 46)).heap[(w.alloc (.cells #[.int .i64 (r:Nat)] 80)).heap.size]?)=some (.cells #[.int .i64 0,.int .i64 0,.string ⟨#[]⟩,.slice none 0 0,.slice none 0 0,.slice none 0 0] 46 (0,0))):=Lib.hid (alloc_new _ _)
 have hz1:(w.alloc (.cells #[.int .i64 (r:Nat)] 80)).heap.size=w.heap.size+1:=by simp
 rw[hz1]at HA2
 have HB1:=Lib.hid (((Below.refl w.heap.size w).alloc (Nat.le_refl _) (.cells #[.int .i64 (r:Nat)] 80)).alloc (by simp) (.cells #[.int .i64 0,.int .i64 0,.string ⟨#[]⟩,.slice none 0 0,.slice none 0 0,.slice none 0 0] 46))
 have HA1:=Lib.hid HA0
 clear HA0
 go_enter Tryz.func100,Tryz.ntmps100
 go_upto_region 1 with fail
 try rw[hz1]
 clear hz1
 generalize (w.alloc (.cells #[.int .i64 (r:Nat)] 80)).alloc (.cells #[.int .i64 0,.int .i64 0,.string ⟨#[]⟩,.slice none 0 0,.slice none 0 0,.slice none 0 0] 46)=w1 at *
 obtain⟨b0,o0,hbo,c0⟩:=Bt.Rd.at (HRd.out w1 HB1.out) 0 (by simp)
 subst hbo
 simp only[List.getElem_cons_zero,Nat.add_zero]at c0
 have h0i:(0:Int)<((s::u).length:Int):=by simp only[List.length_cons];omega
 go_wp2_with fail
 refine(HO.out _).mono ?_
 rintro e w2 ⟨rfl,b2⟩
 have HR2:Hid (w2.heap[w.heap.size+1]? = some (.cells #[.int .i64 0,.int .i64 0,.string ⟨#[]⟩,.slice none 0 0,.slice none 0 0,.slice none 0 0] 46 (0,0))):=Lib.hid ((b2.block _ (lt_of_at HA2.out)).trans HA2.out)
 have HX2:Hid (w2.heap[w.heap.size]? = some (.cells #[.int .i64 (r:Nat)] 80 (0,0))):=Lib.hid ((b2.block _ (lt_of_at HA1.out)).trans HA1.out)
 have HB2:=Lib.hid (HB1.out.trans (b2.mono HB1.out.size))
 have HRd2:=Lib.hid (HRd.out w2 HB2.out)
 clear b2 HO HA1 HA2 HB1 c0
 have HCd:=Lib.hid (HC.out w2 HRd2.out)
 generalize S s=ss at *
 go_wp2_with fail
 refine HCd.out.mono ?_
 rintro e w3 ⟨vl,vs',vk,rfl,b3,hkb⟩
 have hkb0:=hkb w3 (Keep.refl _ _)
 obtain⟨al,cl,hvl⟩:=hkb0.rd.len
 obtain⟨as',cs,hvs⟩:=hkb0.sp.len
 obtain⟨ak,ck,hvk⟩:=hkb0.tr.len
 simp only at hvl hvs hvk
 subst hvl;subst hvs;subst hvk
 have HKB:=Lib.hid hkb
 have HR3:Hid (w3.heap[w.heap.size+1]? = some (.cells #[.int .i64 0,.int .i64 0,.string ⟨#[]⟩,.slice none 0 0,.slice none 0 0,.slice none 0 0] 46 (0,0))):=Lib.hid ((b3.block _ (lt_of_at HR2.out)).trans HR2.out)
 have HB3:=Lib.hid (HB2.out.trans (b3.mono HB2.out.size))
 have hlt2:=lt_of_at HR2.out
 have hz2:=HB2.out.size
 clear b3 hkb hkb0 HR2 HX2 HB2
 have k0:w3.cell? ⟨w.heap.size+1,0,none⟩=some (.int .i64 0):=cell_at HR3.out 0
 have f0:w3.frozen? ⟨w.heap.size+1,0,none⟩=false:=frozen_at HR3.out 0
 have k1:w3.cell? ⟨w.heap.size+1,1,none⟩=some (.int .i64 0):=cell_at HR3.out 1
 have f1:w3.frozen? ⟨w.heap.size+1,1,none⟩=false:=frozen_at HR3.out 1
 have k2:w3.cell? ⟨w.heap.size+1,2,none⟩=some (.string ⟨#[]⟩):=cell_at HR3.out 2
 have f2:w3.frozen? ⟨w.heap.size+1,2,none⟩=false:=frozen_at HR3.out 2
 have k3:w3.cell? ⟨w.heap.size+1,3,none⟩=some (.slice none 0 0):=cell_at HR3.out 3
 have f3:w3.frozen? ⟨w.heap.size+1,3,none⟩=false:=frozen_at HR3.out 3
 have k4:w3.cell? ⟨w.heap.size+1,4,none⟩=some (.slice none 0 0):=cell_at HR3.out 4
 have f4:w3.frozen? ⟨w.heap.size+1,4,none⟩=false:=frozen_at HR3.out 4
 have k5:w3.cell? ⟨w.heap.size+1,5,none⟩=some (.slice none 0 0):=cell_at HR3.out 5
 have f5:w3.frozen? ⟨w.heap.size+1,5,none⟩=false:=frozen_at HR3.out 5
 go_wp2_with fail
 have HS:=Lib.hid (Kd.set6 (u0:=.int .i64 b.kind) (u1:=.int .i64 b.level) (u2:=.string (S b.info)) (u3:=.slice al b.lines.length cl) (u4:=.slice as' b.spans.length cs) (u5:=.slice ak b.kids.length ck) HR3.out)
 have HB9:=Lib.hid (Kd.set6_below HB3.out (Nat.le_succ _) (.int .i64 b.kind) (.int .i64 b.level) (.string (S b.info)) (.slice al b.lines.length cl) (.slice as' b.spans.length cs) (.slice ak b.kids.length ck))
 have HK9:=Lib.hid (fun B hB=>set6_keep (w:=w3) (b:=w.heap.size+1) (B:=B) hB (.int .i64 b.kind) (.int .i64 b.level) (.string (S b.info)) (.slice al b.lines.length cl) (.slice as' b.spans.length cs) (.slice ak b.kids.length ck))
 generalize ((((((w3.setCell ⟨w.heap.size+1,0,none⟩ (.int .i64 b.kind)).setCell ⟨w.heap.size+1,1,none⟩ (.int .i64 b.level)).setCell ⟨w.heap.size+1,2,none⟩ (.string (S b.info))).setCell ⟨w.heap.size+1,3,none⟩ (.slice al b.lines.length cl)).setCell ⟨w.heap.size+1,4,none⟩ (.slice as' b.spans.length cs)).setCell ⟨w.heap.size+1,5,none⟩ (.slice ak b.kids.length ck))=w9 at *
 have r0:w9.cell? ⟨w.heap.size+1,0,none⟩=some (.int .i64 b.kind):=cell_at HS.out 0
 have r1:w9.cell? ⟨w.heap.size+1,1,none⟩=some (.int .i64 b.level):=cell_at HS.out 1
 have r2:w9.cell? ⟨w.heap.size+1,2,none⟩=some (.string (S b.info)):=cell_at HS.out 2
 have r3:w9.cell? ⟨w.heap.size+1,3,none⟩=some (.slice al b.lines.length cl):=cell_at HS.out 3
 have r4:w9.cell? ⟨w.heap.size+1,4,none⟩=some (.slice as' b.spans.length cs):=cell_at HS.out 4
 have r5:w9.cell? ⟨w.heap.size+1,5,none⟩=some (.slice ak b.kids.length ck):=cell_at HS.out 5
 exact bodyPost_ret (v:=.tuple #[.agg #[.int .i64 b.kind,.int .i64 b.level,.string (S b.info),.slice al b.lines.length cl,.slice as' b.spans.length cs,.slice ak b.kids.length ck],.int .i64 ((0:Nat):Int)]) (by simp[results,Tryz.results100,go_sem,r0,r1,r2,r3,r4,r5]) rfl (by rw[HV.out];exact ans_bz (o:=some b) rfl HB9.out hz2 (HK9.out _ hlt2) HKB.out)
set_option maxHeartbeats 3200000 in
set_option maxRecDepth 100000 in
theorem blockP5_any (d:Nat) (HD:ContC d) (v:Value) (s:Tx) (u:List Tx) (w:World) (hr:Rd w v (s::u)) (ht:tot (s::u)≤260000) (hk:kindOf E0 s=5) (hre:restB s u=[]):
  Calls Tryz.prog 100 #[rdV (16-d),v] w (BlockAns w (valB allE d s u) (er (valB allE d s u))):=by
 obtain⟨ao,ca,rfl⟩:=hr.len
 have hsz:s.length≤260000:=by have:=tot_mem (s::u) s (List.mem_cons_self ..);omega
 have HRd:=Lib.hid (fun w' (h:Below w.heap.size w w')=>hr.below h)
 have HO:Hid (∀w',Calls Tryz.prog 25 #[.string (S s)] w' (NumK w' 5)):=Lib.hid (fun w'=>by
  have h:=told11.of (S s) w' (by rw[S_size];exact hsz)
  rw[S_list,hk]at h
  exact h)
 unfold NumK at HO
 obtain⟨r,hrr⟩:∃r,16-d=r:=⟨_,rfl⟩
 have hsp:(spanK E0 5 (s::u)).1=s::u:=span_whole (by rw[←rest5 hk];exact hre)
 have hq:(s::u).map uqT=quoted s u:=by
  unfold quoted
  rw[hsp]
  refine List.map_congr_left (fun x hx=>?_)
  have:kindOf E0 x=5:=span_kind 5 (s::u) x (by rw[hsp];exact hx)
  exact if_pos this
 have HQ:=Lib.hid (fun w' (h:Rd w' (.slice ao (s::u).length ca) (s::u))=>quotedP_any _ (s::u) w' h ht)
 have htq:tot (quoted s u)≤260000:=by
  unfold quoted
  rw[hsp]
  exact Nat.le_trans (tot_map unquote unq_len (s::u)) ht
 simp only[hq]at HQ
 have HC:=Lib.hid (fun v' w' (h:Rd w' v' (quoted s u))=>HD 5 v' (quoted s u) w' h htq)
 have hv:valB allE d s u=inD d 5 (quoted s u):=by rw[val5 hk];rfl
 rw[hv]
 rw[hrr]at HC
 rw[hrr]
 unfold rdV at *
 generalize inD d 5 (quoted s u)=o at *
 generalize quoted s u=tx at *
 unfold RowAns at HQ
 unfold BlockAns at HC
 clear hsp hq hk hre hr ht hrr hsz htq hv HD
 have HA0:=alloc_at (alloc_new w (.cells #[.int .i64 (r:Nat)] 80)) (.cells #[.int .i64 0,.int .i64 0,.string ⟨#[]⟩,.slice none 0 0,.slice none 0 0,.slice none 0 0] 46)
 have HA2:Hid ((((w.alloc (.cells #[.int .i64 (r:Nat)] 80)).alloc (.cells #[.int .i64 0,.int .i64 0,.string ⟨#[]⟩,.slice none 0 0,.slice none 0 0,.slice none 0 0] 46)).heap[(w.alloc (.cells #[.int .i64 (r:Nat)] 80)).heap.size]?)=some (.cells #[.int .i64 0,.int .i64 0,.string ⟨#[]⟩,.slice none 0 0,.slice none 0 0,.slice none 0 0] 46 (0,0))):=Lib.hid (alloc_new _ _)
 have hz1:(w.alloc (.cells #[.int .i64 (r:Nat)] 80)).heap.size=w.heap.size+1:=by simp
 rw[hz1]at HA2
 have HB1:=Lib.hid (((Below.refl w.heap.size w).alloc (Nat.le_refl _) (.cells #[.int .i64 (r:Nat)] 80)).alloc (by simp) (.cells #[.int .i64 0,.int .i64 0,.string ⟨#[]⟩,.slice none 0 0,.slice none 0 0,.slice none 0 0] 46))
 have HA1:=Lib.hid HA0
 clear HA0
 go_enter Tryz.func100,Tryz.ntmps100
 go_upto_region 1 with fail
 try rw[hz1]
 clear hz1
 generalize (w.alloc (.cells #[.int .i64 (r:Nat)] 80)).alloc (.cells #[.int .i64 0,.int .i64 0,.string ⟨#[]⟩,.slice none 0 0,.slice none 0 0,.slice none 0 0] 46)=w1 at *
 obtain⟨b0,o0,hbo,c0⟩:=Bt.Rd.at (HRd.out w1 HB1.out) 0 (by simp)
 subst hbo
 simp only[List.getElem_cons_zero,Nat.add_zero]at c0
 have h0i:(0:Int)<((s::u).length:Int):=by simp only[List.length_cons];omega
 go_wp2_with fail
 refine(HO.out _).mono ?_
 rintro e w2 ⟨rfl,b2⟩
 have HR2:Hid (w2.heap[w.heap.size+1]? = some (.cells #[.int .i64 0,.int .i64 0,.string ⟨#[]⟩,.slice none 0 0,.slice none 0 0,.slice none 0 0] 46 (0,0))):=Lib.hid ((b2.block _ (lt_of_at HA2.out)).trans HA2.out)
 have HX2:Hid (w2.heap[w.heap.size]? = some (.cells #[.int .i64 (r:Nat)] 80 (0,0))):=Lib.hid ((b2.block _ (lt_of_at HA1.out)).trans HA1.out)
 have HB2:=Lib.hid (HB1.out.trans (b2.mono HB1.out.size))
 have HRd2:=Lib.hid (HRd.out w2 HB2.out)
 clear b2 HO HA1 HA2 HB1 c0
 have HQ2:=Lib.hid (fun w' (hb:Below w2.heap.size w2 w')=>HQ.out w' (HRd2.out.below hb))
 have HS:Hid (∀W:World,Keep (fun k=>k=w.heap.size+1) w2 W→W.cell? ⟨w.heap.size,0,none⟩=some (.int .i64 (r:Nat))):=Lib.hid (fun W hW=>cell_at (hW.at HX2.out (by omega)) 0)
 have HS6:Hid (∀(W:World) (u0 u1 u2 u3 u4 u5:Value),Keep (fun k=>k=w.heap.size+1) w2 W→((((((W.setCell ⟨w.heap.size+1,0,none⟩ u0).setCell ⟨w.heap.size+1,1,none⟩ u1).setCell ⟨w.heap.size+1,2,none⟩ u2).setCell ⟨w.heap.size+1,3,none⟩ u3).setCell ⟨w.heap.size+1,4,none⟩ u4).setCell ⟨w.heap.size+1,5,none⟩ u5).cell? ⟨w.heap.size,0,none⟩=some (.int .i64 (r:Nat))):=Lib.hid (fun W u0 u1 u2 u3 u4 u5 h=>HS.out _ ((((((h.setCell (p:=⟨w.heap.size+1,0,none⟩) (Or.inl rfl) u0).setCell (p:=⟨w.heap.size+1,1,none⟩) (Or.inl rfl) u1).setCell (p:=⟨w.heap.size+1,2,none⟩) (Or.inl rfl) u2).setCell (p:=⟨w.heap.size+1,3,none⟩) (Or.inl rfl) u3).setCell (p:=⟨w.heap.size+1,4,none⟩) (Or.inl rfl) u4).setCell (p:=⟨w.heap.size+1,5,none⟩) (Or.inl rfl) u5))
 have s0:=HS.out w2 (Keep.refl _ _)
 have hlt2:=lt_of_at HR2.out
 have hz2:=HB2.out.size
 generalize S s=ss at *
 go_upto_region 9 with fail
 go_region_held3 (fun W=>W.cell? ⟨w.heap.size,0,none⟩=some (.int .i64 (r:Nat)))
  (first |with_reducible exact HS.out _ (by first |exact Keep.refl _ _ |exact(Keep.refl _ _).drew |exact(Keep.trans (Keep.refl _ _).drew (Keep.of_below (by assumption)))|exact(Keep.trans (Keep.trans (Keep.refl _ _).drew (Keep.of_below (by assumption))) (Keep.of_below (by assumption))))|with_reducible exact HS6.out _ _ _ _ _ _ _ (Keep.trans (Keep.trans (Keep.refl _ _).drew (Keep.of_below (by assumption))) (Keep.of_below (by assumption))))
  (first
   |(go_at_call 135;refine(HQ2.out _ ((Below.refl _ _).drew)).mono ?_;rintro e w7 ⟨vi,rfl,hoi,b7⟩;have HRi:=Lib.hid (OutS.rd hoi);obtain⟨ai,ci,hvi⟩:=(OutS.rd hoi).len;subst hvi;clear hoi)
   |(go_at_call 134;refine(HC.out _ _ HRi.out).mono ?_;rintro e w8 ⟨vl,vs',vk,rfl,b8,hkb⟩;have hkb0:=hkb w8 (Keep.refl _ _);obtain⟨al,cl,hvl⟩:=hkb0.rd.len;obtain⟨as',cs,hvs⟩:=hkb0.sp.len;obtain⟨ak,ck,hvk⟩:=hkb0.tr.len;simp only at hvl hvs hvk;subst hvl;subst hvs;subst hvk;have HKB:=Lib.hid hkb;clear hkb hkb0;have HR8:Hid (w8.heap[w.heap.size+1]? = some (.cells #[.int .i64 0,.int .i64 0,.string ⟨#[]⟩,.slice none 0 0,.slice none 0 0,.slice none 0 0] 46 (0,0))):=Lib.hid ((b8.block _ (Nat.lt_of_lt_of_le hlt2 b7.size)).trans ((b7.block _ hlt2).trans HR2.out));have z0:w8.cell? ⟨w.heap.size+1,0,none⟩=some (.int .i64 0):=cell_at HR8.out 0;have y0:w8.frozen? ⟨w.heap.size+1,0,none⟩=false:=frozen_at HR8.out 0;have z1:w8.cell? ⟨w.heap.size+1,1,none⟩=some (.int .i64 0):=cell_at HR8.out 1;have y1:w8.frozen? ⟨w.heap.size+1,1,none⟩=false:=frozen_at HR8.out 1;have z2:w8.cell? ⟨w.heap.size+1,2,none⟩=some (.string ⟨#[]⟩):=cell_at HR8.out 2;have y2:w8.frozen? ⟨w.heap.size+1,2,none⟩=false:=frozen_at HR8.out 2;have z3:w8.cell? ⟨w.heap.size+1,3,none⟩=some (.slice none 0 0):=cell_at HR8.out 3;have y3:w8.frozen? ⟨w.heap.size+1,3,none⟩=false:=frozen_at HR8.out 3;have z4:w8.cell? ⟨w.heap.size+1,4,none⟩=some (.slice none 0 0):=cell_at HR8.out 4;have y4:w8.frozen? ⟨w.heap.size+1,4,none⟩=false:=frozen_at HR8.out 4;have z5:w8.cell? ⟨w.heap.size+1,5,none⟩=some (.slice none 0 0):=cell_at HR8.out 5;have y5:w8.frozen? ⟨w.heap.size+1,5,none⟩=false:=frozen_at HR8.out 5))
 have h27:w2.heap.size≤w7.heap.size:=b7.size
 have HB8:=Lib.hid (HB2.out.trans ((((Below.refl w2.heap.size w2).drew.trans b7).trans (b8.mono h27)).mono hz2))
 go_wp2_with fail
 have HS:=Lib.hid (Kd.set6 (u0:=.int .i64 (bz o).kind) (u1:=.int .i64 (bz o).level) (u2:=.string (S (bz o).info)) (u3:=.slice al (bz o).lines.length cl) (u4:=.slice as' (bz o).spans.length cs) (u5:=.slice ak (bz o).kids.length ck) HR8.out)
 have HB9:=Lib.hid (Kd.set6_below HB8.out (Nat.le_succ _) (.int .i64 (bz o).kind) (.int .i64 (bz o).level) (.string (S (bz o).info)) (.slice al (bz o).lines.length cl) (.slice as' (bz o).spans.length cs) (.slice ak (bz o).kids.length ck))
 have HK9:=Lib.hid (fun B hB=>set6_keep (w:=w8) (b:=w.heap.size+1) (B:=B) hB (.int .i64 (bz o).kind) (.int .i64 (bz o).level) (.string (S (bz o).info)) (.slice al (bz o).lines.length cl) (.slice as' (bz o).spans.length cs) (.slice ak (bz o).kids.length ck))
 generalize ((((((w8.setCell ⟨w.heap.size+1,0,none⟩ (.int .i64 (bz o).kind)).setCell ⟨w.heap.size+1,1,none⟩ (.int .i64 (bz o).level)).setCell ⟨w.heap.size+1,2,none⟩ (.string (S (bz o).info))).setCell ⟨w.heap.size+1,3,none⟩ (.slice al (bz o).lines.length cl)).setCell ⟨w.heap.size+1,4,none⟩ (.slice as' (bz o).spans.length cs)).setCell ⟨w.heap.size+1,5,none⟩ (.slice ak (bz o).kids.length ck))=w9 at *
 have r0:w9.cell? ⟨w.heap.size+1,0,none⟩=some (.int .i64 (bz o).kind):=cell_at HS.out 0
 have r1:w9.cell? ⟨w.heap.size+1,1,none⟩=some (.int .i64 (bz o).level):=cell_at HS.out 1
 have r2:w9.cell? ⟨w.heap.size+1,2,none⟩=some (.string (S (bz o).info)):=cell_at HS.out 2
 have r3:w9.cell? ⟨w.heap.size+1,3,none⟩=some (.slice al (bz o).lines.length cl):=cell_at HS.out 3
 have r4:w9.cell? ⟨w.heap.size+1,4,none⟩=some (.slice as' (bz o).spans.length cs):=cell_at HS.out 4
 have r5:w9.cell? ⟨w.heap.size+1,5,none⟩=some (.slice ak (bz o).kids.length ck):=cell_at HS.out 5
 exact bodyPost_ret (v:=.tuple #[.agg #[.int .i64 (bz o).kind,.int .i64 (bz o).level,.string (S (bz o).info),.slice al (bz o).lines.length cl,.slice as' (bz o).spans.length cs,.slice ak (bz o).kids.length ck],.int .i64 (er o:Nat)]) (by simp[results,Tryz.results100,go_sem,r0,r1,r2,r3,r4,r5]) rfl (ans_bz (o:=o) rfl HB9.out (Nat.le_trans hz2 h27) (HK9.out _ (Nat.lt_of_lt_of_le hlt2 h27)) HKB.out)
set_option maxHeartbeats 3200000 in
set_option maxRecDepth 100000 in
theorem blockP6_any (d:Nat) (HL:ListC d) (v:Value) (s:Tx) (u:List Tx) (w:World) (hr:Rd w v (s::u)) (ht:tot (s::u)≤260000) (hk:kindOf E0 s=6) (hre:restB s u=[]):
  Calls Tryz.prog 100 #[rdV (16-d),v] w (BlockAns w (valB allE d s u) (er (valB allE d s u))):=by
 obtain⟨ao,ca,rfl⟩:=hr.len
 have hsz:s.length≤260000:=by have:=tot_mem (s::u) s (List.mem_cons_self ..);omega
 have HRd:=Lib.hid (fun w' (h:Below w.heap.size w w')=>hr.below h)
 have HO:Hid (∀w',Calls Tryz.prog 25 #[.string (S s)] w' (NumK w' 6)):=Lib.hid (fun w'=>by
  have h:=told11.of (S s) w' (by rw[S_size];exact hsz)
  rw[S_list,hk]at h
  exact h)
 unfold NumK at HO
 obtain⟨r,hrr⟩:∃r,16-d=r:=⟨_,rfl⟩
 have HC:=Lib.hid (fun w' (h:Rd w' (.slice ao (s::u).length ca) (s::u))=>HL _ s u w' h ht hk)
 rw[hrr]at HC
 rw[hrr]
 unfold rdV at *
 unfold BlockAns at HC
 generalize valB allE d s u=o at *
 clear hk hre hr ht hrr hsz HL
 have HA0:=alloc_at (alloc_new w (.cells #[.int .i64 (r:Nat)] 80)) (.cells #[.int .i64 0,.int .i64 0,.string ⟨#[]⟩,.slice none 0 0,.slice none 0 0,.slice none 0 0] 46)
 have HA2:Hid ((((w.alloc (.cells #[.int .i64 (r:Nat)] 80)).alloc (.cells #[.int .i64 0,.int .i64 0,.string ⟨#[]⟩,.slice none 0 0,.slice none 0 0,.slice none 0 0] 46)).heap[(w.alloc (.cells #[.int .i64 (r:Nat)] 80)).heap.size]?)=some (.cells #[.int .i64 0,.int .i64 0,.string ⟨#[]⟩,.slice none 0 0,.slice none 0 0,.slice none 0 0] 46 (0,0))):=Lib.hid (alloc_new _ _)
 have hz1:(w.alloc (.cells #[.int .i64 (r:Nat)] 80)).heap.size=w.heap.size+1:=by simp
 rw[hz1]at HA2
 have HB1:=Lib.hid (((Below.refl w.heap.size w).alloc (Nat.le_refl _) (.cells #[.int .i64 (r:Nat)] 80)).alloc (by simp) (.cells #[.int .i64 0,.int .i64 0,.string ⟨#[]⟩,.slice none 0 0,.slice none 0 0,.slice none 0 0] 46))
 have HA1:=Lib.hid HA0
 clear HA0
 go_enter Tryz.func100,Tryz.ntmps100
 go_upto_region 1 with fail
 try rw[hz1]
 clear hz1
 generalize (w.alloc (.cells #[.int .i64 (r:Nat)] 80)).alloc (.cells #[.int .i64 0,.int .i64 0,.string ⟨#[]⟩,.slice none 0 0,.slice none 0 0,.slice none 0 0] 46)=w1 at *
 obtain⟨b0,o0,hbo,c0⟩:=Bt.Rd.at (HRd.out w1 HB1.out) 0 (by simp)
 subst hbo
 simp only[List.getElem_cons_zero,Nat.add_zero]at c0
 have h0i:(0:Int)<((s::u).length:Int):=by simp only[List.length_cons];omega
 go_wp2_with fail
 refine(HO.out _).mono ?_
 rintro e w2 ⟨rfl,b2⟩
 have HR2:Hid (w2.heap[w.heap.size+1]? = some (.cells #[.int .i64 0,.int .i64 0,.string ⟨#[]⟩,.slice none 0 0,.slice none 0 0,.slice none 0 0] 46 (0,0))):=Lib.hid ((b2.block _ (lt_of_at HA2.out)).trans HA2.out)
 have HX2:Hid (w2.heap[w.heap.size]? = some (.cells #[.int .i64 (r:Nat)] 80 (0,0))):=Lib.hid ((b2.block _ (lt_of_at HA1.out)).trans HA1.out)
 have HB2:=Lib.hid (HB1.out.trans (b2.mono HB1.out.size))
 have HRd2:=Lib.hid (HRd.out w2 HB2.out)
 clear b2 HO HA1 HA2 HB1 c0
 have HCd:=Lib.hid (HC.out w2 HRd2.out)
 have s0:w2.cell? ⟨w.heap.size,0,none⟩=some (.int .i64 (r:Nat)):=cell_at HX2.out 0
 generalize S s=ss at *
 go_wp2_with fail
 refine HCd.out.mono ?_
 rintro e w3 ⟨vl,vs',vk,rfl,b3,hkb⟩
 have hkb0:=hkb w3 (Keep.refl _ _)
 obtain⟨al,cl,hvl⟩:=hkb0.rd.len
 obtain⟨as',cs,hvs⟩:=hkb0.sp.len
 obtain⟨ak,ck,hvk⟩:=hkb0.tr.len
 simp only at hvl hvs hvk
 subst hvl;subst hvs;subst hvk
 have HKB:=Lib.hid hkb
 have HR3:Hid (w3.heap[w.heap.size+1]? = some (.cells #[.int .i64 0,.int .i64 0,.string ⟨#[]⟩,.slice none 0 0,.slice none 0 0,.slice none 0 0] 46 (0,0))):=Lib.hid ((b3.block _ (lt_of_at HR2.out)).trans HR2.out)
 have HB3:=Lib.hid (HB2.out.trans (b3.mono HB2.out.size))
 have hlt2:=lt_of_at HR2.out
 have hz2:=HB2.out.size
 clear b3 hkb hkb0 HR2 HX2 HB2
 have k0:w3.cell? ⟨w.heap.size+1,0,none⟩=some (.int .i64 0):=cell_at HR3.out 0
 have f0:w3.frozen? ⟨w.heap.size+1,0,none⟩=false:=frozen_at HR3.out 0
 have k1:w3.cell? ⟨w.heap.size+1,1,none⟩=some (.int .i64 0):=cell_at HR3.out 1
 have f1:w3.frozen? ⟨w.heap.size+1,1,none⟩=false:=frozen_at HR3.out 1
 have k2:w3.cell? ⟨w.heap.size+1,2,none⟩=some (.string ⟨#[]⟩):=cell_at HR3.out 2
 have f2:w3.frozen? ⟨w.heap.size+1,2,none⟩=false:=frozen_at HR3.out 2
 have k3:w3.cell? ⟨w.heap.size+1,3,none⟩=some (.slice none 0 0):=cell_at HR3.out 3
 have f3:w3.frozen? ⟨w.heap.size+1,3,none⟩=false:=frozen_at HR3.out 3
 have k4:w3.cell? ⟨w.heap.size+1,4,none⟩=some (.slice none 0 0):=cell_at HR3.out 4
 have f4:w3.frozen? ⟨w.heap.size+1,4,none⟩=false:=frozen_at HR3.out 4
 have k5:w3.cell? ⟨w.heap.size+1,5,none⟩=some (.slice none 0 0):=cell_at HR3.out 5
 have f5:w3.frozen? ⟨w.heap.size+1,5,none⟩=false:=frozen_at HR3.out 5
 go_wp2_with fail
 have HS:=Lib.hid (Kd.set6 (u0:=.int .i64 (bz o).kind) (u1:=.int .i64 (bz o).level) (u2:=.string (S (bz o).info)) (u3:=.slice al (bz o).lines.length cl) (u4:=.slice as' (bz o).spans.length cs) (u5:=.slice ak (bz o).kids.length ck) HR3.out)
 have HB9:=Lib.hid (Kd.set6_below HB3.out (Nat.le_succ _) (.int .i64 (bz o).kind) (.int .i64 (bz o).level) (.string (S (bz o).info)) (.slice al (bz o).lines.length cl) (.slice as' (bz o).spans.length cs) (.slice ak (bz o).kids.length ck))
 have HK9:=Lib.hid (fun B hB=>set6_keep (w:=w3) (b:=w.heap.size+1) (B:=B) hB (.int .i64 (bz o).kind) (.int .i64 (bz o).level) (.string (S (bz o).info)) (.slice al (bz o).lines.length cl) (.slice as' (bz o).spans.length cs) (.slice ak (bz o).kids.length ck))
 generalize ((((((w3.setCell ⟨w.heap.size+1,0,none⟩ (.int .i64 (bz o).kind)).setCell ⟨w.heap.size+1,1,none⟩ (.int .i64 (bz o).level)).setCell ⟨w.heap.size+1,2,none⟩ (.string (S (bz o).info))).setCell ⟨w.heap.size+1,3,none⟩ (.slice al (bz o).lines.length cl)).setCell ⟨w.heap.size+1,4,none⟩ (.slice as' (bz o).spans.length cs)).setCell ⟨w.heap.size+1,5,none⟩ (.slice ak (bz o).kids.length ck))=w9 at *
 have r0:w9.cell? ⟨w.heap.size+1,0,none⟩=some (.int .i64 (bz o).kind):=cell_at HS.out 0
 have r1:w9.cell? ⟨w.heap.size+1,1,none⟩=some (.int .i64 (bz o).level):=cell_at HS.out 1
 have r2:w9.cell? ⟨w.heap.size+1,2,none⟩=some (.string (S (bz o).info)):=cell_at HS.out 2
 have r3:w9.cell? ⟨w.heap.size+1,3,none⟩=some (.slice al (bz o).lines.length cl):=cell_at HS.out 3
 have r4:w9.cell? ⟨w.heap.size+1,4,none⟩=some (.slice as' (bz o).spans.length cs):=cell_at HS.out 4
 have r5:w9.cell? ⟨w.heap.size+1,5,none⟩=some (.slice ak (bz o).kids.length ck):=cell_at HS.out 5
 exact bodyPost_ret (v:=.tuple #[.agg #[.int .i64 (bz o).kind,.int .i64 (bz o).level,.string (S (bz o).info),.slice al (bz o).lines.length cl,.slice as' (bz o).spans.length cs,.slice ak (bz o).kids.length ck],.int .i64 (er o:Nat)]) (by simp[results,Tryz.results100,go_sem,r0,r1,r2,r3,r4,r5]) rfl (ans_bz (o:=o) rfl HB9.out hz2 (HK9.out _ hlt2) HKB.out)
set_option maxHeartbeats 3200000 in
set_option maxRecDepth 100000 in
theorem blockP7_any (d:Nat) (v:Value) (s:Tx) (u:List Tx) (w:World) (hr:Rd w v (s::u)) (ht:tot (s::u)≤260000) (hk:kindOf E0 s=7) (hre:restB s u=[]):
  Calls Tryz.prog 100 #[rdV (16-d),v] w (BlockAns w (valB allE d s u) (er (valB allE d s u))):=by
 obtain⟨ao,ca,rfl⟩:=hr.len
 have hsz:s.length≤260000:=by have:=tot_mem (s::u) s (List.mem_cons_self ..);omega
 have HRd:=Lib.hid (fun w' (h:Below w.heap.size w w')=>hr.below h)
 have HO:Hid (∀w',Calls Tryz.prog 25 #[.string (S s)] w' (NumK w' 7)):=Lib.hid (fun w'=>by
  have h:=told11.of (S s) w' (by rw[S_size];exact hsz)
  rw[S_list,hk]at h
  exact h)
 unfold NumK at HO
 obtain⟨r,hrr⟩:∃r,16-d=r:=⟨_,rfl⟩
 obtain⟨p,hp⟩:=kd7 hk
 have HC:=Lib.hid (fun w'=>defineG_any (S s) (by rw[S_size];omega) w')
 have hdf:dfB s=.mk 8 0 p.1 [p.2] [] []:=by unfold Kd.dfB;rw[if_pos hk,hp]
 simp only[S_list,hdf]at HC
 obtain⟨b,hb⟩:∃b,Bk.mk 8 0 p.1 [p.2] [] []=b:=⟨_,rfl⟩
 have HV:Hid (valB allE d s u=some b):=Lib.hid (by rw[val7 hk,hp,Option.map_some,←hb])
 simp only[hb]at HC
 rw[hrr]
 unfold rdV
 generalize valB allE d s u=O at *
 unfold BlkF at HC
 clear hb hk hre hr ht hrr hsz hdf hp
 have HA0:=alloc_at (alloc_new w (.cells #[.int .i64 (r:Nat)] 80)) (.cells #[.int .i64 0,.int .i64 0,.string ⟨#[]⟩,.slice none 0 0,.slice none 0 0,.slice none 0 0] 46)
 have HA2:Hid ((((w.alloc (.cells #[.int .i64 (r:Nat)] 80)).alloc (.cells #[.int .i64 0,.int .i64 0,.string ⟨#[]⟩,.slice none 0 0,.slice none 0 0,.slice none 0 0] 46)).heap[(w.alloc (.cells #[.int .i64 (r:Nat)] 80)).heap.size]?)=some (.cells #[.int .i64 0,.int .i64 0,.string ⟨#[]⟩,.slice none 0 0,.slice none 0 0,.slice none 0 0] 46 (0,0))):=Lib.hid (alloc_new _ _)
 have hz1:(w.alloc (.cells #[.int .i64 (r:Nat)] 80)).heap.size=w.heap.size+1:=by simp
 rw[hz1]at HA2
 have HB1:=Lib.hid (((Below.refl w.heap.size w).alloc (Nat.le_refl _) (.cells #[.int .i64 (r:Nat)] 80)).alloc (by simp) (.cells #[.int .i64 0,.int .i64 0,.string ⟨#[]⟩,.slice none 0 0,.slice none 0 0,.slice none 0 0] 46))
 have HA1:=Lib.hid HA0
 clear HA0
 go_enter Tryz.func100,Tryz.ntmps100
 go_upto_region 1 with fail
 try rw[hz1]
 clear hz1
 generalize (w.alloc (.cells #[.int .i64 (r:Nat)] 80)).alloc (.cells #[.int .i64 0,.int .i64 0,.string ⟨#[]⟩,.slice none 0 0,.slice none 0 0,.slice none 0 0] 46)=w1 at *
 obtain⟨b0,o0,hbo,c0⟩:=Bt.Rd.at (HRd.out w1 HB1.out) 0 (by simp)
 subst hbo
 simp only[List.getElem_cons_zero,Nat.add_zero]at c0
 have h0i:(0:Int)<((s::u).length:Int):=by simp only[List.length_cons];omega
 go_wp2_with fail
 refine(HO.out _).mono ?_
 rintro e w2 ⟨rfl,b2⟩
 have HR2:Hid (w2.heap[w.heap.size+1]? = some (.cells #[.int .i64 0,.int .i64 0,.string ⟨#[]⟩,.slice none 0 0,.slice none 0 0,.slice none 0 0] 46 (0,0))):=Lib.hid ((b2.block _ (lt_of_at HA2.out)).trans HA2.out)
 have HX2:Hid (w2.heap[w.heap.size]? = some (.cells #[.int .i64 (r:Nat)] 80 (0,0))):=Lib.hid ((b2.block _ (lt_of_at HA1.out)).trans HA1.out)
 have HB2:=Lib.hid (HB1.out.trans (b2.mono HB1.out.size))
 have HRd2:=Lib.hid (HRd.out w2 HB2.out)
 clear b2 HO HA1 HA2 HB1 c0
 obtain⟨b0',o0',hbo,c0⟩:=Bt.Rd.at HRd2.out 0 (by simp)
 simp only[Option.some.injEq,Addr.mk.injEq,and_true]at hbo
 obtain⟨rfl,rfl⟩:=hbo
 simp only[List.getElem_cons_zero,Nat.add_zero]at c0
 generalize S s=ss at *
 go_wp2_with fail
 refine(HC.out _).mono ?_
 rintro e w3 ⟨vl,vs',vk,rfl,b3,hkb⟩
 have hkb0:=hkb w3 (Keep.refl _ _)
 obtain⟨al,cl,hvl⟩:=hkb0.rd.len
 obtain⟨as',cs,hvs⟩:=hkb0.sp.len
 obtain⟨ak,ck,hvk⟩:=hkb0.tr.len
 simp only at hvl hvs hvk
 subst hvl;subst hvs;subst hvk
 have HKB:=Lib.hid hkb
 have HR3:Hid (w3.heap[w.heap.size+1]? = some (.cells #[.int .i64 0,.int .i64 0,.string ⟨#[]⟩,.slice none 0 0,.slice none 0 0,.slice none 0 0] 46 (0,0))):=Lib.hid ((b3.block _ (lt_of_at HR2.out)).trans HR2.out)
 have HB3:=Lib.hid (HB2.out.trans (b3.mono HB2.out.size))
 have hlt2:=lt_of_at HR2.out
 have hz2:=HB2.out.size
 clear b3 hkb hkb0 HR2 HX2 HB2
 have k0:w3.cell? ⟨w.heap.size+1,0,none⟩=some (.int .i64 0):=cell_at HR3.out 0
 have f0:w3.frozen? ⟨w.heap.size+1,0,none⟩=false:=frozen_at HR3.out 0
 have k1:w3.cell? ⟨w.heap.size+1,1,none⟩=some (.int .i64 0):=cell_at HR3.out 1
 have f1:w3.frozen? ⟨w.heap.size+1,1,none⟩=false:=frozen_at HR3.out 1
 have k2:w3.cell? ⟨w.heap.size+1,2,none⟩=some (.string ⟨#[]⟩):=cell_at HR3.out 2
 have f2:w3.frozen? ⟨w.heap.size+1,2,none⟩=false:=frozen_at HR3.out 2
 have k3:w3.cell? ⟨w.heap.size+1,3,none⟩=some (.slice none 0 0):=cell_at HR3.out 3
 have f3:w3.frozen? ⟨w.heap.size+1,3,none⟩=false:=frozen_at HR3.out 3
 have k4:w3.cell? ⟨w.heap.size+1,4,none⟩=some (.slice none 0 0):=cell_at HR3.out 4
 have f4:w3.frozen? ⟨w.heap.size+1,4,none⟩=false:=frozen_at HR3.out 4
 have k5:w3.cell? ⟨w.heap.size+1,5,none⟩=some (.slice none 0 0):=cell_at HR3.out 5
 have f5:w3.frozen? ⟨w.heap.size+1,5,none⟩=false:=frozen_at HR3.out 5
 go_wp2_with fail
 have HS:=Lib.hid (Kd.set6 (u0:=.int .i64 b.kind) (u1:=.int .i64 b.level) (u2:=.string (S b.info)) (u3:=.slice al b.lines.length cl) (u4:=.slice as' b.spans.length cs) (u5:=.slice ak b.kids.length ck) HR3.out)
 have HB9:=Lib.hid (Kd.set6_below HB3.out (Nat.le_succ _) (.int .i64 b.kind) (.int .i64 b.level) (.string (S b.info)) (.slice al b.lines.length cl) (.slice as' b.spans.length cs) (.slice ak b.kids.length ck))
 have HK9:=Lib.hid (fun B hB=>set6_keep (w:=w3) (b:=w.heap.size+1) (B:=B) hB (.int .i64 b.kind) (.int .i64 b.level) (.string (S b.info)) (.slice al b.lines.length cl) (.slice as' b.spans.length cs) (.slice ak b.kids.length ck))
 generalize ((((((w3.setCell ⟨w.heap.size+1,0,none⟩ (.int .i64 b.kind)).setCell ⟨w.heap.size+1,1,none⟩ (.int .i64 b.level)).setCell ⟨w.heap.size+1,2,none⟩ (.string (S b.info))).setCell ⟨w.heap.size+1,3,none⟩ (.slice al b.lines.length cl)).setCell ⟨w.heap.size+1,4,none⟩ (.slice as' b.spans.length cs)).setCell ⟨w.heap.size+1,5,none⟩ (.slice ak b.kids.length ck))=w9 at *
 have r0:w9.cell? ⟨w.heap.size+1,0,none⟩=some (.int .i64 b.kind):=cell_at HS.out 0
 have r1:w9.cell? ⟨w.heap.size+1,1,none⟩=some (.int .i64 b.level):=cell_at HS.out 1
 have r2:w9.cell? ⟨w.heap.size+1,2,none⟩=some (.string (S b.info)):=cell_at HS.out 2
 have r3:w9.cell? ⟨w.heap.size+1,3,none⟩=some (.slice al b.lines.length cl):=cell_at HS.out 3
 have r4:w9.cell? ⟨w.heap.size+1,4,none⟩=some (.slice as' b.spans.length cs):=cell_at HS.out 4
 have r5:w9.cell? ⟨w.heap.size+1,5,none⟩=some (.slice ak b.kids.length ck):=cell_at HS.out 5
 exact bodyPost_ret (v:=.tuple #[.agg #[.int .i64 b.kind,.int .i64 b.level,.string (S b.info),.slice al b.lines.length cl,.slice as' b.spans.length cs,.slice ak b.kids.length ck],.int .i64 ((0:Nat):Int)]) (by simp[results,Tryz.results100,go_sem,r0,r1,r2,r3,r4,r5]) rfl (by rw[HV.out];exact ans_bz (o:=some b) rfl HB9.out hz2 (HK9.out _ hlt2) HKB.out)
set_option maxHeartbeats 3200000 in
set_option maxRecDepth 100000 in
theorem blockP8_any (d:Nat) (v:Value) (s:Tx) (u:List Tx) (w:World) (hr:Rd w v (s::u)) (ht:tot (s::u)≤260000) (hk:kindOf E0 s=8) (hre:restB s u=[]):
  Calls Tryz.prog 100 #[rdV (16-d),v] w (BlockAns w (valB allE d s u) (er (valB allE d s u))):=by
 obtain⟨ao,ca,rfl⟩:=hr.len
 have hsz:s.length≤260000:=by have:=tot_mem (s::u) s (List.mem_cons_self ..);omega
 have HRd:=Lib.hid (fun w' (h:Below w.heap.size w w')=>hr.below h)
 have HO:Hid (∀w',Calls Tryz.prog 25 #[.string (S s)] w' (NumK w' 8)):=Lib.hid (fun w'=>by
  have h:=told11.of (S s) w' (by rw[S_size];exact hsz)
  rw[S_list,hk]at h
  exact h)
 unfold NumK at HO
 obtain⟨r,hrr⟩:∃r,16-d=r:=⟨_,rfl⟩
 have hsp:(spanK E0 8 (s::u)).1=s::u:=span_whole (by rw[←rest8 hk];exact hre)
 have hpl:paraL s u=(s::u).map trim:=by unfold paraL;rw[hsp]
 have HC:=Lib.hid (fun w' (h:Rd w' (.slice ao (s::u).length ca) (s::u))=>paraB_any _ (s::u) w' h ht)
 obtain⟨b,hb⟩:∃b,Bk.mk 1 0 [] [] (parse (joinLF ((s::u).map trim))) []=b:=⟨_,rfl⟩
 have HV:Hid (valB allE d s u=some b):=Lib.hid (by rw[val8 hk,hpl,←hb])
 simp only[hb]at HC
 rw[hrr]
 unfold rdV
 generalize valB allE d s u=O at *
 unfold BlkF at HC
 clear hb hk hre hr ht hrr hsz hsp hpl
 have HA0:=alloc_at (alloc_new w (.cells #[.int .i64 (r:Nat)] 80)) (.cells #[.int .i64 0,.int .i64 0,.string ⟨#[]⟩,.slice none 0 0,.slice none 0 0,.slice none 0 0] 46)
 have HA2:Hid ((((w.alloc (.cells #[.int .i64 (r:Nat)] 80)).alloc (.cells #[.int .i64 0,.int .i64 0,.string ⟨#[]⟩,.slice none 0 0,.slice none 0 0,.slice none 0 0] 46)).heap[(w.alloc (.cells #[.int .i64 (r:Nat)] 80)).heap.size]?)=some (.cells #[.int .i64 0,.int .i64 0,.string ⟨#[]⟩,.slice none 0 0,.slice none 0 0,.slice none 0 0] 46 (0,0))):=Lib.hid (alloc_new _ _)
 have hz1:(w.alloc (.cells #[.int .i64 (r:Nat)] 80)).heap.size=w.heap.size+1:=by simp
 rw[hz1]at HA2
 have HB1:=Lib.hid (((Below.refl w.heap.size w).alloc (Nat.le_refl _) (.cells #[.int .i64 (r:Nat)] 80)).alloc (by simp) (.cells #[.int .i64 0,.int .i64 0,.string ⟨#[]⟩,.slice none 0 0,.slice none 0 0,.slice none 0 0] 46))
 have HA1:=Lib.hid HA0
 clear HA0
 go_enter Tryz.func100,Tryz.ntmps100
 go_upto_region 1 with fail
 try rw[hz1]
 clear hz1
 generalize (w.alloc (.cells #[.int .i64 (r:Nat)] 80)).alloc (.cells #[.int .i64 0,.int .i64 0,.string ⟨#[]⟩,.slice none 0 0,.slice none 0 0,.slice none 0 0] 46)=w1 at *
 obtain⟨b0,o0,hbo,c0⟩:=Bt.Rd.at (HRd.out w1 HB1.out) 0 (by simp)
 subst hbo
 simp only[List.getElem_cons_zero,Nat.add_zero]at c0
 have h0i:(0:Int)<((s::u).length:Int):=by simp only[List.length_cons];omega
 go_wp2_with fail
 refine(HO.out _).mono ?_
 rintro e w2 ⟨rfl,b2⟩
 have HR2:Hid (w2.heap[w.heap.size+1]? = some (.cells #[.int .i64 0,.int .i64 0,.string ⟨#[]⟩,.slice none 0 0,.slice none 0 0,.slice none 0 0] 46 (0,0))):=Lib.hid ((b2.block _ (lt_of_at HA2.out)).trans HA2.out)
 have HX2:Hid (w2.heap[w.heap.size]? = some (.cells #[.int .i64 (r:Nat)] 80 (0,0))):=Lib.hid ((b2.block _ (lt_of_at HA1.out)).trans HA1.out)
 have HB2:=Lib.hid (HB1.out.trans (b2.mono HB1.out.size))
 have HRd2:=Lib.hid (HRd.out w2 HB2.out)
 clear b2 HO HA1 HA2 HB1 c0
 have HCd:=Lib.hid (HC.out w2 HRd2.out)
 generalize S s=ss at *
 go_wp2_with fail
 refine HCd.out.mono ?_
 rintro e w3 ⟨vl,vs',vk,rfl,b3,hkb⟩
 have hkb0:=hkb w3 (Keep.refl _ _)
 obtain⟨al,cl,hvl⟩:=hkb0.rd.len
 obtain⟨as',cs,hvs⟩:=hkb0.sp.len
 obtain⟨ak,ck,hvk⟩:=hkb0.tr.len
 simp only at hvl hvs hvk
 subst hvl;subst hvs;subst hvk
 have HKB:=Lib.hid hkb
 have HR3:Hid (w3.heap[w.heap.size+1]? = some (.cells #[.int .i64 0,.int .i64 0,.string ⟨#[]⟩,.slice none 0 0,.slice none 0 0,.slice none 0 0] 46 (0,0))):=Lib.hid ((b3.block _ (lt_of_at HR2.out)).trans HR2.out)
 have HB3:=Lib.hid (HB2.out.trans (b3.mono HB2.out.size))
 have hlt2:=lt_of_at HR2.out
 have hz2:=HB2.out.size
 clear b3 hkb hkb0 HR2 HX2 HB2
 have k0:w3.cell? ⟨w.heap.size+1,0,none⟩=some (.int .i64 0):=cell_at HR3.out 0
 have f0:w3.frozen? ⟨w.heap.size+1,0,none⟩=false:=frozen_at HR3.out 0
 have k1:w3.cell? ⟨w.heap.size+1,1,none⟩=some (.int .i64 0):=cell_at HR3.out 1
 have f1:w3.frozen? ⟨w.heap.size+1,1,none⟩=false:=frozen_at HR3.out 1
 have k2:w3.cell? ⟨w.heap.size+1,2,none⟩=some (.string ⟨#[]⟩):=cell_at HR3.out 2
 have f2:w3.frozen? ⟨w.heap.size+1,2,none⟩=false:=frozen_at HR3.out 2
 have k3:w3.cell? ⟨w.heap.size+1,3,none⟩=some (.slice none 0 0):=cell_at HR3.out 3
 have f3:w3.frozen? ⟨w.heap.size+1,3,none⟩=false:=frozen_at HR3.out 3
 have k4:w3.cell? ⟨w.heap.size+1,4,none⟩=some (.slice none 0 0):=cell_at HR3.out 4
 have f4:w3.frozen? ⟨w.heap.size+1,4,none⟩=false:=frozen_at HR3.out 4
 have k5:w3.cell? ⟨w.heap.size+1,5,none⟩=some (.slice none 0 0):=cell_at HR3.out 5
 have f5:w3.frozen? ⟨w.heap.size+1,5,none⟩=false:=frozen_at HR3.out 5
 go_wp2_with fail
 have HS:=Lib.hid (Kd.set6 (u0:=.int .i64 b.kind) (u1:=.int .i64 b.level) (u2:=.string (S b.info)) (u3:=.slice al b.lines.length cl) (u4:=.slice as' b.spans.length cs) (u5:=.slice ak b.kids.length ck) HR3.out)
 have HB9:=Lib.hid (Kd.set6_below HB3.out (Nat.le_succ _) (.int .i64 b.kind) (.int .i64 b.level) (.string (S b.info)) (.slice al b.lines.length cl) (.slice as' b.spans.length cs) (.slice ak b.kids.length ck))
 have HK9:=Lib.hid (fun B hB=>set6_keep (w:=w3) (b:=w.heap.size+1) (B:=B) hB (.int .i64 b.kind) (.int .i64 b.level) (.string (S b.info)) (.slice al b.lines.length cl) (.slice as' b.spans.length cs) (.slice ak b.kids.length ck))
 generalize ((((((w3.setCell ⟨w.heap.size+1,0,none⟩ (.int .i64 b.kind)).setCell ⟨w.heap.size+1,1,none⟩ (.int .i64 b.level)).setCell ⟨w.heap.size+1,2,none⟩ (.string (S b.info))).setCell ⟨w.heap.size+1,3,none⟩ (.slice al b.lines.length cl)).setCell ⟨w.heap.size+1,4,none⟩ (.slice as' b.spans.length cs)).setCell ⟨w.heap.size+1,5,none⟩ (.slice ak b.kids.length ck))=w9 at *
 have r0:w9.cell? ⟨w.heap.size+1,0,none⟩=some (.int .i64 b.kind):=cell_at HS.out 0
 have r1:w9.cell? ⟨w.heap.size+1,1,none⟩=some (.int .i64 b.level):=cell_at HS.out 1
 have r2:w9.cell? ⟨w.heap.size+1,2,none⟩=some (.string (S b.info)):=cell_at HS.out 2
 have r3:w9.cell? ⟨w.heap.size+1,3,none⟩=some (.slice al b.lines.length cl):=cell_at HS.out 3
 have r4:w9.cell? ⟨w.heap.size+1,4,none⟩=some (.slice as' b.spans.length cs):=cell_at HS.out 4
 have r5:w9.cell? ⟨w.heap.size+1,5,none⟩=some (.slice ak b.kids.length ck):=cell_at HS.out 5
 exact bodyPost_ret (v:=.tuple #[.agg #[.int .i64 b.kind,.int .i64 b.level,.string (S b.info),.slice al b.lines.length cl,.slice as' b.spans.length cs,.slice ak b.kids.length ck],.int .i64 ((0:Nat):Int)]) (by simp[results,Tryz.results100,go_sem,r0,r1,r2,r3,r4,r5]) rfl (by rw[HV.out];exact ans_bz (o:=some b) rfl HB9.out hz2 (HK9.out _ hlt2) HKB.out)
theorem blockC_any (d:Nat) (HC:ContC d) (HL:ListC d):BlockC d:=by
 intro v s u w hr ht hk hre
 rcases kind_cases s hk with k |k |k |k |k |k |k
 ·exact blockP2_any d v s u w hr ht k hre
 ·exact blockP3_any d v s u w hr ht k hre
 ·exact blockP4_any d v s u w hr ht k hre
 ·exact blockP5_any d HC v s u w hr ht k hre
 ·exact blockP6_any d HL v s u w hr ht k hre
 ·exact blockP7_any d v s u w hr ht k hre
 ·exact blockP8_any d v s u w hr ht k hre
theorem blocks_all:∀m d,16-d≤m→d≤16→BlocksC d
 |0,d,hm,hd=>blocksC_any d hd (blockC_any d (contC_any d hd (fun h=>absurd h (by omega))) (listC_any d hd (fun h=>absurd h (by omega))))
 |m+1,d,hm,hd=>blocksC_any d hd (blockC_any d (contC_any d hd (fun h=>blocks_all m (d+1) (by omega) h)) (listC_any d hd (fun h=>contC_any (d+1) h (fun h2=>blocks_all m (d+2) (by omega) h2))))
end Pa
namespace Pa
open Go.RowKit
open Tk (S S_of S_list S_size S_toList S_app ret_int eq8 ne8 at_data len_data Rd)
open Sp (ret_bool OkAns)
open Bt (TrB KB)
open Cm (Keep)
open Bk (Tx Bk kindOf)
open Utf (chk)
theorem linesP_any (v:Value) (xs:List Tx) (w:World) (hr:Rd w v xs) (ht:tot xs≤260000):
  Calls Tryz.prog 37 #[v] w (LnsAns w (lnsB xs)):=by
 have HA:=Lib.hid (blocks_all 16 0 (by omega) (by omega) v xs w hr ht)
 unfold rdV at HA
 obtain⟨ao,ca,rfl⟩:=hr.len
 have h16:((16-0:Nat):Int)=16:=rfl
 rw[h16]at HA
 have HX:Hid (lnsB xs=match allE 0 xs with |none=>([],5)|some l=>(l,0)):=Lib.hid rfl
 unfold BlksAns at HA
 generalize lnsB xs=X at *
 clear h16 hr
 generalize allE 0 xs=o at *
 go_enter Tryz.func37,Tryz.ntmps37
 go_wp2_with fail
 refine HA.out.mono ?_
 rintro e w2 ⟨u,rfl,hf,b2⟩
 have HF:=Lib.hid hf.now
 have HB2:=Lib.hid b2
 clear hf b2 HA
 go_wp2_with fail
 go_ret2
 cases o with
 |none=>exact⟨_,by rw[HX.out];rfl,by rw[HX.out];exact HF.out,HB2.out⟩
 |some l=>exact⟨_,by rw[HX.out];rfl,by rw[HX.out];exact HF.out,HB2.out⟩
theorem docP_any (s:ByteArray) (hs:s.size≤250000) (w:World) :
   Calls Tryz.prog 21 #[.string s] w (LnsAns w (docB s.data.toList)):=by
 have hca:=fun (w:World) (t:ByteArray)=>run_bytes_of_string (P:=Tryz.prog) w 9 59 5 t Tryz.underlying9 Tryz.underlying59 Tryz.underlying5
 have HC:=Lib.hid (Go.Proofs.YthpnbialpkkpgaaGreatDoor.Sp.check_row s w (by omega))
 have HS:=Lib.hid (fun w'=>Ln.split_any s (by omega) w')
 have HL:=Lib.hid (fun v w' (hr:Rd w' v (Ln.split s.data.toList).1)=>linesP_any v (Ln.split s.data.toList).1 w' hr (by
   have h:=split_tot s.data.toList []
   rw [len_data] at h
   unfold Ln.split
   simp only [List.length_nil] at h
   omega))
 have HX:Hid (docB s.data.toList=if chk s=0 then lnsB (Ln.split s.data.toList).1 else ([],chk s)):=Lib.hid (by unfold docB;rw [S_of])
 unfold LnsAns at HL
 generalize docB s.data.toList=X at *
 generalize chk s=c at *
 generalize lnsB (Ln.split s.data.toList).1=r at *
 obtain ⟨r1,r2⟩:=r
 simp only at HL
 by_cases hc:c=0
 · rw [if_pos hc] at HX
   subst hc
   go_enter Tryz.func21,Tryz.ntmps21
   go_wp2_with fail
   refine HC.out.mono ?_
   rintro e w2 ⟨rfl,b2⟩
   have HB2:=Lib.hid b2
   clear b2 HC hca
   go_wp2_with fail
   refine (HS.out _).mono ?_
   rintro e w3 ⟨u,rfl,hown,b3⟩
   have HRd:Hid (Rd w3 u (Ln.split s.data.toList).1):=Lib.hid (Rd.of_own hown)
   have HB3:=Lib.hid (HB2.out.trans (b3.mono HB2.out.size))
   have HL2:=Lib.hid (HL.out u w3 HRd.out)
   clear hown b3 HS HL HRd HB2
   go_wp2_with fail
   refine HL2.out.mono ?_
   rintro e w4 ⟨u4,rfl,ht4,b4⟩
   have HT4:=Lib.hid ht4
   have HB4:=Lib.hid (HB3.out.trans (b4.mono HB3.out.size))
   clear ht4 b4 HL2
   go_wp2_with fail
   go_ret2
   exact ⟨_,by rw [HX.out];rfl,by rw [HX.out];exact HT4.out,HB4.out⟩
 · have e1:(c != 0)=true:=by rw [bne_iff_ne];exact hc
   rw [if_neg hc] at HX
   clear hc HS HL
   go_enter Tryz.func21,Tryz.ntmps21
   go_wp2_with fail
   refine HC.out.mono ?_
   rintro e w2 ⟨rfl,b2⟩
   have HB2:=Lib.hid b2
   clear b2 HC hca
   go_wp2_with fail
   go_ret2
   exact ⟨_,by rw [HX.out];rfl,by rw [HX.out];exact Kd.nilTrB _,HB2.out⟩
theorem told12:Told12 where
 doc:=fun s w h=>docP_any s h w
 lines:=fun v xs w hr h=>linesP_any v xs w hr h
 spread:=fun v xs w hr h=>spreadP_any v xs w hr h
end Pa
end Go.Proofs.YthpnbialpkkpgaaGreatDoor
