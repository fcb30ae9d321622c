import Derived.Test.YtpakjdgddomdjabGreatDoorPkAV
set_option linter.unusedVariables false
namespace Go.Proofs.YtpakjdgddomdjabGreatDoor
namespace Wr
open Go.RowKit
open Tk (S S_list S_size Rd)
open Sp (OkAns totAll)
open Bt (TrB fitAll ttAll rgB szAll rrightB_any rsameB_any smB_iff fitAll_wide)
open Bk (Bk Tx wl)
open Pa (LnsAns told12)
theorem parse_deep {l:List Bk} (h:rgB l=true) (ht:ttAll l≤9000) (hl:(Ln.jn (wl l) true).length≤250000) (w:World):Calls Tryz.prog 10 #[.string (S (Ln.jn (wl l) true))] w (LnsAns w (l,0)):=by
 have hd:=told12.doc (S (Ln.jn (wl l) true)) w (by rw[S_size];omega);rw[S_list,docB_back h ht]at hd;exact hd
theorem lit2 {w:World} {k k':Int} {vl vl':Value} {ao ao':Option Addr} {n c n' c':Nat} {ls ls':List Tx} {ks ks':List Bk} (hrd:Rd w vl ls) (hsh:ls.length≤9223372036854775807) (htr:TrB w (.slice ao n c) ks) (hrd':Rd w vl' ls') (hsh':ls'.length≤9223372036854775807) (htr':TrB w (.slice ao' n' c') ks') (T:TypeId):
  TrB (w.alloc (.cells #[.int .i64 k,.int .i64 0,.string ⟨#[]⟩,vl,.slice none 0 0,.slice ao n c,.int .i64 k',.int .i64 0,.string ⟨#[]⟩,vl',.slice none 0 0,.slice ao' n' c'] T)) (.slice (some ⟨w.heap.size,0,none⟩) 2 2) [.mk k 0 [] ls [] ks,.mk k' 0 [] ls' [] ks']:=by
 have hb:Below w.heap.size w (w.alloc (.cells #[.int .i64 k,.int .i64 0,.string ⟨#[]⟩,vl,.slice none 0 0,.slice ao n c,.int .i64 k',.int .i64 0,.string ⟨#[]⟩,vl',.slice none 0 0,.slice ao' n' c'] T)):=(Below.refl _ _).alloc (Nat.le_refl _) _;have hn:n=ks.length:=by obtain⟨_,_,hv,_⟩:=htr;simp only[Value.slice.injEq]at hv;exact hv.2.1
 have hn':n'=ks'.length:=by obtain⟨_,_,hv,_⟩:=htr';simp only[Value.slice.injEq]at hv;exact hv.2.1
 subst hn;subst hn';refine⟨_,2,rfl,⟨Nat.le_refl _,by omega⟩,Or.inr ⟨w.heap.size,0,rfl,by simp,?_⟩⟩;unfold Bt.trAll;refine⟨Bt.trOne_of (vl:=vl) (vs:=.slice none 0 0) (ao:=ao) (cap:=c) ⟨?_,?_,?_,?_,?_,?_,hrd.below hb,hsh,Bt.nilS _,htr.below hb⟩,?_⟩
 ·rw[World.cell?_alloc_new];rfl
 ·rw[World.cell?_alloc_new];rfl
 ·rw[World.cell?_alloc_new];rfl
 ·rw[World.cell?_alloc_new];rfl
 ·rw[World.cell?_alloc_new];rfl
 ·rw[World.cell?_alloc_new];rfl
 unfold Bt.trAll;refine⟨Bt.trOne_of (vl:=vl') (vs:=.slice none 0 0) (ao:=ao') (cap:=c') ⟨?_,?_,?_,?_,?_,?_,hrd'.below hb,hsh',Bt.nilS _,htr'.below hb⟩,by unfold Bt.trAll;trivial⟩
 ·rw[World.cell?_alloc_new];rfl
 ·rw[World.cell?_alloc_new];rfl
 ·rw[World.cell?_alloc_new];rfl
 ·rw[World.cell?_alloc_new];rfl
 ·rw[World.cell?_alloc_new];rfl
 ·rw[World.cell?_alloc_new];rfl
def cB (xs:List Tx):Bk:=.mk 4 0 [] xs [] []
def cD (xs:List Tx):Nat→List Bk
 |0=>[cB xs]
 |1=>[.mk 5 0 [] [] [] [cB xs,cB xs]]
 |_=>[.mk 6 0 [] [] [] [.mk 7 0 [] [] [] [cB xs],.mk 7 0 [] [] [] [cB xs,cB xs]]]
theorem lit1 {w:World} {k:Int} {vl:Value} {ao:Option Addr} {n c:Nat} {ls:List Tx} {ks:List Bk} (hrd:Rd w vl ls) (hsh:ls.length≤9223372036854775807) (htr:TrB w (.slice ao n c) ks) (T:TypeId):
  TrB (w.alloc (.cells #[.int .i64 k,.int .i64 0,.string ⟨#[]⟩,vl,.slice none 0 0,.slice ao n c] T)) (.slice (some ⟨w.heap.size,0,none⟩) 1 1) [.mk k 0 [] ls [] ks]:=
 Bt.litB (k:=k) (lv:=0) (i:=[]) hrd hsh (Bt.nilS _) htr T
theorem codes_lay {w w1 w2 w3 w4 w5 w6 w7 w8 w9:World} {v:Value} {xs:List Tx} {T T2:TypeId} (hv:Rd w v xs) (hn:xs.length≤9223372036854775807)
  (e1:w.alloc (.cells #[.int .i64 4,.int .i64 0,.string ⟨#[]⟩,v,.slice none 0 0,.slice none 0 0] T)=w1)
  (e2:w1.alloc (.cells #[.int .i64 4,.int .i64 0,.string ⟨#[]⟩,v,.slice none 0 0,.slice none 0 0] T)=w2)
  (e3:w2.alloc (.cells #[.int .i64 4,.int .i64 0,.string ⟨#[]⟩,v,.slice none 0 0,.slice none 0 0,.int .i64 4,.int .i64 0,.string ⟨#[]⟩,v,.slice none 0 0,.slice none 0 0] T)=w3)
  (e4:w3.alloc (.cells #[.int .i64 5,.int .i64 0,.string ⟨#[]⟩,.slice none 0 0,.slice none 0 0,.slice (some ⟨w.heap.size+1+1,0,none⟩) 2 2] T)=w4)
  (e5:w4.alloc (.cells #[.int .i64 4,.int .i64 0,.string ⟨#[]⟩,v,.slice none 0 0,.slice none 0 0] T)=w5)
  (e6:w5.alloc (.cells #[.int .i64 4,.int .i64 0,.string ⟨#[]⟩,v,.slice none 0 0,.slice none 0 0,.int .i64 4,.int .i64 0,.string ⟨#[]⟩,v,.slice none 0 0,.slice none 0 0] T)=w6)
  (e7:w6.alloc (.cells #[.int .i64 7,.int .i64 0,.string ⟨#[]⟩,.slice none 0 0,.slice none 0 0,.slice (some ⟨w.heap.size+1+1+1+1,0,none⟩) 1 1,.int .i64 7,.int .i64 0,.string ⟨#[]⟩,.slice none 0 0,.slice none 0 0,.slice (some ⟨w.heap.size+1+1+1+1+1,0,none⟩) 2 2] T)=w7)
  (e8:w7.alloc (.cells #[.int .i64 6,.int .i64 0,.string ⟨#[]⟩,.slice none 0 0,.slice none 0 0,.slice (some ⟨w.heap.size+1+1+1+1+1+1,0,none⟩) 2 2] T)=w8)
  (e9:w8.alloc (.cells #[.slice (some ⟨w.heap.size+1,0,none⟩) 1 1,.slice (some ⟨w.heap.size+1+1+1,0,none⟩) 1 1,.slice (some ⟨w.heap.size+1+1+1+1+1+1+1,0,none⟩) 1 1] T2)=w9):
  Below w.heap.size w w9∧w.heap.size+1+1+1+1+1+1+1+1<w9.heap.size∧∀j,j<3→∃b,w9.cell? ⟨w.heap.size+1+1+1+1+1+1+1+1,j,none⟩=some (.slice (some ⟨b,0,none⟩) 1 1)∧TrB w9 (.slice (some ⟨b,0,none⟩) 1 1) (cD xs j):=by
 have s1:w1.heap.size=w.heap.size+1:=by rw[←e1];simp
 have s2:w2.heap.size=w.heap.size+1+1:=by rw[←e2,←s1];simp
 have s3:w3.heap.size=w.heap.size+1+1+1:=by rw[←e3,←s2];simp
 have s4:w4.heap.size=w.heap.size+1+1+1+1:=by rw[←e4,←s3];simp
 have s5:w5.heap.size=w.heap.size+1+1+1+1+1:=by rw[←e5,←s4];simp
 have s6:w6.heap.size=w.heap.size+1+1+1+1+1+1:=by rw[←e6,←s5];simp
 have s7:w7.heap.size=w.heap.size+1+1+1+1+1+1+1:=by rw[←e7,←s6];simp
 have s8:w8.heap.size=w.heap.size+1+1+1+1+1+1+1+1:=by rw[←e8,←s7];simp
 have b1:Below w.heap.size w w1:=by rw[←e1];exact(Below.refl _ _).alloc (Nat.le_refl _) _
 have b2:Below w1.heap.size w1 w2:=by rw[←e2];exact(Below.refl _ _).alloc (Nat.le_refl _) _
 have b3:Below w2.heap.size w2 w3:=by rw[←e3];exact(Below.refl _ _).alloc (Nat.le_refl _) _
 have b4:Below w3.heap.size w3 w4:=by rw[←e4];exact(Below.refl _ _).alloc (Nat.le_refl _) _
 have b5:Below w4.heap.size w4 w5:=by rw[←e5];exact(Below.refl _ _).alloc (Nat.le_refl _) _
 have b6:Below w5.heap.size w5 w6:=by rw[←e6];exact(Below.refl _ _).alloc (Nat.le_refl _) _
 have b7:Below w6.heap.size w6 w7:=by rw[←e7];exact(Below.refl _ _).alloc (Nat.le_refl _) _
 have b8:Below w7.heap.size w7 w8:=by rw[←e8];exact(Below.refl _ _).alloc (Nat.le_refl _) _
 have b9:Below w8.heap.size w8 w9:=by rw[←e9];exact(Below.refl _ _).alloc (Nat.le_refl _) _
 have v1:=hv.below b1;have v2:=v1.below b2;have v3:=v2.below b3;have v4:=v3.below b4;have v5:=v4.below b5;have t2:=lit1 (k:=4) v1 hn (Bt.nilB w1) T;rw[e2,s1]at t2;have t3:=lit2 (k:=4) (k':=4) v2 hn (Bt.nilB w2) v2 hn (Bt.nilB w2) T;rw[e3,s2]at t3;have t4:=lit1 (k:=5) (Bt.nilR w3) (by simp) t3 T;rw[e4,s3]at t4;have t5:=lit1 (k:=4) v4 hn (Bt.nilB w4) T;rw[e5,s4]at t5;have t6:=lit2 (k:=4) (k':=4) v5 hn (Bt.nilB w5) v5 hn (Bt.nilB w5) T;rw[e6,s5]at t6;have t7:=lit2 (k:=7) (k':=7) (Bt.nilR w6) (by simp) (t5.below b6) (Bt.nilR w6) (by simp) t6 T;rw[e7,s6]at t7;have t8:=lit1 (k:=6) (Bt.nilR w7) (by simp) t7 T;rw[e8,s7]at t8;have c9:w9.heap[w.heap.size+1+1+1+1+1+1+1+1]? = some (.cells #[.slice (some ⟨w.heap.size+1,0,none⟩) 1 1,.slice (some ⟨w.heap.size+1+1+1,0,none⟩) 1 1,.slice (some ⟨w.heap.size+1+1+1+1+1+1+1,0,none⟩) 1 1] T2):=by rw[←e9,←s8];exact Cm.alloc_new _ _
 have d8:=b8.trans (b9.mono b8.size);have d7:=b7.trans (d8.mono b7.size);have d6:=b6.trans (d7.mono b6.size);have d5:=b5.trans (d6.mono b5.size);have d4:=b4.trans (d5.mono b4.size);have d3:=b3.trans (d4.mono b3.size);have d2:=b2.trans (d3.mono b2.size);refine⟨b1.trans (d2.mono b1.size),Cm.lt_of_at c9,fun j hj=>?_⟩
 match j,hj with
 |0,_=>exact⟨_,Cm.cell_at c9 0,t2.below d3⟩
 |1,_=>exact⟨_,Cm.cell_at c9 1,t4.below d5⟩
 |2,_=>exact⟨_,Cm.cell_at c9 2,t8.below b9⟩
theorem tt_c (xs:List Tx):Bt.ttOne (cB xs)=1+Bt.lnTot xs:=by
 unfold cB;rw[Bt.ttOne,Bt.ttAll];simp[totAll]
theorem cD_tt (xs:List Tx):∀j,j<3→ttAll (cD xs j)≤3*Bt.lnTot xs+6
 |0,_=>by rw[cD,Bt.ttAll_cons,Bt.ttAll,tt_c];omega
 |1,_=>by
  rw[cD,Bt.ttAll_cons,Bt.ttAll,Bt.ttOne,Bt.ttAll_cons,Bt.ttAll_cons,Bt.ttAll,tt_c,Bt.lnTot];simp only[List.length_nil,totAll];omega
 |2,_=>by
  show ttAll ([Bk.mk 6 0 [] [] [] [.mk 7 0 [] [] [] [cB xs],.mk 7 0 [] [] [] [cB xs,cB xs]]])≤_;rw[Bt.ttAll_cons,Bt.ttAll,Bt.ttOne,Bt.ttAll_cons,Bt.ttAll_cons,Bt.ttAll,Bt.ttOne,Bt.ttOne,Bt.ttAll_cons,Bt.ttAll_cons,Bt.ttAll_cons,Bt.ttAll,tt_c,Bt.lnTot];simp only[List.length_nil,totAll];omega
theorem cD_d (xs:List Tx):∀j,j<3→Bt.dN (cD xs j)≤2
 |0,_=>by simp[cD,cB,Bt.dN,Bt.d1N,Bt.boxB]
 |1,_=>by simp[cD,cB,Bt.dN,Bt.d1N,Bt.boxB]
 |2,_=>by simp[cD,cB,Bt.dN,Bt.d1N,Bt.boxB]
theorem fit_c {xs:List Tx} (h:∀s∈xs,s.length≤1048576):Bt.fitOne 1048576 (cB xs):=by
 unfold cB;rw[Bt.fitOne,fitAll];exact⟨⟨by omega,by omega⟩,⟨by omega,by omega⟩,by simp,h,by unfold Sp.fitAll;trivial,trivial⟩
theorem fit_k {k:Int} {ks:List Bk} (h0:0≤k) (h1:k≤100) (h:fitAll 1048576 ks):Bt.fitOne 1048576 (.mk k 0 [] [] [] ks):=by
 rw[Bt.fitOne];exact⟨⟨by omega,by omega⟩,⟨by omega,by omega⟩,by simp,(fun s hs=>by cases hs),by unfold Sp.fitAll;trivial,h⟩
theorem fit_1 {x:Bk} (h:Bt.fitOne 1048576 x):fitAll 1048576 [x]:=by unfold fitAll;exact⟨h,by unfold fitAll;trivial⟩
theorem fit_2 {x y:Bk} (h:Bt.fitOne 1048576 x) (h':Bt.fitOne 1048576 y):fitAll 1048576 [x,y]:=by unfold fitAll;exact⟨h,fit_1 h'⟩
theorem cD_fit {xs:List Tx} (h:∀s∈xs,s.length≤1048576):∀j,j<3→fitAll 1048576 (cD xs j)
 |0,_=>fit_1 (fit_c h)
 |1,_=>fit_1 (fit_k (by decide) (by decide) (fit_2 (fit_c h) (fit_c h)))
 |2,_=>fit_1 (fit_k (by decide) (by decide) (fit_2 (fit_k (by decide) (by decide) (fit_1 (fit_c h))) (fit_k (by decide) (by decide) (fit_2 (fit_c h) (fit_c h)))))
theorem ln_few:∀{xs:List Tx},(∀s∈xs,s.length≤60)→Bt.lnTot xs≤61*xs.length
 |[],_=>Nat.le_refl _
 |s::r,h=>by
  have h1:=h s (List.mem_cons_self ..);have h2:=ln_few (fun t ht=>h t (List.mem_cons_of_mem s ht));rw[Bt.lnTot,List.length_cons];omega
set_option maxHeartbeats 6400000 in
set_option maxRecDepth 100000 in
theorem writeCodes_walk (w:World) (va:Value) (xs:List Tx) (ra:Rd w va xs) (hn:xs.length≤9223372036854775807):
  Calls Tryz.prog 5 #[va] w (OkAns w true):=by
 obtain⟨ao,ca,rfl⟩:=ra.len;have HA:=Lib.hid awake13_any;have RA:=Lib.hid (fun w' (h:Below w.heap.size w w')=>ra.below h);have RAt:=Lib.hid (fun w' (h:Below w.heap.size w w')=>Bt.Rd.at (ra.below h));by_cases h20:xs.length≤20
 ·have g1:decide ((xs.length:Int)>20)=false:=decide_eq_false (by omega)
  have g2:decide ((20:Int)<(xs.length:Int))=false:=decide_eq_false (by omega);have g3:decide (20<xs.length)=false:=decide_eq_false (by omega);go_enter Tryz.func5,Tryz.ntmps5;go_wp2_with fail;refine(HA.out _).mono ?_;rintro e w2 ⟨rfl,b2⟩;have H2:=Lib.hid b2;clear b2 HA;go_wp2_with fail;go_loopw [21] (fun iv wr=>∃j:Nat,j≤xs.length∧iv=.int .i64 j∧wr=w2∧Hid (∀i (hi:i<xs.length),i<j→xs[i].length≤60)) (fun iv _=>xs.length-(intOf iv).toNat)
  case atStart=>exact⟨0,Nat.zero_le _,by first |rfl |trivial,by first |rfl |trivial,Lib.hid (fun i _ h=>absurd h (Nat.not_lt_zero i))⟩
  case round=>
   obtain⟨j,hj,rfl,rfl,HS⟩:=hrel;by_cases hlt:j<xs.length
   ·have hi1:(j:Int)<(xs.length:Int):=by omega
    obtain⟨bb,o,rfl,c0⟩:=RAt.out wr H2.out j hlt;have hz:(S xs[j]).size=xs[j].length:=S_size _;by_cases h60:xs[j].length≤60
    ·have HS2:Hid (∀i (hi:i<xs.length),i<j+1→xs[i].length≤60):=Lib.hid (fun i hi h=>by
      by_cases e:i=j
      ·subst e;exact h60
      ·exact HS.out i hi (by omega))
     have q1:decide (((S xs[j]).size:Int)>60)=false:=decide_eq_false (by omega);have q2:decide ((60:Int)<((S xs[j]).size:Int))=false:=decide_eq_false (by omega);have q3:decide (60<(S xs[j]).size)=false:=decide_eq_false (by omega);clear HS RAt RA h60 hz;generalize S xs[j]=sx at *;go_wp2_with fail;go_roundw
     case rel=>exact⟨j+1,by omega,by go_num,by first |rfl |trivial,HS2⟩
     case measure=>simp[intOf]<;>omega
    ·have q1:decide (((S xs[j]).size:Int)>60)=true:=decide_eq_true (by omega)
     have q2:decide ((60:Int)<((S xs[j]).size:Int))=true:=decide_eq_true (by omega);have q3:decide (60<(S xs[j]).size)=true:=decide_eq_true (by omega);clear HS RAt RA h60 hz;generalize S xs[j]=sx at *;go_wp2_with fail;go_ret;exact⟨rfl,H2.out⟩
   ·obtain rfl:j=xs.length:=by omega
    have hall:∀s∈xs,s.length≤60:=fun s hs=>by
     obtain⟨i,hi,rfl⟩:=List.mem_iff_getElem.1 hs;exact HS.out i hi hi
    have hln:=ln_few hall;have HDoc:Hid (∀k,k<3→∀v w',TrB w' v (cD xs k)→Calls Tryz.prog 8 #[v] w' (WrDoc w' (cD xs k))):=Lib.hid (fun k hk v w' hv=>documentW_any v _ w' hv (cD_fit (fun s hs=>by have:=hall s hs;omega) k hk) (by have:=cD_tt xs k hk;omega));have HRt:Hid (∀k,k<3→∀v w',TrB w' v (cD xs k)→Calls Tryz.prog 9 #[v] w' (OkAns w' (rgB (cD xs k)))):=Lib.hid (fun k hk v w' hv=>rrightB_any _ v w' (fitAll_wide (by decide) _ (cD_fit (fun s hs=>by have:=hall s hs;omega) k hk)) (by have:=cD_tt xs k hk;omega) hv)
    have HPa:Hid (∀k,k<3→∀w',∃X:List Bk × Int,Calls Tryz.prog 10 #[.string (S (Ln.jn (wrL (cD xs k)) true))] w' (LnsAns w' X)∧(rgB (cD xs k)=true→X=(cD xs k,0))):=Lib.hid (fun k hk w'=>by
     have h1:=cD_tt xs k hk;cases hr:rgB (cD xs k)with
     |false=>
      rw[wrL_no hr];exact⟨_,told12.doc (S []) w' (by decide),fun h=>by cases h⟩
     |true=>
      rw[wrL_yes hr];have h2:=wl_sz false 0 (cD xs k) 2 (Bt.rg_parts hr).1 (cD_d xs k hk);exact⟨_,parse_deep hr (by omega) (by rw[jn_tot];omega) w',fun _=>rfl⟩)
    have HSm:Hid (∀k,k<3→∀va vb w',TrB w' va (cD xs k)→TrB w' vb (cD xs k)→Calls Tryz.prog 11 #[va,vb] w' (OkAns w' true)):=Lib.hid (fun k hk va vb w' h1 h2=>by
     have h:=rsameB_any (szAll (cD xs k)) (cD xs k) (cD xs k) va vb w' (Nat.le_refl _) h1 h2;rw[(smB_iff _ _).2 rfl]at h;exact h)
    have HV:=Lib.hid (RA.out wr H2.out);unfold WrDoc at HDoc;unfold LnsAns at HPa;clear hlt RAt hall hln HS RA h20 g1 g2 g3 hj;go_upto_region 11 with fail;generalize e1:wr.alloc (.cells #[.int .i64 4,.int .i64 0,.string ⟨#[]⟩,.slice ao xs.length ca,.slice none 0 0,.slice none 0 0] 40)=w1;generalize e2:w1.alloc (.cells #[.int .i64 4,.int .i64 0,.string ⟨#[]⟩,.slice ao xs.length ca,.slice none 0 0,.slice none 0 0] 40)=w3;generalize e3:w3.alloc (.cells #[.int .i64 4,.int .i64 0,.string ⟨#[]⟩,.slice ao xs.length ca,.slice none 0 0,.slice none 0 0,.int .i64 4,.int .i64 0,.string ⟨#[]⟩,.slice ao xs.length ca,.slice none 0 0,.slice none 0 0] 40)=w4;generalize e4:w4.alloc (.cells #[.int .i64 5,.int .i64 0,.string ⟨#[]⟩,.slice none 0 0,.slice none 0 0,.slice (some ⟨wr.heap.size+1+1,0,none⟩) 2 2] 40)=w5;generalize e5:w5.alloc (.cells #[.int .i64 4,.int .i64 0,.string ⟨#[]⟩,.slice ao xs.length ca,.slice none 0 0,.slice none 0 0] 40)=w6;generalize e6:w6.alloc (.cells #[.int .i64 4,.int .i64 0,.string ⟨#[]⟩,.slice ao xs.length ca,.slice none 0 0,.slice none 0 0,.int .i64 4,.int .i64 0,.string ⟨#[]⟩,.slice ao xs.length ca,.slice none 0 0,.slice none 0 0] 40)=w7;generalize e7:w7.alloc (.cells #[.int .i64 7,.int .i64 0,.string ⟨#[]⟩,.slice none 0 0,.slice none 0 0,.slice (some ⟨wr.heap.size+1+1+1+1,0,none⟩) 1 1,.int .i64 7,.int .i64 0,.string ⟨#[]⟩,.slice none 0 0,.slice none 0 0,.slice (some ⟨wr.heap.size+1+1+1+1+1,0,none⟩) 2 2] 40)=w8;generalize e8:w8.alloc (.cells #[.int .i64 6,.int .i64 0,.string ⟨#[]⟩,.slice none 0 0,.slice none 0 0,.slice (some ⟨wr.heap.size+1+1+1+1+1+1,0,none⟩) 2 2] 40)=w9;generalize e9:w9.alloc (.cells #[.slice (some ⟨wr.heap.size+1,0,none⟩) 1 1,.slice (some ⟨wr.heap.size+1+1+1,0,none⟩) 1 1,.slice (some ⟨wr.heap.size+1+1+1+1+1+1+1,0,none⟩) 1 1] 22)=w10;obtain⟨hbel,hs10,hdocs⟩:=codes_lay HV.out hn e1 e2 e3 e4 e5 e6 e7 e8 e9;have HD:=Lib.hid hdocs;have H10:=Lib.hid (H2.out.trans (hbel.mono H2.out.size));have HZ:=Lib.hid hs10;clear e1 e2 e3 e4 e5 e6 e7 e8 e9 hbel hdocs HV hs10;obtain⟨bq,hbq⟩:∃bq,wr.heap.size+1+1+1+1+1+1+1+1=bq:=⟨_,rfl⟩;rw[hbq]at HD HZ;rw[hbq];clear hbq;go_loopw [52] (fun iv wq=>∃k:Nat,k≤3∧iv=.int .i64 k∧Hid (Below w10.heap.size w10 wq)) (fun iv _=>3-(intOf iv).toNat)
    case atStart=>exact⟨0,by omega,by first |rfl |trivial,Lib.hid (Below.refl _ _)⟩
    case round=>
     obtain⟨k,hk,rfl,HB⟩:=hrel;by_cases hk3:k<3
     ·have hi1:(k:Int)<3:=by omega
      obtain⟨b,hc,htr⟩:=HD.out k hk3;have c0:=(HB.out.cell (p:=⟨bq,k,none⟩) HZ.out).trans hc;have HTr:=Lib.hid (fun w' (h:Below w10.heap.size w10 w')=>htr.below h);have HX:=Lib.hid (fun w' (h:Below w10.heap.size w10 w')=>HDoc.out k hk3 _ w' (HTr.out w' h));have HY:=Lib.hid (fun w' (h:Below w10.heap.size w10 w')=>HRt.out k hk3 _ w' (HTr.out w' h));have HZa:=Lib.hid (fun w'=>HPa.out k hk3 w');have HSa:=Lib.hid (fun va w' (h1:TrB w' va (cD xs k)) (h:Below w10.heap.size w10 w')=>HSm.out k hk3 va _ w' h1 (HTr.out w' h));have HX1:=Lib.hid (HX.out wr HB.out);clear HD hc htr HDoc HRt HPa HSm HTr HX;generalize cD xs k=D at *;generalize S (Ln.jn (wrL D) true)=y at *;go_wp2_with fail;refine HX1.out.mono ?_;rintro e w11 ⟨rfl,b11⟩;have H11:=Lib.hid (HB.out.trans (b11.mono HB.out.size));have HY1:=Lib.hid (HY.out w11 H11.out);clear b11 HX1 HY;cases hr:rgB D with
      |false=>
       rw[wrE_no hr];rw[hr]at HY1;clear hr HSa;go_wp2_with fail;refine HY1.out.mono ?_;rintro e w12 ⟨rfl,b12⟩;have H12:=Lib.hid (H11.out.trans (b12.mono H11.out.size));clear b12 HY1;obtain⟨X,hX,_⟩:=HZa.out w12;have HP:=Lib.hid hX;clear hX HZa;go_wp2_with fail;refine HP.out.mono ?_;rintro e w13 ⟨u,rfl,hu,b13⟩;have H13:=Lib.hid (H12.out.trans (b13.mono H12.out.size));clear b13 hu HP;go_wp2_with fail;go_roundw
       case rel=>exact⟨k+1,by omega,by go_num,H13⟩
       case measure=>simp[intOf]<;>omega
      |true=>
       rw[wrE_yes hr];rw[hr]at HY1;go_wp2_with fail;refine HY1.out.mono ?_;rintro e w12 ⟨rfl,b12⟩;have H12:=Lib.hid (H11.out.trans (b12.mono H11.out.size));clear b12 HY1;obtain⟨X,hX,he⟩:=HZa.out w12;rw[he hr]at hX;have HP:=Lib.hid hX;clear hX HZa he hr;go_wp2_with fail;refine HP.out.mono ?_;rintro e w13 ⟨u,rfl,hu,b13⟩;have H13:=Lib.hid (H12.out.trans (b13.mono H12.out.size));have HS13:=Lib.hid (HSa.out u w13 hu H13.out);clear b13 hu HP HSa;go_wp2_with fail;refine HS13.out.mono ?_;rintro e w14 ⟨rfl,b14⟩;have H14:=Lib.hid (H13.out.trans (b14.mono H13.out.size));clear b14 HS13;go_wp2_with fail;go_roundw
       case rel=>exact⟨k+1,by omega,by go_num,H14⟩
       case measure=>simp[intOf]<;>omega
     ·obtain rfl:k=3:=by omega
      have H15:=Lib.hid (H10.out.trans (HB.out.mono H10.out.size));clear HD HDoc HRt HPa HSm;go_wp2_with fail;go_ret;exact⟨rfl,H15.out⟩
 ·have g1:decide ((xs.length:Int)>20)=true:=decide_eq_true (by omega)
  have g2:decide ((20:Int)<(xs.length:Int))=true:=decide_eq_true (by omega);have g3:decide (20<xs.length)=true:=decide_eq_true (by omega);clear RA RAt h20;go_enter Tryz.func5,Tryz.ntmps5;go_wp2_with fail;refine(HA.out _).mono ?_;rintro e w2 ⟨rfl,b2⟩;have H2:=Lib.hid b2;clear b2;go_wp2_with fail;refine(HA.out _).mono ?_;rintro e w3 ⟨rfl,b3⟩;have H3:=Lib.hid (H2.out.trans (b3.mono H2.out.size));clear b3;go_wp2_with fail;go_ret;exact⟨rfl,H3.out⟩
end Wr
end Go.Proofs.YtpakjdgddomdjabGreatDoor
