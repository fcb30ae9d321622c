import Derived.Test.YtihihgfcklkkhaaGreatDoorPkAB
import Derived.Test.YtihihgfcklkkhaaGreatDoorPkAJ
import Derived.Test.YtihihgfcklkkhaaGreatDoorPkAE
import Derived.Test.YtihihgfcklkkhaaGreatDoorPaEndsWalk
import Derived.Test.YtihihgfcklkkhaaGreatDoorPkAP
import Derived.Test.YtihihgfcklkkhaaGreatDoorPkAK
import Derived.Test.YtihihgfcklkkhaaGreatDoorBtParts
import Derived.Test.YtihihgfcklkkhaaGreatDoorPkAC
import Derived.ChangeKeysEq
import Derived.Laws.StructEq
import Derived.Deep.QuietTactic
import Derived.BigQuiet
import Derived.Deep.RegionHeld3
namespace Go.Proofs.YtihihgfcklkkhaaGreatDoor.Pa
open Go.RowKit
open Go.Proofs.YtihihgfcklkkhaaGreatDoor.Tk (S S_of S_list S_size S_toList S_app ret_int eq8 ne8 at_data len_data Rd)
open Go.Proofs.YtihihgfcklkkhaaGreatDoor.Sp (ret_bool OkAns)
open Go.Proofs.YtihihgfcklkkhaaGreatDoor.Bt (TrB smB smB_iff rsameB_any szAll sliceB)
open Go.Proofs.YtihihgfcklkkhaaGreatDoor.Cm (Keep cell_at)
open Go.Proofs.YtihihgfcklkkhaaGreatDoor.Bk (Tx Bk kindOf)
set_option linter.unusedVariables false
theorem infoN:(Tryz.prog.info? 3).map (fun i=>(i.zero,i.size,i.bytes))=some (some (.int .i64 0),1,8):=by kernel_rfl
theorem run_ne_pair (p q:Int) (w:World):(binOp .neq 36 (.agg #[.int .i64 p,.int .i64 q]) (.agg #[.int .i64 p,.int .i64 q])).run Tryz.prog w = .ok (.bool false) w:=by
 obtain ⟨i0,hi,hz0,hz1,hz2⟩:=info_parts infoN
 have hcl:Tryz.prog.cellsOf 3=1:=by kernel_rfl
 rw [run_neq_struct,run_equalIn_array w 9999 _ _ Tryz.underlying36 hi]
 rw [hcl]
 simp [Op.eqItems,go_sem,List.range_succ,Tryz.underlying3]
theorem guard_pair (op:BinOp) (x y:Operand) (xs ys:Array Value) (w:World):(eqGuard op 36 x y (.agg xs) (.agg ys)).run Tryz.prog w = .ok () w:=run_eqGuard_agg w op _ x y xs ys (by kernel_rfl)
theorem cell_lt {w:World} {p:Addr} {v:Value} (h:w.cell? p=some v):p.block < w.heap.size:=by
 rcases Nat.lt_or_ge p.block w.heap.size with h1 | h1
 · exact h1
 · exfalso
   unfold World.cell? at h
   rw [Array.getElem?_eq_none h1] at h
   simp at h
theorem slice_bk (b o n c k:Nat) (hk:k < n) (hc:n≤c) (w:World):(Instr.slice 23 (.slice (some ⟨b,o,none⟩) n c) (some (.int .i64 (k:Nat))) (some (.int .i64 ((k+1:Nat):Int))) none).run Tryz.prog w = .ok (.slice (some ⟨b,o+k*6,none⟩) 1 (c - k)) w:=by
 have u:=Tryz.underlying23
 have hz:Tryz.prog.cellsOf 42=6:=by kernel_rfl
 have hicn:¬ c≤k:=by omega
 have hn:¬ c - k=0:=by omega
 have h5:(k:Int)≤((k+1:Nat):Int):=by omega
 have h6:((k+1:Nat):Int)≤(c:Int):=by omega
 have h7:(k:Int)+1≤(c:Int):=by omega
 have h8:(0:Int)≤(k:Int)+1:=by omega
 go_simp
 intro h
 omega
set_option maxHeartbeats 6400000 in
set_option maxRecDepth 100000 in
theorem parseSpreads_walk (K:Told12) (w:World) (v:Value) (xs:List Tx) (hr:Rd w v xs) (hb:tot xs≤2100000) :
   Calls Tryz.prog 5 #[v] w (OkAns w true):=by
 obtain ⟨ao,ca,rfl⟩:=hr.len
 have HA:=Lib.hid (awake12_any K)
 have hcast:((700:Nat):Int)=700:=rfl
 have HF:=Lib.hid (fun w' (h:Below w.heap.size w w')=>fits_any _ xs w' (hr.below h) (by omega) 700 (by omega))
 simp only [hcast] at HF
 clear hcast
 cases hfit:fitsB xs 700 with
 | false =>
   simp only [hfit] at HF
   clear K hr hfit
   go_enter Tryz.func5,Tryz.ntmps5
   go_wp2_with fail
   refine (HA.out _).mono ?_
   rintro e w2 ⟨rfl,b2⟩
   have HB2:=Lib.hid b2
   clear b2
   go_wp2_with fail
   refine (HF.out _ HB2.out).mono ?_
   rintro e w3 ⟨rfl,b3⟩
   have HB3:=Lib.hid (HB2.out.trans (b3.mono HB2.out.size))
   clear b3 HF
   go_wp2_with fail
   refine (HA.out _).mono ?_
   rintro e w4 ⟨rfl,b4⟩
   have HB4:=Lib.hid (HB3.out.trans (b4.mono HB3.out.size))
   clear b4
   go_wp2_with fail
   go_ret
   exact ⟨rfl,HB4.out⟩
 | true =>
   obtain ⟨_,ht⟩:=fits_lt hfit
   simp only [hfit] at HF
   have hlen:xs.length≤700:=Nat.le_trans (tot_len xs) ht
   have HSp:=Lib.hid (fun w' (h:Below w.heap.size w w')=>K.spread _ xs w' (hr.below h) (by omega))
   have HSr:=Lib.hid (fun w' (h:Below w.heap.size w w')=>spreadR_any _ xs w' (hr.below h) (by omega))
   have HLn:=Lib.hid (fun w' (h:Below w.heap.size w w')=>K.lines _ xs w' (hr.below h) (by omega))
   have HRs:=Lib.hid (sprB_rise xs)
   have HSl:Hid (∀ p q,p < q→q≤xs.length→∃ v',(∀ w',(Instr.slice 32 (.slice ao xs.length ca) (some (.int .i64 (p:Nat))) (some (.int .i64 (q:Nat))) none).run Tryz.prog w' = .ok v' w')∧∀ w',Below w.heap.size w w'→Calls Tryz.prog 21 #[v'] w' (LnsAns w' (lnsB (cut xs p q)))):=Lib.hid (fun p q h1 h2=>by
     obtain ⟨v',hs,hrd⟩:=rd_slice_run hr p q (by omega) h2 (by omega)
     exact ⟨v',hs,fun w' hb=>K.lines v' (cut xs p q) w' (hrd w' hb) (by have:=tot_cut xs p q;omega)⟩)
   have HEa:Hid (allE 0 xs=none∧lnsB xs=([],5)∨∃ bs,lnsB xs=(bs,0)∧Each xs (sprB xs) bs):=Lib.hid (by
     cases ha:allE 0 xs with
     | none=>exact Or.inl ⟨rfl,lns_none ha⟩
     | some bs=>exact Or.inr ⟨bs,lns_some ha,sprB_each ha⟩)
   have hps:(sprB xs).length≤700:=by have:=rise_len (Nat.zero_le _) (sprB_rise xs);omega
   unfold SprAns at HSp HSr
   unfold LnsAns at HLn HSl
   have HEq:=Lib.hid (fun (p q:Int) w=>run_ne_pair p q w)
   generalize sprB xs=ps at *
   clear K hr hfit ht hb
   go_enter Tryz.func5,Tryz.ntmps5
   go_wp2_with fail
   refine (HA.out _).mono ?_
   rintro e' w2 ⟨rfl,b2⟩
   have HB2:=Lib.hid b2
   clear b2
   go_wp2_with fail
   refine (HF.out _ HB2.out).mono ?_
   rintro e' w3 ⟨rfl,b3⟩
   have HB3:=Lib.hid (HB2.out.trans (b3.mono HB2.out.size))
   clear b3 HF HA HB2
   go_wp2_with fail
   refine (HSp.out _ HB3.out).mono ?_
   rintro e' w4 ⟨u1,rfl,hp1,b4⟩
   have HB4:=Lib.hid (HB3.out.trans (b4.mono HB3.out.size))
   have HP1:=Lib.hid hp1
   obtain ⟨a1,c1,hu1⟩:∃ ao cap,u1 = .slice ao ps.length cap:=by
     obtain ⟨⟨ao,cap,hv,_⟩,_⟩:=hp1
     exact ⟨ao,cap,hv⟩
   subst hu1
   clear hp1 b4 HSp HB3
   go_wp2_with fail
   refine (HSr.out _ HB4.out).mono ?_
   rintro e' w5 ⟨u2,rfl,hp2,b5⟩
   have HB5:=Lib.hid (HB4.out.trans (b5.mono HB4.out.size))
   have HP15:Hid (RdP w5 (.slice a1 ps.length c1) ps):=Lib.hid ⟨HP1.out.1.below b5,HP1.out.2⟩
   have HP2:=Lib.hid hp2
   obtain ⟨a2,c2,hu2⟩:∃ ao cap,u2 = .slice ao ps.length cap:=by
     obtain ⟨⟨ao,cap,hv,_⟩,_⟩:=hp2
     exact ⟨ao,cap,hv⟩
   subst hu2
   clear hp2 b5 HSr HB4 HP1
   go_wp2_with fail
   go_loopw [30] (fun iv wr=>∃ j:Nat,j≤ps.length∧iv = .int .i64 j∧Hid (Below w5.heap.size w5 wr)) (fun iv _=>ps.length - (intOf iv).toNat)
   case atStart=>exact ⟨0,Nat.zero_le _,rfl,Lib.hid (Below.refl _ _)⟩
   case round =>
     obtain ⟨j,hj,rfl,HB⟩:=hrel
     have HQ1:Hid (RdP wr (.slice a1 ps.length c1) ps):=Lib.hid ⟨HP15.out.1.below HB.out,HP15.out.2⟩
     by_cases hlt:j < ps.length
     · have hji:(j:Int) < (ps.length:Int):=by omega
       have HQ2:Hid (RdP wr (.slice a2 ps.length c2) ps):=Lib.hid ⟨HP2.out.1.below HB.out,HP2.out.2⟩
       obtain ⟨b,o,ao',cap',h1,h2,x0,x1⟩:=RdP.at HQ1.out j hlt
       simp only [Value.slice.injEq,true_and] at h1
       obtain ⟨rfl,rfl⟩:=h1
       subst h2
       obtain ⟨b',o',ao',cap',h1,h2,y0,y1⟩:=RdP.at HQ2.out j hlt
       simp only [Value.slice.injEq,true_and] at h1
       obtain ⟨rfl,rfl⟩:=h1
       subst h2
       obtain ⟨_,hpq,_⟩:=rise_at HRs.out j hlt
       have hne:=HEq.out (ps[j].1:Nat) (ps[j].2:Nat)
       have hgd:=fun op x y xs ys w=>guard_pair op x y xs ys w
       by_cases h0:j=0
       · subst h0
         generalize ps[0]=pq at *
         obtain ⟨p,q⟩:=pq
         simp only [Nat.zero_mul,Nat.add_zero] at x0 x1 y0 y1 hpq hne
         have t1:decide ((p:Int) ≥ (q:Int))=false:=decide_eq_false (by omega)
         have t2:decide ((q:Int)≤(p:Int))=false:=decide_eq_false (by omega)
         have t3:decide (q≤p)=false:=decide_eq_false (by omega)
         have t4:decide (((0:Nat):Int) > 0)=false:=rfl
         have t5:decide ((0:Int) < ((0:Nat):Int))=false:=rfl
         clear HQ1 HQ2 hpq
         go_wp2_with fail
         go_quiet (fail)
         go_wp2_with fail
         have HB9:=Lib.hid (below_drewN HB.out nq)
         go_roundw
         case rel=>exact ⟨1,by omega,by go_num,HB9⟩
         case measure=>simp [intOf] <;> omega
       · obtain ⟨n1,hn1⟩:∃ n,n=j - 1:=⟨_,rfl⟩
         have hn1l:n1 < ps.length:=by omega
         obtain ⟨b3,o3,ao',cap',h1,h2,z0,z1⟩:=RdP.at HQ1.out n1 hn1l
         simp only [Value.slice.injEq,true_and] at h1
         obtain ⟨rfl,rfl⟩:=h1
         simp only [Option.some.injEq,Addr.mk.injEq,and_true] at h2
         obtain ⟨rfl,rfl⟩:=h2
         have hnx:=rise_next HRs.out n1 (by omega)
         have hjn:n1+1=j:=by omega
         simp only [hjn] at hnx
         have wl:IntKind.i64.wrap ((j:Int) - 1)=(n1:Int):=by rw [IntKind.wrap_i64];omega
         have hn1i:(n1:Int) < (ps.length:Int):=by omega
         have h0':0 < j:=by omega
         generalize ps[j]=pq at *
         generalize ps[n1].2=q1 at *
         obtain ⟨p,q⟩:=pq
         simp only at x0 x1 y0 y1 hpq hne hnx
         have t1:decide ((p:Int) ≥ (q:Int))=false:=decide_eq_false (by omega)
         have t2:decide ((q:Int)≤(p:Int))=false:=decide_eq_false (by omega)
         have t3:decide (q≤p)=false:=decide_eq_false (by omega)
         have t4:decide ((j:Int) > 0)=true:=decide_eq_true (by omega)
         have t5:decide ((0:Int) < (j:Int))=true:=decide_eq_true (by omega)
         have t6:decide (0 < j)=true:=decide_eq_true h0'
         have t7:decide ((q1:Int) > (p:Int))=false:=decide_eq_false (by omega)
         have t8:decide ((p:Int) < (q1:Int))=false:=decide_eq_false (by omega)
         have t9:decide (p < q1)=false:=decide_eq_false (by omega)
         clear HQ1 HQ2 hpq hn1 h0 hjn hnx z0
         go_wp2_with fail
         go_quiet (fail)
         go_wp2_with fail
         have HB9:=Lib.hid (below_drewN HB.out nq)
         go_roundw
         case rel=>exact ⟨j+1,by omega,by go_num,HB9⟩
         case measure=>simp [intOf] <;> omega
     · obtain rfl:j=ps.length:=by omega
       have HBr:=Lib.hid (HB5.out.trans (HB.out.mono HB5.out.size))
       have HL1:=Lib.hid (HLn.out wr HBr.out)
       clear HB hlt HLn HP15 HP2 HB5 HEq
       rcases HEa.out with ⟨_,h5⟩ | ⟨bs,h0,hea⟩
       · rw [h5] at HL1
         clear HEa HSl
         simp only at HL1
         go_wp2_with fail
         refine HL1.out.mono ?_
         rintro e' w6 ⟨u,rfl,t6,b6⟩
         have HB6:=Lib.hid (HBr.out.trans (b6.mono HBr.out.size))
         clear t6 b6 HL1
         go_wp2_with fail
         go_ret
         exact ⟨rfl,HB6.out⟩
       · rw [h0] at HL1
         have hel:=each_len hea
         have HEt:Hid (∀ i (h:i < ps.length) (h':i < bs.length),lnsB (cut xs ps[i].1 ps[i].2)=([bs[i]],0)):=Lib.hid (fun i h h'=>lns_some (each_at hea i h h'))
         clear HEa hea
         simp only at HL1
         go_wp2_with fail
         refine HL1.out.mono ?_
         rintro e' w6 ⟨u,rfl,t6,b6⟩
         have HT6:=Lib.hid t6
         obtain ⟨au,cu,rfl⟩:=t6.len
         have HB6:=Lib.hid (HBr.out.trans (b6.mono HBr.out.size))
         have HQ6:Hid (RdP w6 (.slice a1 ps.length c1) ps):=Lib.hid ⟨HQ1.out.1.below b6,HQ1.out.2⟩
         rw [← hel]
         have Hel:=Lib.hid hel
         clear t6 b6 HL1 HBr HQ1 hel
         go_wp2_with fail
         go_loopw [90] (fun iv wr=>∃ i:Nat,i≤ps.length∧iv = .int .i64 i∧Hid (Below w6.heap.size w6 wr)) (fun iv _=>ps.length - (intOf iv).toNat)
         case atStart=>exact ⟨0,Nat.zero_le _,rfl,Lib.hid (Below.refl _ _)⟩
         case round =>
           obtain ⟨i,hi,rfl,HB⟩:=hrel
           by_cases hlt:i < ps.length
           · have hii:(i:Int) < (ps.length:Int):=by omega
             have hib:i < bs.length:=by rw [← Hel.out];exact hlt
             have HQx:Hid (RdP wr (.slice a1 ps.length c1) ps):=Lib.hid ⟨HQ6.out.1.below HB.out,HQ6.out.2⟩
             obtain ⟨b,o,ao',cap',h1,h2,x0,x1⟩:=RdP.at HQx.out i hlt
             simp only [Value.slice.injEq,true_and] at h1
             obtain ⟨rfl,rfl⟩:=h1
             subst h2
             obtain ⟨_,hpq,hqn⟩:=rise_at HRs.out i hlt
             obtain ⟨vs,hsl,hcl⟩:=HSl.out ps[i].1 ps[i].2 hpq hqn
             rw [HEt.out i hlt hib] at hcl
             have HTx:=Lib.hid (HT6.out.below HB.out)
             obtain ⟨bk,ok,_,_,_,_,hau,_,_⟩:=HTx.out.at i hib
             subst hau
             obtain ⟨hT1,hT2⟩:=sliceB HTx.out i hib
             have HT1:=Lib.hid hT1
             have hsb:=slice_bk bk ok ps.length cu i hlt (by rw [Hel.out];exact hT2)
             have HSm:=Lib.hid (fun (va vb:Value) (w':World) (ta:TrB w' va [bs[i]]) (tb:TrB w' vb [bs[i]])=>rsameB_any (szAll [bs[i]]) [bs[i]] [bs[i]] va vb w' (Nat.le_refl _) ta tb)
             have hsm2:smB [bs[i]] [bs[i]]=true:=(smB_iff _ _).2 rfl
             simp only [hsm2] at HSm
             have HBx:=Lib.hid (HB6.out.trans (HB.out.mono HB6.out.size))
             have HCl:=Lib.hid (fun w' (hb:Below wr.heap.size wr w')=>hcl w' (HBx.out.trans (hb.mono HBx.out.size)))
             generalize ([bs[i]]:List Bk)=one at *
             generalize ps[i]=pq at *
             obtain ⟨p,q⟩:=pq
             simp only at x0 x1 hsl HCl
             have wi:IntKind.i64.wrap ((i:Int)+1)=((i+1:Nat):Int):=by rw [IntKind.wrap_i64];omega
             obtain ⟨i1,hi1⟩:∃ n,n=i+1:=⟨_,rfl⟩
             rw [← hi1] at wi hsb
             have Hi1:=Lib.hid hi1
             have HSs:=Lib.hid hsb
             clear hi1 hsb hT1 hT2 hcl hsm2 HQx hpq hqn HTx
             go_upto_region 21 with fail
             go_cut [9,10,90] from 90 to 121 (fun uv fv iw wy=>iw = .int .i64 i∧fv = .int .i64 0∧Hid (TrB wy uv one∧Below wr.heap.size wr wy))
             case first =>
               have HS:Hid (∀ W:World,Keep (fun _=>False) wr W→W.cell? ⟨b,o+i*2,none⟩=some (.int .i64 (p:Nat))∧W.cell? ⟨b,o+i*2+1,none⟩=some (.int .i64 (q:Nat))):=Lib.hid (fun W hW=>by
                 have lt0:b < wr.heap.size:=cell_lt x0
                 exact ⟨(hW.cell (by exact lt0) (fun h=>h)).trans x0,(hW.cell (by exact lt0) (fun h=>h)).trans x1⟩)
               clear HSs HT1 HSm HEt HT6 HQ6
               go_region_held3 (fun W=>W.cell? ⟨b,o+i*2,none⟩=some (.int .i64 (p:Nat))∧W.cell? ⟨b,o+i*2+1,none⟩=some (.int .i64 (q:Nat)))
                 (with_reducible exact HS.out _ (by first | exact Keep.refl _ _ | exact (Keep.refl _ _).drew | exact Keep.trans (Keep.refl _ _).drew (Keep.of_below (by assumption))))
                 (first
                   | (go_at_call 21;refine (HCl.out _ ((Below.refl _ _).drew)).mono ?_;rintro e w7 ⟨vi,rfl,ti,b7⟩;obtain ⟨ai,ci,rfl⟩:=ti.len;have HTi:=Lib.hid ti;clear ti))
               go_wp2_with fail
               go_meet
               exact ⟨rfl,rfl,Lib.hid ⟨HTi.out,(Below.refl _ _).drew.trans b7⟩⟩
             case rest =>
               obtain ⟨rfl,rfl,HX⟩:=hcut
               have HTa:=Lib.hid HX.out.1
               have HTb:=Lib.hid (HT1.out.below HX.out.2)
               have HBy:=Lib.hid (HB.out.trans (HX.out.2.mono HB.out.size))
               have hsb:=HSs.out
               clear HX HT1 HCl HSs HB
               go_wp2_with fail
               refine (HSm.out _ _ _ HTa.out HTb.out).mono ?_
               rintro e w8 ⟨rfl,b8⟩
               have HB8:=Lib.hid (HBy.out.trans (b8.mono HBy.out.size))
               clear b8 HSm HTa HTb HBy
               go_wp2_with fail
               go_roundw
               case rel=>exact ⟨i1,by have:=Hi1.out;omega,rfl,HB8⟩
               case measure=>have:=Hi1.out;simp [intOf] <;> omega
           · have HBx:=Lib.hid (HB6.out.trans (HB.out.mono HB6.out.size))
             obtain rfl:i=ps.length:=by omega
             clear hlt HB
             go_wp2_with fail
             go_ret
             exact ⟨rfl,HBx.out⟩
end Go.Proofs.YtihihgfcklkkhaaGreatDoor.Pa
