import Derived.Test.YtihihgfcklkkhaaGreatDoorPkZ
import Derived.Test.YtihihgfcklkkhaaGreatDoorPkL
import Derived.Test.YtihihgfcklkkhaaGreatDoorPkC
import Derived.Test.YtihihgfcklkkhaaGreatDoorPkAC
import Derived.Test.YtihihgfcklkkhaaGreatDoorPkV
namespace Go.Proofs.YtihihgfcklkkhaaGreatDoor.Pa
open Go.RowKit
open Go.Proofs.YtihihgfcklkkhaaGreatDoor.Tk (S S_of S_list S_size S_toList S_app ret_int eq8 ne8 at_data len_data Rd)
open Go.Proofs.YtihihgfcklkkhaaGreatDoor.Sp (Sp Tr)
open Go.Proofs.YtihihgfcklkkhaaGreatDoor.Bt (TrB KB)
open Go.Proofs.YtihihgfcklkkhaaGreatDoor.Cm (Keep alloc_new alloc_at cell_at frozen_at set_at set_other lt_of_at)
open Go.Proofs.YtihihgfcklkkhaaGreatDoor.Bk (Tx Bk kindOf define)
open Go.Proofs.YtihihgfcklkkhaaGreatDoor.Kd (E0 NumD)
set_option linter.unusedVariables false
theorem block_any (v:Value) (xs:List Tx) (w:World) (hr:Rd w v xs) (ht:tot xs≤90000) (i:Nat) (hi:i < xs.length) (hk:kindOf E0 xs[i]≠1) (deep:Nat) (hd:deep≤200) (H1:Deeper (deep+1)) (H2:Deeper (deep+2)) :
   Calls Tryz.prog 41 #[v,.int .i64 (i:Nat),.int .i64 (deep:Nat)] w (BlockAns w (valB allE deep xs[i] (xs.drop (i+1))) (plc xs (restB xs[i] (xs.drop (i+1))))):=by
 have hle:=kind_le E0 xs[i]
 by_cases h2:kindOf E0 xs[i]=2
 · exact block2_any v xs w hr ht i hi h2 deep hd
 by_cases h3:kindOf E0 xs[i]=3
 · exact block3_any v xs w hr ht i hi h3 deep hd
 by_cases h4:kindOf E0 xs[i]=4
 · exact block4_any v xs w hr ht i hi h4 deep hd
 by_cases h5:kindOf E0 xs[i]=5
 · exact block5_any v xs w hr ht i hi h5 deep hd H1
 by_cases h6:kindOf E0 xs[i]=6
 · exact block6_any v xs w hr ht i hi h6 deep hd H2
 by_cases h7:kindOf E0 xs[i]=7
 · exact block7_any v xs w hr ht i hi h7 deep hd
 · exact block8_any v xs w hr ht i hi (by omega) deep hd
theorem val_kind {rec:Nat→List Tx→Option (List Bk)} {d:Nat} {s:Tx} {l:List Tx} {b:Bk} (h:valB rec d s l=some b):b.kind≠0:=by
 unfold valB at h
 repeat' split at h
 all_goals first
   | (injection h with h;subst h;simp [Bk.kind])
   | (obtain ⟨k,_,hk⟩:=Option.map_eq_some_iff.1 h;subst hk;simp [Bk.kind])
def after (o:Option Bk) (r:Option (List Bk)):Option (List Bk):=match o with | none=>none | some b=>r.map (b :: ·)
theorem allE_after {deep:Nat} {s:Tx} {l:List Tx} (hd:deep≤16) (h:kindOf E0 s≠1):allE deep (s :: l)=after (valB allE deep s l) (allE deep (restB s l)):=by
 rw [allE_block hd h]
 cases valB allE deep s l <;> rfl
theorem deeper_base (d:Nat) (h:16 < d) (hd:d≤200):Deeper d:=by
 intro v xs w hr ht
 obtain ⟨ao,ca,rfl⟩:=hr.len
 have HR:Hid (allE d xs=none):=Lib.hid (allE_deep h xs)
 have g1:decide ((d:Int) > 16)=true:=decide_eq_true (by omega)
 have g2:decide ((16:Int) < (d:Int))=true:=decide_eq_true (by omega)
 have g3:decide (16 < d)=true:=decide_eq_true h
 generalize allE d xs=X at *
 go_enter Tryz.func48,Tryz.ntmps48
 go_wp2_with fail
 go_ret2
 exact ⟨_,by rw [HR.out];rfl,by rw [HR.out];exact frB_nil _ _,Below.refl _ _⟩
set_option maxHeartbeats 3200000 in
theorem deeper_step (d:Nat) (h:d≤16) (H1:Deeper (d+1)) (H2:Deeper (d+2)):Deeper d:=by
 intro v xs w hr ht
 obtain ⟨ao,ca,rfl⟩:=hr.len
 have hlen:xs.length≤90000:=Nat.le_trans (tot_len xs) ht
 have HRd:=Lib.hid (fun w' (h:Below w.heap.size w w')=>Bt.Rd.at (hr.below h))
 have HO1:=Lib.hid (fun j (hj:j < xs.length) w'=>kd_at ht j hj w')
 have HBl:=Lib.hid (fun w' (hb:Below w.heap.size w w') j (hj:j < xs.length) (hk:kindOf E0 xs[j]≠1)=>block_any _ xs w' (hr.below hb) ht j hj hk d (by omega) H1 H2)
 have Hdp:=Lib.hid h
 have g1:decide ((d:Int) > 16)=false:=decide_eq_false (by omega)
 have g2:decide ((16:Int) < (d:Int))=false:=decide_eq_false (by omega)
 have g3:decide (16 < d)=false:=decide_eq_false (by omega)
 obtain ⟨X,hX⟩:∃ X,allE d xs=X:=⟨_,rfl⟩
 have H0:Hid (X=(allE d (xs.drop 0)).map ((([]:List (Bk × Value × Value × Value)).map (·.1))++·)):=Lib.hid (by
   rw [List.drop_zero,← hX]
   cases allE d xs <;> rfl)
 rw [hX]
 clear hX hr ht H1 H2 h
 go_enter Tryz.func48,Tryz.ntmps48
 go_wp2_with fail
 go_loopw [6,7] (fun vo iv wr=>∃ (j:Nat) (qs:List (Bk × Value × Value × Value)),j≤xs.length∧qs.length≤j∧iv = .int .i64 j∧Hid (OutB w.heap.size wr vo qs)∧Hid (Below w.heap.size w wr)∧Hid (X=(allE d (xs.drop j)).map (qs.map (·.1)++·))) (fun _ iv _=>xs.length - (intOf iv).toNat)
 case atStart=>exact ⟨0,[],Nat.zero_le _,Nat.le_refl _,rfl,Lib.hid (OutG.nil (Nat.le_refl _)),Lib.hid (Below.refl _ _),H0⟩
 case round =>
   clear H0 g1 g2 g3
   obtain ⟨j,qs,hj,hqs,rfl,HO,HB,HN⟩:=hrel
   by_cases hlt:j < xs.length
   · have hji:(j:Int) < (xs.length:Int):=by omega
     obtain ⟨b,of,hbo,c0⟩:=HRd.out wr HB.out j hlt
     subst hbo
     have HOj:=Lib.hid (HO1.out j hlt wr)
     have hdr:xs.drop j=xs[j] :: xs.drop (j+1):=List.drop_eq_getElem_cons hlt
     unfold NumD at HOj
     by_cases hk:kindOf E0 xs[j]=1
     · have e1:((kindOf E0 xs[j]:Int) == 1)=true:=by rw [hk];rfl
       have HN2:Hid (X=(allE d (xs.drop (j+1))).map (qs.map (·.1)++·)):=Lib.hid (by rw [HN.out,hdr,allE_blank hk])
       clear HN hk hdr HBl
       generalize kindOf E0 xs[j]=K at *
       generalize S xs[j]=sx at *
       go_wp2_with fail
       refine HOj.out.mono ?_
       rintro e w2 ⟨rfl,q,hq⟩
       have HB2:=Lib.hid (show Below w.heap.size w w2 from by rw [hq];exact below_drewN HB.out q)
       have HO2:Hid (OutB w.heap.size w2 _ qs):=Lib.hid (OutG.go HO.out (by rw [hq];exact (Keep.refl _ _).drewN q))
       clear hq HOj
       go_wp2_with fail
       go_roundw
       case rel=>exact ⟨j+1,qs,by omega,by omega,by go_num,HO2,HB2,HN2⟩
       case measure=>simp [intOf] <;> omega
     · have e1:((kindOf E0 xs[j]:Int) == 1)=false:=by rw [beq_eq_false_iff_ne];omega
       have HBj:=Lib.hid (fun w' hb=>HBl.out w' hb j hlt hk)
       have hsuf:restB xs[j] (xs.drop (j+1)) <:+ xs.drop (j+1):=rest_suf _ _
       have hpg:=plc_ge hsuf (by omega)
       have hpl:=plc_le xs (restB xs[j] (xs.drop (j+1)))
       have hpd:=plc_drop (suf_of_drop hsuf)
       have hval:Hid (∀ b,valB allE d xs[j] (xs.drop (j+1))=some b→b.kind≠0):=Lib.hid (fun b hb=>val_kind hb)
       have HN2:Hid (X=(after (valB allE d xs[j] (xs.drop (j+1))) (allE d (xs.drop (plc xs (restB xs[j] (xs.drop (j+1))))))).map (qs.map (·.1)++·)):=Lib.hid (by rw [hpd,HN.out,hdr,allE_after Hdp.out hk])
       clear HN hk hdr HBl hsuf hpd
       obtain ⟨o,ho⟩:∃ o,valB allE d xs[j] (xs.drop (j+1))=o:=⟨_,rfl⟩
       simp only [ho] at HBj
       rw [ho] at hval HN2
       clear ho
       obtain ⟨nx,hnx⟩:∃ n,plc xs (restB xs[j] (xs.drop (j+1)))=n:=⟨_,rfl⟩
       simp only [hnx] at HBj
       rw [hnx] at HN2 hpg hpl
       clear hnx
       unfold BlockAns at HBj
       generalize kindOf E0 xs[j]=K at *
       generalize S xs[j]=sx at *
       go_wp2_with fail
       refine HOj.out.mono ?_
       rintro e w2 ⟨rfl,q,hq⟩
       have HB2:=Lib.hid (show Below w.heap.size w w2 from by rw [hq];exact below_drewN HB.out q)
       have HO2:Hid (OutB w.heap.size w2 _ qs):=Lib.hid (OutG.go HO.out (by rw [hq];exact (Keep.refl _ _).drewN q))
       clear hq HOj
       go_wp2_with fail
       refine (HBj.out w2 HB2.out).mono ?_
       rintro e w3 ⟨vl,vs,vk,rfl,b3,hkb⟩
       have hkb0:=hkb w3 (Keep.refl _ _)
       obtain ⟨al,cl,hvl⟩:=hkb0.rd.len
       obtain ⟨as',cs,hvs⟩:=hkb0.sp.len
       obtain ⟨ak,ck,hvk⟩:=hkb0.tr.len
       simp only at hvl hvs hvk
       subst hvl;subst hvs;subst hvk
       have hO3:OutB w.heap.size w3 _ qs:=OutG.go HO2.out (Keep.of_below b3)
       have HO3:=Lib.hid hO3
       have HKB:=Lib.hid hkb
       have HB3:=Lib.hid (HB2.out.trans (b3.mono HB2.out.size))
       have hown:Hid (∀ g,(Value.ownBlock _)=some g→g < w2.heap.size):=Lib.hid (fun g hg=>(OutG.block HO2.out g hg).2)
       clear hkb hkb0 b3 hO3 HBj
       cases o with
       | none =>
         have HR:Hid (X=none):=HN2
         have z0:(bz none).kind=0:=rfl
         have z1:(bz none).level=0:=rfl
         have z2:S (bz none).info=⟨#[]⟩:=rfl
         have z3:(bz none).lines.length=0:=rfl
         have z4:(bz none).spans.length=0:=rfl
         have z5:(bz none).kids.length=0:=rfl
         rw [z0,z1,z2,z3,z4,z5]
         clear z0 z1 z2 z3 z4 z5 HKB hown
         have HB4:=fun c=>HB3.out.alloc HB3.out.size (.cells c 42)
         have HB4:=Lib.hid HB4
         have n0:∀ c,(w3.alloc (.cells c 42)).cell? ⟨w3.heap.size,0,none⟩=c[0]?:=fun c=>cell_at (alloc_new w3 _) 0
         go_wp2_with fail
         go_ret2
         exact ⟨_,by rw [HR.out];rfl,by rw [HR.out];exact frB_nil _ _,HB4.out _⟩
       | some b =>
         have hb0:=hval.out b rfl
         have HN3:Hid (X=(allE d (xs.drop nx)).map ((qs++[(b,Value.bool false,Value.bool false,Value.bool false)]).map (·.1)++·)):=Lib.hid (by
           rw [HN2.out,after]
           cases allE d (xs.drop nx) with
           | none=>rfl
           | some r=>simp)
         have zb:bz (some b)=b:=rfl
         rw [zb] at HKB ⊢
         obtain ⟨kk,hkk⟩:∃ x,b.kind=x:=⟨_,rfl⟩
         rw [hkk] at hb0
         have e2:(kk == 0)=false:=by rw [beq_eq_false_iff_ne];exact hb0
         generalize hCs:(#[Value.int .i64 b.kind,.int .i64 b.level,.string (S b.info),.slice al b.lines.length cl,.slice as' b.spans.length cs,.slice ak b.kids.length ck]:Array Value)=Cs
         have HA4:=alloc_new w3 (.cells Cs 42)
         have hO4:OutB w.heap.size (w3.alloc (.cells Cs 42)) _ qs:=OutG.go HO3.out ((Keep.refl _ _).alloc _)
         obtain ⟨v5,w5,hr5,ho5,hk5⟩:=OutB.push hO4 (x:=(b,.slice al b.lines.length cl,.slice as' b.spans.length cs,.slice ak b.kids.length ck)) (fun w' k2=>HKB.out w' (((Keep.refl _ w3).alloc (.cells Cs 42)).trans ((k2.mono (fun g _ hg=>hg.elim (fun h=>Nat.lt_of_lt_of_le h HB2.out.size) (fun h=>hown.out g h.symm)))))) (by omega)
         have HB4:=HB3.out.alloc HB3.out.size (.cells Cs 42)
         have HB5:=Lib.hid (HB4.trans (OutG.below hO4 hk5))
         have HO5:=Lib.hid ho5
         have HN5:Hid (X=(allE d (xs.drop nx)).map ((qs++[(b,Value.slice al b.lines.length cl,Value.slice as' b.spans.length cs,Value.slice ak b.kids.length ck)]).map (·.1)++·)):=Lib.hid (by rw [HN3.out,List.map_append,List.map_append];rfl)
         have n0:=cell_at HA4 0
         have n1:=cell_at HA4 1
         have n2:=cell_at HA4 2
         have n3:=cell_at HA4 3
         have n4:=cell_at HA4 4
         have n5:=cell_at HA4 5
         have hz4:(w3.alloc (.cells Cs 42)).heap.size=w3.heap.size+1:=by simp
         rw [hz4] at hr5
         subst hCs
         simp only [hkk] at hr5 n0 n1 n2 n3 n4 n5 ⊢
         have Hq5:Hid ((qs++[(b,Value.slice al b.lines.length cl,Value.slice as' b.spans.length cs,Value.slice ak b.kids.length ck)]).length≤nx):=Lib.hid (by rw [List.length_append];simp;omega)
         clear hb0 HN3 zb HA4 hO4 ho5 hk5 HB4 hval HN2 HKB hown hkk
         go_wp2_with (at_builtin;refine Lib.wpList_append_run _ rfl _ _ _ _ rfl _ _ rfl rfl _ _ (hr5 _) ?_)
         go_roundw
         case rel=>exact ⟨nx,_,by omega,Hq5.out,rfl,HO5,HB5,HN5⟩
         case measure=>simp [intOf] <;> omega
   · obtain rfl:j=xs.length:=by omega
     have HR:Hid (X=some (qs.map (·.1))):=Lib.hid (by rw [HN.out,List.drop_length,allE_nil Hdp.out];simp)
     clear HN hlt
     go_wp2_with fail
     go_ret2
     exact ⟨_,by rw [HR.out];rfl,by rw [HR.out];exact OutB.fresh HO.out,HB.out⟩
end Go.Proofs.YtihihgfcklkkhaaGreatDoor.Pa
namespace Go.Proofs.YtihihgfcklkkhaaGreatDoor.Pa
open Go.RowKit
open Go.Proofs.YtihihgfcklkkhaaGreatDoor.Tk (S S_of S_list S_size S_toList S_app ret_int eq8 ne8 at_data len_data Rd)
open Go.Proofs.YtihihgfcklkkhaaGreatDoor.Bt (TrB KB)
open Go.Proofs.YtihihgfcklkkhaaGreatDoor.Cm (Keep)
open Go.Proofs.YtihihgfcklkkhaaGreatDoor.Bk (Tx Bk kindOf)
open Go.Proofs.YtihihgfcklkkhaaGreatDoor.Kd (E0)
open Go.Proofs.YtihihgfcklkkhaaGreatDoor.Utf (chk rcheck_any)
set_option linter.unusedVariables false
theorem deeper_any:∀ m d,17 - d≤m→d≤100→Deeper d
 | 0,d,h,hd=>deeper_base d (by omega) (by omega)
 | m+1,d,h,hd=>by
   by_cases h16:16 < d
   · exact deeper_base d h16 (by omega)
   · exact deeper_step d (by omega) (deeper_any m (d+1) (by omega) (by omega)) (deeper_any m (d+2) (by omega) (by omega))
def lnsB (xs:List Tx):List Bk × Int:=match allE 0 xs with | none=>([],5) | some l=>(l,0)
def docB (s:Tx):List Bk × Int:=if chk (S s)=0 then lnsB (Ln.split s).1 else ([],chk (S s))
def LnsAns (w:World) (r:List Bk × Int) (e:Ending) (w':World):Prop:=∃ u,e = .returned (.tuple #[u,.int .i64 r.2])∧TrB w' u r.1∧Below w.heap.size w w'
theorem strip_len (l:Tx):(Ln.strip l).length≤l.length:=by
 unfold Ln.strip
 split
 · simp
 · exact Nat.le_refl _
theorem split_tot:∀ (r cur:Tx),tot (Ln.ls cur r).1≤cur.length+r.length+1
 | [],cur=>by
   unfold Ln.ls
   split
   · simp [tot]
   · simp only [tot,List.length_nil];omega
 | b :: r,cur=>by
   have h1:=split_tot r []
   have h2:=split_tot r (cur++[b])
   have h3:=strip_len cur
   unfold Ln.ls
   split
   · simp only [tot,List.length_cons,List.length_nil] at h1 ⊢;omega
   · split
     · simp only [tot,List.length_cons,List.length_nil] at h1 ⊢;omega
     · simp only [List.length_append,List.length_cons,List.length_nil] at h2 ⊢;omega
theorem linesR_any (v:Value) (xs:List Tx) (w:World) (hr:Rd w v xs) (ht:tot xs≤90000) :
   Calls Tryz.prog 29 #[v] w (LnsAns w (lnsB xs)):=by
 have HA:=Lib.hid (deeper_any 17 0 (by omega) (by omega) v xs w hr ht)
 have hz:((0:Nat):Int)=0:=rfl
 rw [hz] at HA
 obtain ⟨ao,ca,rfl⟩:=hr.len
 have HX:Hid (lnsB xs=match allE 0 xs with | none=>([],5) | some l=>(l,0)):=Lib.hid rfl
 unfold AllAns at HA
 generalize lnsB xs=X at *
 clear hz hr
 cases ho:allE 0 xs with
 | none =>
   rw [ho] at HA HX
   have HR:Hid (X=([],5)):=HX
   clear HX ho
   go_enter Tryz.func29,Tryz.ntmps29
   go_wp2_with fail
   refine HA.out.mono ?_
   rintro e w2 ⟨u,rfl,hf,b2⟩
   have HB2:=Lib.hid b2
   clear hf b2 HA
   go_wp2_with fail
   go_ret2
   exact ⟨_,by rw [HR.out];rfl,by rw [HR.out];exact Kd.nilTrB _,HB2.out⟩
 | some l =>
   rw [ho] at HA HX
   have HR:Hid (X=(l,0)):=HX
   clear HX ho
   go_enter Tryz.func29,Tryz.ntmps29
   go_wp2_with fail
   refine HA.out.mono ?_
   rintro e w2 ⟨u,rfl,hf,b2⟩
   have HB2:=Lib.hid b2
   have HF:=Lib.hid hf.now
   clear hf b2 HA
   go_wp2_with fail
   go_ret2
   exact ⟨_,by rw [HR.out];rfl,by rw [HR.out];exact HF.out,HB2.out⟩
theorem docR_any (s:ByteArray) (hs:s.size≤80000) (w:World) :
   Calls Tryz.prog 14 #[.string s] w (LnsAns w (docB s.data.toList)):=by
 have HC:=Lib.hid (rcheck_any s (by omega) w)
 have HS:=Lib.hid (Ln.rsplit_any s (by omega) w)
 have HL:=Lib.hid (fun v w' (hr:Rd w' v (Ln.split s.data.toList).1)=>linesR_any v (Ln.split s.data.toList).1 w' hr (by
   have h:=split_tot s.data.toList []
   rw [len_data] at h
   unfold Ln.split
   simp only [List.length_nil] at h
   omega))
 have HX:Hid (docB s.data.toList=if chk s=0 then lnsB (Ln.split s.data.toList).1 else ([],chk s)):=Lib.hid (by unfold docB;rw [S_of])
 unfold LnsAns at HL
 generalize docB s.data.toList=X at *
 generalize chk s=c at *
 generalize lnsB (Ln.split s.data.toList).1=r at *
 obtain ⟨r1,r2⟩:=r
 simp only at HL
 by_cases hc:c=0
 · have e1:(c != 0)=false:=by rw [hc];rfl
   rw [if_pos hc] at HX
   clear hc
   go_enter Tryz.func14,Tryz.ntmps14
   go_wp2_with fail
   refine HC.out.mono ?_
   rintro e w2 ⟨rfl,rfl⟩
   go_wp2_with fail
   refine HS.out.mono ?_
   rintro e w2 ⟨u,rfl,hown,b2⟩
   have HRd:Hid (Rd w2 u (Ln.split s.data.toList).1):=Lib.hid (Rd.of_own hown)
   have HB2:=Lib.hid b2
   have HL2:=Lib.hid (HL.out u w2 HRd.out)
   clear hown b2 HS HL HRd
   go_wp2_with fail
   refine HL2.out.mono ?_
   rintro e w3 ⟨u3,rfl,ht3,b3⟩
   have HT3:=Lib.hid ht3
   have HB3:=Lib.hid (HB2.out.trans (b3.mono HB2.out.size))
   clear ht3 b3 HL2
   go_wp2_with fail
   go_ret2
   exact ⟨_,by rw [HX.out];rfl,by rw [HX.out];exact HT3.out,HB3.out⟩
 · have e1:(c != 0)=true:=by rw [bne_iff_ne];exact hc
   rw [if_neg hc] at HX
   clear hc HS HL
   go_enter Tryz.func14,Tryz.ntmps14
   go_wp2_with fail
   refine HC.out.mono ?_
   rintro e w2 ⟨rfl,rfl⟩
   go_wp2_with fail
   go_ret2
   exact ⟨_,by rw [HX.out];rfl,by rw [HX.out];exact Kd.nilTrB _,Below.refl _ _⟩
end Go.Proofs.YtihihgfcklkkhaaGreatDoor.Pa
namespace Go.Proofs.YtihihgfcklkkhaaGreatDoor.Pa
open Go.RowKit
open Go.Proofs.YtihihgfcklkkhaaGreatDoor.Tk (S S_of S_list S_size S_toList S_app ret_int eq8 ne8 at_data len_data Rd)
open Go.Proofs.YtihihgfcklkkhaaGreatDoor.Bt (TrB KB)
open Go.Proofs.YtihihgfcklkkhaaGreatDoor.Cm (Keep Rk alloc_new alloc_at cell_at frozen_at set_at set_other lt_of_at)
open Go.Proofs.YtihihgfcklkkhaaGreatDoor.Bk (Tx Bk kindOf)
open Go.Proofs.YtihihgfcklkkhaaGreatDoor.Kd (E0 NumD)
set_option linter.unusedVariables false
def spr (xs:List Tx):Nat→Nat→List (Nat × Nat)
 | 0,_=>[]
 | f+1,j=>match xs.drop j with
   | []=>[]
   | s :: l=>if kindOf E0 s=1 then spr xs f (j+1) else (j,plc xs (restB s l)) :: spr xs f (plc xs (restB s l))
def sprB (xs:List Tx):List (Nat × Nat):=spr xs (xs.length+1) 0
theorem spr_end {xs:List Tx} (f:Nat):spr xs f xs.length=[]:=by
 cases f with
 | zero=>rfl
 | succ f=>rw [spr,List.drop_length]
theorem spr_blank {xs:List Tx} {f j:Nat} {s:Tx} {l:List Tx} (h:xs.drop j=s :: l) (hk:kindOf E0 s=1):spr xs (f+1) j=spr xs f (j+1):=by
 rw [spr,h]
 exact if_pos hk
theorem spr_block {xs:List Tx} {f j:Nat} {s:Tx} {l:List Tx} (h:xs.drop j=s :: l) (hk:kindOf E0 s≠1):spr xs (f+1) j=(j,plc xs (restB s l)) :: spr xs f (plc xs (restB s l)):=by
 rw [spr,h]
 exact if_neg hk
def encP (p:Nat × Nat):List Value:=[.int .i64 (p.1:Nat),.int .i64 (p.2:Nat)]
def OutP (B:Nat) (w:World) (v:Value) (l:List (Nat × Nat)):Prop:=OutG 2 36 encP (fun _ _=>True) B w v l
theorem infoP:(Tryz.prog.info? 36).map (fun i=>(i.zero,i.size,i.bytes))=some (some (.agg #[.int .i64 0,.int .i64 0]),2,16):=by kernel_rfl
theorem OutP.push {B:Nat} {w:World} {v:Value} {l:List (Nat × Nat)} (h:OutP B w v l) (x:Nat × Nat) (hl:l.length+1≤1000000) :
   ∃ v' w',(∀ ty,(Builtin.append_ #[34,34] ty #[v,.slice (some ⟨w.heap.size,0,none⟩) 1 1]).run Tryz.prog (w.alloc (.cells #[.int .i64 (x.1:Nat),.int .i64 (x.2:Nat)] 36)) = .ok v' w')∧OutP B w' v' (l++[x])∧Keep (fun j=>some j=v.ownBlock) w w' :=
 OutG.push (ts:=34) Tryz.underlying34 infoP rfl (by decide) (by decide) (fun _=>rfl) h (fun _ _=>trivial) (fun u hu=>by
   rw [encP] at hu
   rcases List.mem_cons.1 hu with rfl | hu
   · rfl
   · rw [List.mem_singleton] at hu;subst hu;rfl) hl
def RdP (w:World) (v:Value) (l:List (Nat × Nat)):Prop:=Rk 2 encP w v l∧l.length≤1000000
def SprAns (w:World) (l:List (Nat × Nat)) (e:Ending) (w':World):Prop:=∃ u,e = .returned u∧RdP w' u l∧Below w.heap.size w w'
set_option maxHeartbeats 3200000 in
theorem spreadR_any (v:Value) (xs:List Tx) (w:World) (hr:Rd w v xs) (ht:tot xs≤90000) :
   Calls Tryz.prog 20 #[v] w (SprAns w (sprB xs)):=by
 obtain ⟨ao,ca,rfl⟩:=hr.len
 have hlen:xs.length≤90000:=Nat.le_trans (tot_len xs) ht
 have HRd:=Lib.hid (fun w' (h:Below w.heap.size w w')=>Bt.Rd.at (hr.below h))
 have HO1:=Lib.hid (fun j (hj:j < xs.length) w'=>kd_at ht j hj w')
 have hcast:((100:Nat):Int)=100:=rfl
 have HBl:=Lib.hid (fun w' (hb:Below w.heap.size w w') j (hj:j < xs.length) (hk:kindOf E0 xs[j]≠1)=>block_any _ xs w' (hr.below hb) ht j hj hk 100 (by omega) (deeper_base _ (by omega) (by omega)) (deeper_base _ (by omega) (by omega)))
 simp only [hcast] at HBl
 obtain ⟨X,hX⟩:∃ X,sprB xs=X:=⟨_,rfl⟩
 have H0:Hid (X=([]:List (Nat × Nat))++spr xs (xs.length+1) 0):=Lib.hid (by rw [List.nil_append,← hX];rfl)
 rw [hX]
 clear hX hr ht hcast
 go_enter Tryz.func20,Tryz.ntmps20
 go_wp2_with fail
 go_loopw [3,4] (fun vo iv wr=>∃ (j f:Nat) (qs:List (Nat × Nat)),j≤xs.length∧xs.length+1≤f+j∧qs.length≤j∧iv = .int .i64 j∧Hid (OutP w.heap.size wr vo qs)∧Hid (Below w.heap.size w wr)∧Hid (X=qs++spr xs f j)) (fun _ iv _=>xs.length - (intOf iv).toNat)
 case atStart=>exact ⟨0,xs.length+1,[],Nat.zero_le _,Nat.le_refl _,Nat.le_refl _,rfl,Lib.hid (OutG.nil (Nat.le_refl _)),Lib.hid (Below.refl _ _),H0⟩
 case round =>
   clear H0
   obtain ⟨j,f,qs,hj,hf,hqs,rfl,HO,HB,HN⟩:=hrel
   by_cases hlt:j < xs.length
   · obtain ⟨g,rfl⟩:∃ g,f=g+1:=⟨f - 1,by omega⟩
     have hji:(j:Int) < (xs.length:Int):=by omega
     obtain ⟨b,of,hbo,c0⟩:=HRd.out wr HB.out j hlt
     subst hbo
     have HOj:=Lib.hid (HO1.out j hlt wr)
     have hdr:xs.drop j=xs[j] :: xs.drop (j+1):=List.drop_eq_getElem_cons hlt
     unfold NumD at HOj
     by_cases hk:kindOf E0 xs[j]=1
     · have e1:((kindOf E0 xs[j]:Int) == 1)=true:=by rw [hk];rfl
       have HN2:Hid (X=qs++spr xs g (j+1)):=Lib.hid (by rw [HN.out,spr_blank hdr hk])
       clear HN hk hdr HBl
       generalize kindOf E0 xs[j]=K at *
       generalize S xs[j]=sx at *
       go_wp2_with fail
       refine HOj.out.mono ?_
       rintro e w2 ⟨rfl,q,hq⟩
       have HB2:=Lib.hid (show Below w.heap.size w w2 from by rw [hq];exact below_drewN HB.out q)
       have HO2:Hid (OutP w.heap.size w2 _ qs):=Lib.hid (OutG.go HO.out (by rw [hq];exact (Keep.refl _ _).drewN q))
       clear hq HOj
       go_wp2_with fail
       go_roundw
       case rel=>exact ⟨j+1,g,qs,by omega,by omega,by omega,by go_num,HO2,HB2,HN2⟩
       case measure=>simp [intOf] <;> omega
     · have e1:((kindOf E0 xs[j]:Int) == 1)=false:=by rw [beq_eq_false_iff_ne];omega
       have HBj:=Lib.hid (fun w' hb=>HBl.out w' hb j hlt hk)
       have hsuf:restB xs[j] (xs.drop (j+1)) <:+ xs.drop (j+1):=rest_suf _ _
       have hpg:=plc_ge hsuf (by omega)
       have hpl:=plc_le xs (restB xs[j] (xs.drop (j+1)))
       have HN2:=Lib.hid (HN.out.trans (by rw [spr_block hdr hk]))
       clear HN hk hdr HBl hsuf
       obtain ⟨o,ho⟩:∃ o,valB allE 100 xs[j] (xs.drop (j+1))=o:=⟨_,rfl⟩
       simp only [ho] at HBj
       clear ho
       obtain ⟨nx,hnx⟩:∃ n,plc xs (restB xs[j] (xs.drop (j+1)))=n:=⟨_,rfl⟩
       simp only [hnx] at HBj
       rw [hnx] at hpg hpl
       have HN3:Hid (X=qs++(j,nx) :: spr xs g nx):=Lib.hid (by rw [HN2.out,hnx])
       clear hnx HN2
       unfold BlockAns at HBj
       generalize kindOf E0 xs[j]=K at *
       generalize S xs[j]=sx at *
       go_wp2_with fail
       refine HOj.out.mono ?_
       rintro e w2 ⟨rfl,q,hq⟩
       have HB2:=Lib.hid (show Below w.heap.size w w2 from by rw [hq];exact below_drewN HB.out q)
       have HO2:Hid (OutP w.heap.size w2 _ qs):=Lib.hid (OutG.go HO.out (by rw [hq];exact (Keep.refl _ _).drewN q))
       clear hq HOj
       go_wp2_with fail
       refine (HBj.out w2 HB2.out).mono ?_
       rintro e w3 ⟨vl,vs,vk,rfl,b3,hkb⟩
       have hkb0:=hkb w3 (Keep.refl _ _)
       obtain ⟨al,cl,hvl⟩:=hkb0.rd.len
       obtain ⟨as',cs,hvs⟩:=hkb0.sp.len
       obtain ⟨ak,ck,hvk⟩:=hkb0.tr.len
       simp only at hvl hvs hvk
       subst hvl;subst hvs;subst hvk
       have hO3:OutP w.heap.size w3 _ qs:=OutG.go HO2.out (Keep.of_below b3)
       have HB3:=Lib.hid (HB2.out.trans (b3.mono HB2.out.size))
       clear hkb hkb0 b3 HBj
       generalize hCs:(#[Value.int .i64 (bz o).kind,.int .i64 (bz o).level,.string (S (bz o).info),.slice al (bz o).lines.length cl,.slice as' (bz o).spans.length cs,.slice ak (bz o).kids.length ck]:Array Value)=Cs
       have hO4:OutP w.heap.size (w3.alloc (.cells Cs 42)) _ qs:=OutG.go hO3 ((Keep.refl _ _).alloc _)
       obtain ⟨v5,w5,hr5,ho5,hk5⟩:=OutP.push hO4 (j,nx) (by omega)
       have HB4:=HB3.out.alloc HB3.out.size (.cells Cs 42)
       have HB5:=Lib.hid (HB4.trans (OutG.below hO4 hk5))
       have HO5:=Lib.hid ho5
       have HN5:Hid (X=(qs++[(j,nx)])++spr xs g nx):=Lib.hid (by rw [HN3.out,List.append_assoc];rfl)
       have hz4:(w3.alloc (.cells Cs 42)).heap.size=w3.heap.size+1:=by simp
       rw [hz4] at hr5
       subst hCs
       simp only at hr5
       have Hq5:Hid ((qs++[(j,nx)]).length≤nx):=Lib.hid (by rw [List.length_append];simp;omega)
       clear HN3 hO3 hO4 ho5 hk5 HB4
       go_wp2_with (at_builtin;refine Lib.wpList_append_run _ rfl _ _ _ _ rfl _ _ rfl rfl _ _ (hr5 _) ?_)
       go_roundw
       case rel=>exact ⟨nx,g,_,by omega,by omega,Hq5.out,rfl,HO5,HB5,HN5⟩
       case measure=>simp [intOf] <;> omega
   · obtain rfl:j=xs.length:=by omega
     have HR:Hid (X=qs):=Lib.hid (by rw [HN.out,spr_end,List.append_nil])
     clear HN hlt
     go_wp2_with fail
     go_ret
     exact ⟨_,rfl,by rw [HR.out];exact ⟨OutG.rk HO.out (fun _=>rfl),by omega⟩,HB.out⟩
end Go.Proofs.YtihihgfcklkkhaaGreatDoor.Pa
namespace Go.Proofs.YtihihgfcklkkhaaGreatDoor.Pa
open Go.RowKit
open Go.Proofs.YtihihgfcklkkhaaGreatDoor.Tk (S S_of S_list S_size S_toList S_app ret_int eq8 ne8 at_data len_data Rd)
open Go.Proofs.YtihihgfcklkkhaaGreatDoor.Sp (ret_bool OkAns)
open Go.Proofs.YtihihgfcklkkhaaGreatDoor.Bt (TrB KB cnt)
open Go.Proofs.YtihihgfcklkkhaaGreatDoor.Cm (Keep)
open Go.Proofs.YtihihgfcklkkhaaGreatDoor.Bk (Tx Bk kindOf)
open Go.Proofs.YtihihgfcklkkhaaGreatDoor.Kd (E0)
set_option linter.unusedVariables false
structure Told12:Prop where
 doc:∀ (s:ByteArray) (w:World),s.size≤10000→Calls Tryz.prog 13 #[.string s] w (LnsAns w (docB s.data.toList))
 lines:∀ (v:Value) (xs:List Tx) (w:World),Rd w v xs→tot xs≤20000→Calls Tryz.prog 21 #[v] w (LnsAns w (lnsB xs))
 spread:∀ (v:Value) (xs:List Tx) (w:World),Rd w v xs→tot xs≤20000→Calls Tryz.prog 19 #[v] w (SprAns w (sprB xs))
def awk:Tx:=[35,32,97,10,10,45,32,98,10]
theorem awk2:(docB awk).2=0:=by decide +kernel
theorem awk1:(docB awk).1.map Bk.kind=[2,6]:=by decide +kernel
theorem two_of {l:List Bk} (h:l.map Bk.kind=[2,6]):∃ x y,l=[x,y]∧x.kind=2∧y.kind=6:=by
 cases l with
 | nil=>simp at h
 | cons x l =>
   cases l with
   | nil=>simp at h
   | cons y l =>
     cases l with
     | nil =>
       simp at h
       exact ⟨x,y,rfl,h.1,h.2⟩
     | cons z l=>simp at h
set_option maxRecDepth 100000 in
theorem awake12_any (K:Told12) (w:World):Calls Tryz.prog 12 #[] w (OkAns w true):=by
 have HD:Hid (Calls Tryz.prog 13 #[.string ⟨#[35,32,97,10,10,45,32,98,10]⟩] w (LnsAns w (docB awk))):=Lib.hid (K.doc ⟨#[35,32,97,10,10,45,32,98,10]⟩ w (by decide))
 unfold LnsAns at HD
 rw [awk2] at HD
 have h1:=awk1
 generalize (docB awk).1=l at *
 obtain ⟨x,y,rfl,hx,hy⟩:=two_of h1
 clear K h1
 go_enter Tryz.func12,Tryz.ntmps12
 go_wp2_with fail
 refine HD.out.mono ?_
 rintro e w2 ⟨u,rfl,ht,b2⟩
 obtain ⟨ao,cap,rfl⟩:=ht.len
 have HB2:=Lib.hid b2
 obtain ⟨b,o,_,_,_,_,rfl,_,hc0⟩:=ht.at 0 (by simp)
 obtain ⟨b',o',_,_,_,_,hbo,_,hc1⟩:=ht.at 1 (by simp)
 simp only [Option.some.injEq,Addr.mk.injEq,and_true] at hbo
 obtain ⟨rfl,rfl⟩:=hbo
 have k0:=hc0.kind
 have k1:=hc1.kind
 simp only [List.getElem_cons_zero,List.getElem_cons_succ,hx,hy,Nat.zero_mul,Nat.one_mul,Nat.add_zero] at k0 k1
 have hl2:([x,y]:List Bk).length=2:=rfl
 rw [hl2]
 clear ht b2 HD hc0 hc1 hx hy hl2
 go_wp2_with fail
 go_ret
 exact ⟨rfl,HB2.out⟩
end Go.Proofs.YtihihgfcklkkhaaGreatDoor.Pa
