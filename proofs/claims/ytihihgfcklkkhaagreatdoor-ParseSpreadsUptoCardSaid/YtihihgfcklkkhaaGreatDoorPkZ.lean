import Derived.Test.YtihihgfcklkkhaaGreatDoorPaBlock
namespace Go.Proofs.YtihihgfcklkkhaaGreatDoor.Pa
open Go.RowKit
open Go.Proofs.YtihihgfcklkkhaaGreatDoor.Tk (S S_of S_list S_size S_toList S_app ret_int eq8 ne8 at_data len_data Rd)
open Go.Proofs.YtihihgfcklkkhaaGreatDoor.Sp (Sp Tr OutAns rparse_any parseB)
open Go.Proofs.YtihihgfcklkkhaaGreatDoor.Bt (TrB KB)
open Go.Proofs.YtihihgfcklkkhaaGreatDoor.Cm (Keep alloc_new alloc_at cell_at frozen_at set_at set_other lt_of_at)
open Go.Proofs.YtihihgfcklkkhaaGreatDoor.Bk (Tx Bk fenceL spanK itemL dropBlank listL kindOf closes unquote unitem inner parse joinLF define items)
open Go.Proofs.YtihihgfcklkkhaaGreatDoor.Ln (run trim rtrim_any)
open Go.Proofs.YtihihgfcklkkhaaGreatDoor.Kd (E0 of_any NumD head_any open_any LevAns hdN hdT opN opT unquote_any StrD uqT dfB)
set_option linter.unusedVariables false
def joined (xs:List Tx) (i j:Nat):Tx:=joinLF (((xs.drop i).take (j - i)).map trim)
theorem joined_len (xs:List Tx) (i j:Nat):(joined xs i j).length≤tot xs:=by
 unfold joined
 have h1:=joinLF_len (((xs.drop i).take (j - i)).map trim)
 have h2:=tot_map trim (fun s=>Ln.trim_len s) ((xs.drop i).take (j - i))
 have h3:=tot_take (xs.drop i) (j - i)
 have h4:=tot_drop xs i
 omega
theorem joined_zero (xs:List Tx) (i:Nat):joined xs i i=[]:=by
 unfold joined
 rw [Nat.sub_self]
 rfl
theorem joined_next (xs:List Tx) (i j:Nat) (hj:j < xs.length) (hij:i≤j) (h:(xs.drop i).take (j+1 - i)=(xs.drop i).take (j - i)++[xs[j]]):joined xs i (j+1)=if j=i then trim xs[j] else joined xs i j++10 :: trim xs[j]:=by
 unfold joined
 rw [h,List.map_append,List.map_cons,List.map_nil,joinLF_snoc]
 by_cases he:j=i
 · subst he
   rw [if_pos rfl,if_pos (by rw [Nat.sub_self];rfl)]
 · rw [if_neg he,if_neg]
   intro h0
   have h1:=congrArg List.length h0
   rw [List.length_map,List.length_take,List.length_drop] at h1
   simp at h1
   omega
set_option maxHeartbeats 6400000 in
set_option maxRecDepth 100000 in
theorem block8_any (v:Value) (xs:List Tx) (w:World) (hr:Rd w v xs) (ht:tot xs≤90000) (i:Nat) (hi:i < xs.length) (hk:kindOf E0 xs[i]=8) (deep:Nat) (hd:deep≤200) :
   Calls Tryz.prog 41 #[v,.int .i64 (i:Nat),.int .i64 (deep:Nat)] w (BlockAns w (valB allE deep xs[i] (xs.drop (i+1))) (plc xs (restB xs[i] (xs.drop (i+1))))):=by
 obtain ⟨ao,ca,rfl⟩:=hr.len
 have hlen:xs.length≤90000:=Nat.le_trans (tot_len xs) ht
 have hsm:=mem_small ht hi
 have hdr:xs.drop i=xs[i] :: xs.drop (i+1):=List.drop_eq_getElem_cons hi
 have HRd:=Lib.hid (fun w' (h:Below w.heap.size w w')=>Bt.Rd.at (hr.below h))
 have HOi:∀ w',Calls Tryz.prog 40 #[.string (S xs[i])] w' (NumD w' 8):=fun w'=>by
   have h:=kd_at ht i hi w'
   rw [hk] at h
   exact h
 have HV:Hid (valB allE deep xs[i] (xs.drop (i+1))=some (.mk 1 0 [] [] (parse (joinLF ((spanK E0 8 (xs.drop i)).1.map trim))) [])):=Lib.hid (by unfold valB;rw [hdr];simp [hk])
 have HP:Hid (plc xs (restB xs[i] (xs.drop (i+1)))=plc xs (spanK E0 8 (xs.drop i)).2):=Lib.hid (by
   unfold restB
   simp only [hk]
   rw [hdr];rfl)
 have hPE:i≤plc xs (spanK E0 8 (xs.drop i)).2:=plc_ge (span_suf E0 8 _) (by omega)
 have hPE2:=plc_le xs (spanK E0 8 (xs.drop i)).2
 have hfst:(spanK E0 8 (xs.drop i)).1=(xs.drop i).take (plc xs (spanK E0 8 (xs.drop i)).2 - i):=by
   have h:=span_fst E0 8 (xs.drop i)
   rw [List.length_drop] at h
   rw [h]
   congr 1
   unfold plc
   omega
 have hkd:∀ j (hj:j < xs.length),i≤j→j < plc xs (spanK E0 8 (xs.drop i)).2→kindOf E0 xs[j]=8:=fun j hj h1 h2=>by
   refine span_kind 8 (xs.drop i) _ ?_
   rw [hfst]
   refine List.mem_iff_getElem.2 ⟨j - i,by rw [List.length_take,List.length_drop];omega,?_⟩
   rw [List.getElem_take,List.getElem_drop]
   congr 1
   omega
 have hnext:∀ j (hj:j < xs.length),i≤j→(xs.drop i).take (j+1 - i)=(xs.drop i).take (j - i)++[xs[j]]:=fun j hj h1=>by
   rw [show j+1 - i=(j - i)+1 by omega,List.take_succ_eq_append_getElem (by rw [List.length_drop];omega)]
   congr 2
   rw [List.getElem_drop]
   congr 1
   omega
 have hcast:((8:Nat):Int)=8:=rfl
 have HRn:=Lib.hid (fun w' (h:Below w.heap.size w w')=>by
   have h2:=runL_any _ xs w' (hr.below h) ht i 8 (by omega)
   rw [hcast] at h2
   exact h2)
 have HT:=Lib.hid (fun j (hj:j < xs.length) w'=>rtrim_any (S xs[j]) (by rw [S_size];have:=mem_small ht hj;omega) w')
 simp only [S_list,Kd.lnS] at HT
 have HTl:=Lib.hid (fun j=>joined_len xs i j)
 have HT0:=Lib.hid (joined_zero xs i)
 have HTn:=Lib.hid (fun j (hj:j < xs.length) (h:i≤j)=>joined_next xs i j hj h (hnext j hj h))
 have htot:=Lib.hid ht
 rw [hfst] at HV
 have HPs:=Lib.hid (fun w'=>rparse_any (S (joined xs i (plc xs (spanK E0 8 (xs.drop i)).2))) (by
   rw [S_size]
   have:=joined_len xs i (plc xs (spanK E0 8 (xs.drop i)).2)
   omega) w')
 have hjo:joinLF (((xs.drop i).take (plc xs (spanK E0 8 (xs.drop i)).2 - i)).map trim)=joined xs i (plc xs (spanK E0 8 (xs.drop i)).2):=rfl
 rw [hjo] at HV
 simp only [parse_eq] at HPs
 unfold OutAns at HPs
 clear hfst hkd hnext hcast hjo
 generalize valB allE deep xs[i] (xs.drop (i+1))=VB at *
 generalize plc xs (restB xs[i] (xs.drop (i+1)))=PB at *
 have HA1:=Lib.hid (alloc_new w (.cells #[.int .i64 0,.int .i64 0,.string ⟨#[]⟩,.slice none 0 0,.slice none 0 0,.slice none 0 0] 42))
 have HB1:=Lib.hid ((Below.refl w.heap.size w).alloc (Nat.le_refl _) (.cells #[.int .i64 0,.int .i64 0,.string ⟨#[]⟩,.slice none 0 0,.slice none 0 0,.slice none 0 0] 42))
 have HO1:=Lib.hid (HOi (w.alloc (.cells #[.int .i64 0,.int .i64 0,.string ⟨#[]⟩,.slice none 0 0,.slice none 0 0,.slice none 0 0] 42)))
 unfold NumD at HO1
 obtain ⟨b0,o0,rfl,c0⟩:=HRd.out (w.alloc (.cells #[.int .i64 0,.int .i64 0,.string ⟨#[]⟩,.slice none 0 0,.slice none 0 0,.slice none 0 0] 42)) HB1.out i hi
 have hii:(i:Int) < (xs.length:Int):=by omega
 have hw1:IntKind.i64.wrap ((i:Int)+1)=((i+1:Nat):Int):=by rw [IntKind.wrap_i64];omega
 generalize plc xs (spanK E0 8 (xs.drop i)).2=pe at *
 generalize parse (joined xs i pe)=L at *
 clear hk hdr hr ht HOi hsm hw1
 go_enter Tryz.func41,Tryz.ntmps41
 go_wp2_with fail
 generalize w.alloc (.cells #[.int .i64 0,.int .i64 0,.string ⟨#[]⟩,.slice none 0 0,.slice none 0 0,.slice none 0 0] 42)=w1 at *
 refine HO1.out.mono ?_
 rintro e w2 ⟨rfl,q,hq⟩
 have HA2:Hid (w2.heap[w.heap.size]? = some (Obj.cells #[.int .i64 0,.int .i64 0,.string ⟨#[]⟩,.slice none 0 0,.slice none 0 0,.slice none 0 0] 42 (0,0))):=Lib.hid (by rw [hq];exact HA1.out)
 have HB2:=Lib.hid (show Below w.heap.size w w2 from by rw [hq];exact below_drewN HB1.out q)
 clear hq HO1 HA1 HB1 c0
 go_wp2_with fail
 refine (HRn.out _ HB2.out).mono ?_
 rintro e w3 ⟨rfl,b3⟩
 have HA3:Hid (w3.heap[w.heap.size]? = some (Obj.cells #[.int .i64 0,.int .i64 0,.string ⟨#[]⟩,.slice none 0 0,.slice none 0 0,.slice none 0 0] 42 (0,0))):=Lib.hid ((b3.block _ (lt_of_at HA2.out)).trans HA2.out)
 have HB3:=Lib.hid (HB2.out.trans (b3.mono HB2.out.size))
 clear b3 HRn HA2
 go_wp2_with fail
 go_loopw [26,27] (fun sv kv wr=>∃ (j:Nat) (st:ByteArray),i≤j∧j≤pe∧kv = .int .i64 j∧sv = .string st∧st.size≤90000∧wr=w3∧Hid (st=S (joined xs i j))) (fun _ kv _=>pe - (intOf kv).toNat)
 case atStart=>exact ⟨i,⟨#[]⟩,Nat.le_refl _,hPE,rfl,rfl,by decide,rfl,Lib.hid (by rw [HT0.out];rfl)⟩
 case round =>
   obtain ⟨j,st,hij,hjp,rfl,rfl,hsz,rfl,HS0⟩:=hrel
   by_cases hlt:j < pe
   · have hjx:j < xs.length:=by omega
     have hjxi:(j:Int) < (xs.length:Int):=by omega
     have hjpi:(j:Int) < (pe:Int):=by omega
     obtain ⟨b,of,hbo,c0⟩:=HRd.out wr HB3.out j hjx
     simp only [Option.some.injEq,Addr.mk.injEq,and_true] at hbo
     obtain ⟨rfl,rfl⟩:=hbo
     have HTj:=Lib.hid (HT.out j hjx wr)
     have hnx:=HTn.out j hjx hij
     have hln:=HTl.out (j+1)
     have htt:=htot.out
     obtain ⟨tx,htx⟩:∃ x,S (trim xs[j])=x:=⟨_,rfl⟩
     have htz:tx.size=(trim xs[j]).length:=by rw [← htx,S_size]
     rw [htx] at HTj
     by_cases hgt:i < j
     · have g1:decide ((j:Int) > (i:Int))=true:=decide_eq_true (by omega)
       have g2:decide ((i:Int) < (j:Int))=true:=decide_eq_true (by omega)
       have g3:decide (i < j)=true:=decide_eq_true hgt
       rw [if_neg (by omega)] at hnx
       have HN:Hid (st++⟨#[10]⟩++tx=S (joined xs i (j+1))):=Lib.hid (by
         rw [HS0.out,← htx,show (⟨#[10]⟩:ByteArray)=S [10] from rfl,S_app,S_app,hnx,List.append_assoc]
         rfl)
       have hz2:(st++⟨#[10]⟩++tx).size≤90000:=by rw [HN.out,S_size];omega
       have hz3:st.size+1+tx.size≤90000:=by
         rw [ByteArray.size_append,ByteArray.size_append] at hz2
         exact hz2
       have Hz2:=Lib.hid hz2
       clear hnx hln htt htz htx hz2 HS0
       generalize S xs[j]=sx at *
       have h10:(⟨#[10]⟩:ByteArray).size=1:=rfl
       go_wp2_with fail
       refine HTj.out.mono ?_
       rintro e w4 ⟨rfl,rfl⟩
       go_wp2_with fail
       go_roundw
       case rel=>exact ⟨j+1,_,by omega,by omega,by go_num,rfl,Hz2.out,by first | exact rfl | exact trivial,HN⟩
       case measure=>simp [intOf] <;> omega
     · have g1:decide ((j:Int) > (i:Int))=false:=decide_eq_false (by omega)
       have g2:decide ((i:Int) < (j:Int))=false:=decide_eq_false (by omega)
       have g3:decide (i < j)=false:=decide_eq_false hgt
       rw [if_pos (by omega)] at hnx
       have HN:Hid (st++tx=S (joined xs i (j+1))):=Lib.hid (by
         have hj0:joined xs i j=[]:=by
           rw [show j=i by omega]
           exact HT0.out
         rw [HS0.out,← htx,hnx,hj0,S_app]
         rfl)
       have hz2:(st++tx).size≤90000:=by rw [HN.out,S_size];omega
       have hz3:st.size+tx.size≤90000:=by
         rw [ByteArray.size_append] at hz2
         exact hz2
       have Hz2:=Lib.hid hz2
       clear hnx hln htt htz htx hz2 HS0
       generalize S xs[j]=sx at *
       go_wp2_with fail
       refine HTj.out.mono ?_
       rintro e w4 ⟨rfl,rfl⟩
       go_wp2_with fail
       go_roundw
       case rel=>exact ⟨j+1,_,by omega,by omega,by go_num,rfl,Hz2.out,by first | exact rfl | exact trivial,HN⟩
       case measure=>simp [intOf] <;> omega
   · obtain rfl:j=pe:=by omega
     rw [← HS0.out] at HPs
     clear HT HTl HT0 HTn HS0
     have hjpi:¬ (j:Int) < (j:Int):=by omega
     go_wp2_with fail
     refine (HPs.out _).mono ?_
     rintro e w4 ⟨vs,rfl,ho⟩
     have b4:=ho.bel
     have HA4:Hid (w4.heap[w.heap.size]? = some (Obj.cells #[.int .i64 0,.int .i64 0,.string ⟨#[]⟩,.slice none 0 0,.slice none 0 0,.slice none 0 0] 42 (0,0))):=Lib.hid ((b4.block _ (lt_of_at HA3.out)).trans HA3.out)
     have HB4:=Lib.hid (HB3.out.trans (b4.mono HB3.out.size))
     obtain ⟨as',cs,rfl⟩:=ho.tr.len
     have HF:Hid (Fr Tr wr.heap.size w4 _ L):=Lib.hid ho.fresh
     have hlt3:=lt_of_at HA3.out
     clear b4 ho HPs HA3
     have k0:w4.cell? ⟨w.heap.size,0,none⟩=some (.int .i64 0):=cell_at HA4.out 0
     have f0:w4.frozen? ⟨w.heap.size,0,none⟩=false:=frozen_at HA4.out 0
     have k1:w4.cell? ⟨w.heap.size,1,none⟩=some (.int .i64 0):=cell_at HA4.out 1
     have f1:w4.frozen? ⟨w.heap.size,1,none⟩=false:=frozen_at HA4.out 1
     have k2:w4.cell? ⟨w.heap.size,2,none⟩=some (.string ⟨#[]⟩):=cell_at HA4.out 2
     have f2:w4.frozen? ⟨w.heap.size,2,none⟩=false:=frozen_at HA4.out 2
     have k3:w4.cell? ⟨w.heap.size,3,none⟩=some (.slice none 0 0):=cell_at HA4.out 3
     have f3:w4.frozen? ⟨w.heap.size,3,none⟩=false:=frozen_at HA4.out 3
     have k4:w4.cell? ⟨w.heap.size,4,none⟩=some (.slice none 0 0):=cell_at HA4.out 4
     have f4:w4.frozen? ⟨w.heap.size,4,none⟩=false:=frozen_at HA4.out 4
     have k5:w4.cell? ⟨w.heap.size,5,none⟩=some (.slice none 0 0):=cell_at HA4.out 5
     have f5:w4.frozen? ⟨w.heap.size,5,none⟩=false:=frozen_at HA4.out 5
     go_wp2_with fail
     have HS:=Lib.hid (Kd.set6 (u0:=.int .i64 1) (u1:=.int .i64 0) (u2:=.string ⟨#[]⟩) (u3:=.slice none 0 0) (u4:=.slice as' L.length cs) (u5:=.slice none 0 0) HA4.out)
     have HB9:=Lib.hid (Kd.set6_below HB4.out (Nat.le_refl _) (.int .i64 1) (.int .i64 0) (.string ⟨#[]⟩) (.slice none 0 0) (.slice as' L.length cs) (.slice none 0 0))
     have HK9:=Lib.hid (fun B hB=>set6_keep (w:=w4) (b:=w.heap.size) (B:=B) hB (.int .i64 1) (.int .i64 0) (.string ⟨#[]⟩) (.slice none 0 0) (.slice as' L.length cs) (.slice none 0 0))
     generalize ((((((w4.setCell ⟨w.heap.size,0,none⟩ (.int .i64 1)).setCell ⟨w.heap.size,1,none⟩ (.int .i64 0)).setCell ⟨w.heap.size,2,none⟩ (.string ⟨#[]⟩)).setCell ⟨w.heap.size,3,none⟩ (.slice none 0 0)).setCell ⟨w.heap.size,4,none⟩ (.slice as' L.length cs)).setCell ⟨w.heap.size,5,none⟩ (.slice none 0 0))=w9 at *
     have r0:w9.cell? ⟨w.heap.size,0,none⟩=some (.int .i64 1):=cell_at HS.out 0
     have r1:w9.cell? ⟨w.heap.size,1,none⟩=some (.int .i64 0):=cell_at HS.out 1
     have r2:w9.cell? ⟨w.heap.size,2,none⟩=some (.string ⟨#[]⟩):=cell_at HS.out 2
     have r3:w9.cell? ⟨w.heap.size,3,none⟩=some (.slice none 0 0):=cell_at HS.out 3
     have r4:w9.cell? ⟨w.heap.size,4,none⟩=some (.slice as' L.length cs):=cell_at HS.out 4
     have r5:w9.cell? ⟨w.heap.size,5,none⟩=some (.slice none 0 0):=cell_at HS.out 5
     exact bodyPost_ret (v:=.tuple #[.agg #[.int .i64 1,.int .i64 0,.string ⟨#[]⟩,.slice none 0 0,.slice as' L.length cs,.slice none 0 0],.int .i64 (j:Nat)]) (by simp [results,Tryz.results41,go_sem,r0,r1,r2,r3,r4,r5]) rfl (ans_some (inf:=[]) HV.out HP.out HB9.out (frRd_nil _ _) (by simp) (HF.out.put (HK9.out _ hlt3) HB3.out.size) (frB_nil _ _))
end Go.Proofs.YtihihgfcklkkhaaGreatDoor.Pa
namespace Go.Proofs.YtihihgfcklkkhaaGreatDoor.Pa
open Go.RowKit
open Go.Proofs.YtihihgfcklkkhaaGreatDoor.Tk (S S_of S_list S_size S_toList S_app ret_int eq8 ne8 at_data len_data Rd)
open Go.Proofs.YtihihgfcklkkhaaGreatDoor.Sp (Sp Tr OutAns rparse_any parseB)
open Go.Proofs.YtihihgfcklkkhaaGreatDoor.Bt (TrB KB)
open Go.Proofs.YtihihgfcklkkhaaGreatDoor.Cm (Keep alloc_new alloc_at cell_at frozen_at set_at set_other lt_of_at)
open Go.Proofs.YtihihgfcklkkhaaGreatDoor.Bk (Tx Bk fenceL spanK itemL dropBlank listL kindOf closes unquote unitem inner parse joinLF define items)
open Go.Proofs.YtihihgfcklkkhaaGreatDoor.Ln (run trim rtrim_any)
open Go.Proofs.YtihihgfcklkkhaaGreatDoor.Kd (E0 of_any NumD head_any open_any LevAns hdN hdT opN opT unquote_any StrD uqT dfB)
set_option linter.unusedVariables false
theorem lst_count:∀ l:List Tx,(lst l).1.length≤l.length:=by
 have h:∀ (f:Nat) (l:List Tx),(listL E0 f l).1.length≤f:=by
   intro f
   induction f with
   | zero=>intro l;simp [listL]
   | succ f ih =>
     intro l
     cases l with
     | nil=>simp [listL]
     | cons s l =>
       unfold listL
       simp only
       split
       · simp
       · split
         · rename_i t r _ _
           have:=ih (t :: r)
           simp only [List.length_cons]
           omega
         · simp
 exact fun l=>h _ l
set_option maxHeartbeats 6400000 in
set_option maxRecDepth 100000 in
theorem block6_any (v:Value) (xs:List Tx) (w:World) (hr:Rd w v xs) (ht:tot xs≤90000) (i:Nat) (hi:i < xs.length) (hk:kindOf E0 xs[i]=6) (deep:Nat) (hd:deep≤200) (HD:Deeper (deep+2)) :
   Calls Tryz.prog 41 #[v,.int .i64 (i:Nat),.int .i64 (deep:Nat)] w (BlockAns w (valB allE deep xs[i] (xs.drop (i+1))) (plc xs (restB xs[i] (xs.drop (i+1))))):=by
 obtain ⟨ao,ca,rfl⟩:=hr.len
 have hlen:xs.length≤90000:=Nat.le_trans (tot_len xs) ht
 have hsm:=mem_small ht hi
 have hdr:xs.drop i=xs[i] :: xs.drop (i+1):=List.drop_eq_getElem_cons hi
 have HRd:=Lib.hid (fun w' (h:Below w.heap.size w w')=>Bt.Rd.at (hr.below h))
 have HOi:∀ w',Calls Tryz.prog 40 #[.string (S xs[i])] w' (NumD w' 6):=fun w'=>by
   have h:=kd_at ht i hi w'
   rw [hk] at h
   exact h
 have HV:Hid (valB allE deep xs[i] (xs.drop (i+1))=((items (allE (deep+2)) (lst (xs.drop i)).1).map fun k=>.mk 6 0 [] [] [] k)):=Lib.hid (by
   unfold valB
   rw [if_neg (by rw [hk];decide),if_neg (by rw [hk];decide),if_neg (by rw [hk];decide),if_neg (by rw [hk];decide),if_pos hk,lst_eq,← hdr])
 have HP:Hid (plc xs (restB xs[i] (xs.drop (i+1)))=plc xs (lst (xs.drop i)).2):=Lib.hid (by
   unfold restB
   simp only [hk]
   rw [hdr];rfl)
 have HLi:=Lib.hid (fun w' (h:Below w.heap.size w w')=>listL_any _ xs w' (hr.below h) ht i hi hk)
 unfold LstAns at HLi
 have htl:∀ x∈(lst (xs.drop i)).1,tot x≤90000:=fun x hx=>by
   have h1:=list_tot _ _ x hx
   have h2:=tot_drop xs i
   omega
 have HTl:=Lib.hid htl
 have HDp:=Lib.hid HD
 have hll:(lst (xs.drop i)).1.length≤90000:=by
   have h1:=lst_count (xs.drop i)
   rw [List.length_drop] at h1
   omega
 have Hll:=Lib.hid hll
 clear htl HD hll
 generalize valB allE deep xs[i] (xs.drop (i+1))=VB at *
 generalize plc xs (restB xs[i] (xs.drop (i+1)))=PB at *
 have HA1:=Lib.hid (alloc_new w (.cells #[.int .i64 0,.int .i64 0,.string ⟨#[]⟩,.slice none 0 0,.slice none 0 0,.slice none 0 0] 42))
 have HB1:=Lib.hid ((Below.refl w.heap.size w).alloc (Nat.le_refl _) (.cells #[.int .i64 0,.int .i64 0,.string ⟨#[]⟩,.slice none 0 0,.slice none 0 0,.slice none 0 0] 42))
 have HO1:=Lib.hid (HOi (w.alloc (.cells #[.int .i64 0,.int .i64 0,.string ⟨#[]⟩,.slice none 0 0,.slice none 0 0,.slice none 0 0] 42)))
 unfold NumD at HO1
 obtain ⟨b0,o0,rfl,c0⟩:=HRd.out (w.alloc (.cells #[.int .i64 0,.int .i64 0,.string ⟨#[]⟩,.slice none 0 0,.slice none 0 0,.slice none 0 0] 42)) HB1.out i hi
 have hii:(i:Int) < (xs.length:Int):=by omega
 have hw1:IntKind.i64.wrap ((i:Int)+1)=((i+1:Nat):Int):=by rw [IntKind.wrap_i64];omega
 generalize plc xs (lst (xs.drop i)).2=pe at *
 generalize (lst (xs.drop i)).1=IL at *
 have hwd:IntKind.i64.wrap ((deep:Int)+2)=((deep+2:Nat):Int):=by rw [IntKind.wrap_i64];omega
 obtain ⟨d1,hd1⟩:∃ q,q=deep+2:=⟨_,rfl⟩
 rw [← hd1] at hwd HV HDp
 clear hk hdr hr ht HOi hsm hw1 hd1
 go_enter Tryz.func41,Tryz.ntmps41
 go_wp2_with fail
 generalize w.alloc (.cells #[.int .i64 0,.int .i64 0,.string ⟨#[]⟩,.slice none 0 0,.slice none 0 0,.slice none 0 0] 42)=w1 at *
 refine HO1.out.mono ?_
 rintro e w2 ⟨rfl,q,hq⟩
 have HA2:Hid (w2.heap[w.heap.size]? = some (Obj.cells #[.int .i64 0,.int .i64 0,.string ⟨#[]⟩,.slice none 0 0,.slice none 0 0,.slice none 0 0] 42 (0,0))):=Lib.hid (by rw [hq];exact HA1.out)
 have HB2:=Lib.hid (show Below w.heap.size w w2 from by rw [hq];exact below_drewN HB1.out q)
 clear hq HO1 HA1 HB1 c0
 go_wp2_with fail
 refine (HLi.out _ HB2.out).mono ?_
 rintro e w3 ⟨lu,ps,rfl,ho3,hps,b3⟩
 have HA3:Hid (w3.heap[w.heap.size]? = some (Obj.cells #[.int .i64 0,.int .i64 0,.string ⟨#[]⟩,.slice none 0 0,.slice none 0 0,.slice none 0 0] 42 (0,0))):=Lib.hid ((b3.block _ (lt_of_at HA2.out)).trans HA2.out)
 have HB3:=Lib.hid (HB2.out.trans (b3.mono HB2.out.size))
 have HO3:=Lib.hid ho3
 have hpl:ps.length=IL.length:=by rw [← hps,List.length_map]
 have hpl2:ps.length≤90000:=by rw [hpl];exact Hll.out
 have HPs:=Lib.hid hps
 have HLr:Hid (∀ w',Keep (fun _=>False) w3 w'→Cm.Rk 1 encL w' lu ps):=Lib.hid (fun w' k2=>(OutG.go ho3 (k2.mono (fun _ _ h=>h.elim))).rk (fun _=>rfl))
 obtain ⟨la,lc,hlu⟩:=(HLr.out w3 (Keep.refl _ _)).len
 subst hlu
 clear b3 HLi HA2 ho3 hps Hll
 have Hlt3:=Lib.hid (lt_of_at HA3.out)
 have HAo:=Lib.hid (alloc_new w3 (.cells #[.int .i64 6,.int .i64 0,.string ⟨#[]⟩,.slice none 0 0,.slice none 0 0,.slice none 0 0] 42))
 have HAt:=Lib.hid (Cm.alloc_at HA3.out (.cells #[.int .i64 6,.int .i64 0,.string ⟨#[]⟩,.slice none 0 0,.slice none 0 0,.slice none 0 0] 42))
 have HBo:=Lib.hid (HB3.out.alloc HB3.out.size (.cells #[.int .i64 6,.int .i64 0,.string ⟨#[]⟩,.slice none 0 0,.slice none 0 0,.slice none 0 0] 42))
 have hsz3:(w3.alloc (.cells #[.int .i64 6,.int .i64 0,.string ⟨#[]⟩,.slice none 0 0,.slice none 0 0,.slice none 0 0] 42)).heap.size=w3.heap.size+1:=by simp
 have HKo:Hid (Keep (fun _=>False) w3 (w3.alloc (.cells #[.int .i64 6,.int .i64 0,.string ⟨#[]⟩,.slice none 0 0,.slice none 0 0,.slice none 0 0] 42))):=Lib.hid ((Keep.refl _ _).alloc _)
 have HX0:Hid ((items (allE d1) IL).map (fun k=>Bk.mk 6 0 [] [] [] k)=((items (allE d1) ((ps.drop 0).map (·.1))).map (([]:List Bk)++·)).map (fun k=>Bk.mk 6 0 [] [] [] k)):=Lib.hid (by
   rw [List.drop_zero,HPs.out]
   cases items (allE d1) IL <;> rfl)
 have HV2:=Lib.hid (HV.out.trans HX0.out)
 have ho0:OutB (w3.heap.size+1) (w3.alloc (.cells #[.int .i64 6,.int .i64 0,.string ⟨#[]⟩,.slice none 0 0,.slice none 0 0,.slice none 0 0] 42)) (.slice none 0 0) []:=OutG.nil (by rw [hsz3];exact Nat.le_refl _)
 have HO0:=Lib.hid ho0
 clear HX0 HV ho0
 have F0:∀ v T,(w3.alloc (.cells v T)).frozen? ⟨w3.heap.size,5,none⟩=false:=fun v T=>frozen_at (alloc_new w3 (.cells v T)) 5
 go_wp2_with fail
 generalize w3.alloc (.cells #[.int .i64 6,.int .i64 0,.string ⟨#[]⟩,.slice none 0 0,.slice none 0 0,.slice none 0 0] 42)=w4 at *
 go_loopw [118] (fun kv wr=>∃ (j:Nat) (qs:List (Bk × Value × Value × Value)) (ao:Option Addr) (cap:Nat),j≤IL.length∧kv = .int .i64 j∧qs.length≤j∧Hid (OutB (w3.heap.size+1) wr (.slice ao qs.length cap) qs)∧Hid (wr.heap[w3.heap.size]? = some (Obj.cells #[.int .i64 6,.int .i64 0,.string ⟨#[]⟩,.slice none 0 0,.slice none 0 0,.slice ao qs.length cap] 42 (0,0)))∧Hid (wr.heap[w.heap.size]? = some (Obj.cells #[.int .i64 0,.int .i64 0,.string ⟨#[]⟩,.slice none 0 0,.slice none 0 0,.slice none 0 0] 42 (0,0)))∧Hid (Below w.heap.size w wr)∧Hid (Keep (fun _=>False) w3 wr)∧Hid (VB=((items (allE d1) ((ps.drop j).map (·.1))).map (qs.map (·.1)++·)).map (fun k=>Bk.mk 6 0 [] [] [] k))) (fun kv _=>IL.length - (intOf kv).toNat)
 case atStart=>exact ⟨0,[],none,0,Nat.zero_le _,rfl,Nat.le_refl _,HO0,HAo,HAt,HBo,HKo,HV2⟩
 case round =>
   clear HV2 HO0 HAo HAt HBo HKo HA3 F0 hsz3
   obtain ⟨j,qs,ao,cap,hj,rfl,hqs,HO,HAo,HAt,HBr,HKr,HV⟩:=hrel
   by_cases hlt:j < IL.length
   · have hji:(j:Int) < (IL.length:Int):=by omega
     have hjp:j < ps.length:=by omega
     have hRL:RL wr ps[j]:=OutG.at (OutG.go HO3.out (HKr.out.mono (fun _ _ h=>h.elim))) _ (List.getElem_mem hjp)
     obtain ⟨b,of,hbo,_,hce⟩:=(HLr.out wr HKr.out).at j hjp
     subst hbo
     have c0:wr.cell? ⟨b,of+j,none⟩=some ps[j].2:=by
       have:=hce 0 ps[j].2 rfl
       rw [Nat.mul_one] at this
       exact this
     have hmem:ps[j].1∈IL:=by rw [← HPs.out];exact List.mem_map.2 ⟨_,List.getElem_mem hjp,rfl⟩
     obtain ⟨al,cl,hpv⟩:=hRL.len
     have HAl:=Lib.hid (HDp.out _ ps[j].1 wr hRL (HTl.out _ hmem))
     rw [hpv] at HAl c0
     have hdj:(ps.drop j).map (·.1)=ps[j].1 :: (ps.drop (j+1)).map (·.1):=by rw [List.drop_eq_getElem_cons hjp];rfl
     rw [hdj] at HV
     clear hce hmem hRL hpv hdj
     unfold AllAns at HAl
     generalize ps[j].1=it at *
     obtain ⟨ov,hov⟩:∃ x,allE d1 it=x:=⟨_,rfl⟩
     rw [hov] at HAl
     cases ov with
     | none =>
       have HV0:Hid (VB=none):=Lib.hid (by rw [HV.out,items,hov];rfl)
       clear HV hov
       go_wp2_with fail
       refine HAl.out.mono ?_
       rintro e w5 ⟨u,rfl,hf,b5⟩
       have HA5:Hid (w5.heap[w.heap.size]? = some (Obj.cells #[.int .i64 0,.int .i64 0,.string ⟨#[]⟩,.slice none 0 0,.slice none 0 0,.slice none 0 0] 42 (0,0))):=Lib.hid ((b5.block _ (lt_of_at HAt.out)).trans HAt.out)
       have HB5:=Lib.hid (HBr.out.trans (b5.mono HBr.out.size))
       clear hf b5 HAl HAt
       have k0:w5.cell? ⟨w.heap.size,0,none⟩=some (.int .i64 0):=cell_at HA5.out 0
       have f0:w5.frozen? ⟨w.heap.size,0,none⟩=false:=frozen_at HA5.out 0
       have k1:w5.cell? ⟨w.heap.size,1,none⟩=some (.int .i64 0):=cell_at HA5.out 1
       have f1:w5.frozen? ⟨w.heap.size,1,none⟩=false:=frozen_at HA5.out 1
       have k2:w5.cell? ⟨w.heap.size,2,none⟩=some (.string ⟨#[]⟩):=cell_at HA5.out 2
       have f2:w5.frozen? ⟨w.heap.size,2,none⟩=false:=frozen_at HA5.out 2
       have k3:w5.cell? ⟨w.heap.size,3,none⟩=some (.slice none 0 0):=cell_at HA5.out 3
       have f3:w5.frozen? ⟨w.heap.size,3,none⟩=false:=frozen_at HA5.out 3
       have k4:w5.cell? ⟨w.heap.size,4,none⟩=some (.slice none 0 0):=cell_at HA5.out 4
       have f4:w5.frozen? ⟨w.heap.size,4,none⟩=false:=frozen_at HA5.out 4
       have k5:w5.cell? ⟨w.heap.size,5,none⟩=some (.slice none 0 0):=cell_at HA5.out 5
       have f5:w5.frozen? ⟨w.heap.size,5,none⟩=false:=frozen_at HA5.out 5
       go_wp2_with fail
       have HS:=Lib.hid (Kd.set6 (u0:=.int .i64 0) (u1:=.int .i64 0) (u2:=.string ⟨#[]⟩) (u3:=.slice none 0 0) (u4:=.slice none 0 0) (u5:=.slice none 0 0) HA5.out)
       have HB9:=Lib.hid (Kd.set6_below HB5.out (Nat.le_refl _) (.int .i64 0) (.int .i64 0) (.string ⟨#[]⟩) (.slice none 0 0) (.slice none 0 0) (.slice none 0 0))
       have HK9:=Lib.hid (fun B hB=>set6_keep (w:=w5) (b:=w.heap.size) (B:=B) hB (.int .i64 0) (.int .i64 0) (.string ⟨#[]⟩) (.slice none 0 0) (.slice none 0 0) (.slice none 0 0))
       generalize ((((((w5.setCell ⟨w.heap.size,0,none⟩ (.int .i64 0)).setCell ⟨w.heap.size,1,none⟩ (.int .i64 0)).setCell ⟨w.heap.size,2,none⟩ (.string ⟨#[]⟩)).setCell ⟨w.heap.size,3,none⟩ (.slice none 0 0)).setCell ⟨w.heap.size,4,none⟩ (.slice none 0 0)).setCell ⟨w.heap.size,5,none⟩ (.slice none 0 0))=w9 at *
       have r0:w9.cell? ⟨w.heap.size,0,none⟩=some (.int .i64 0):=cell_at HS.out 0
       have r1:w9.cell? ⟨w.heap.size,1,none⟩=some (.int .i64 0):=cell_at HS.out 1
       have r2:w9.cell? ⟨w.heap.size,2,none⟩=some (.string ⟨#[]⟩):=cell_at HS.out 2
       have r3:w9.cell? ⟨w.heap.size,3,none⟩=some (.slice none 0 0):=cell_at HS.out 3
       have r4:w9.cell? ⟨w.heap.size,4,none⟩=some (.slice none 0 0):=cell_at HS.out 4
       have r5:w9.cell? ⟨w.heap.size,5,none⟩=some (.slice none 0 0):=cell_at HS.out 5
       exact bodyPost_ret (v:=.tuple #[.agg #[.int .i64 0,.int .i64 0,.string ⟨#[]⟩,.slice none 0 0,.slice none 0 0,.slice none 0 0],.int .i64 (pe:Nat)]) (by simp [results,Tryz.results41,go_sem,r0,r1,r2,r3,r4,r5]) rfl (ans_none HV0.out HP.out HB9.out)
     | some ks =>
       have HV1:Hid (VB=((items (allE d1) ((ps.drop (j+1)).map (·.1))).map ((qs++[(Bk.mk 7 0 [] [] [] ks,Value.bool false,Value.bool false,Value.bool false)]).map (·.1)++·)).map (fun k=>Bk.mk 6 0 [] [] [] k)):=Lib.hid (by
         rw [HV.out,items,hov]
         cases items (allE d1) ((ps.drop (j+1)).map (·.1)) with
         | none=>rfl
         | some r=>simp)
       clear HV hov
       go_wp2_with fail
       refine HAl.out.mono ?_
       rintro e w5 ⟨u,rfl,hf,b5⟩
       obtain ⟨ak,ck,rfl⟩:=hf.now.len
       simp only [Option.getD_some] at hf ⊢
       have HA5:Hid (w5.heap[w.heap.size]? = some (Obj.cells #[.int .i64 0,.int .i64 0,.string ⟨#[]⟩,.slice none 0 0,.slice none 0 0,.slice none 0 0] 42 (0,0))):=Lib.hid ((b5.block _ (lt_of_at HAt.out)).trans HAt.out)
       have HB5:=Lib.hid (HBr.out.trans (b5.mono HBr.out.size))
       have HAo5:=Lib.hid ((b5.block _ (lt_of_at HAo.out)).trans HAo.out)
       have HK5:Hid (Keep (fun _=>False) w3 w5):=Lib.hid (HKr.out.trans (Keep.of_below b5))
       have hO5:OutB (w3.heap.size+1) w5 (.slice ao qs.length cap) qs:=OutG.go HO.out (Keep.of_below b5)
       have hB1:w3.heap.size+1≤wr.heap.size:=OutG.size HO.out
       obtain ⟨v6,w6,hr6,ho6,hk6⟩:=OutB.push hO5 (x:=(Bk.mk 7 0 [] [] [] ks,.slice none 0 0,.slice none 0 0,.slice ak ks.length ck)) (fun w' k2=>⟨Kd.nilRd w',by simp [Bk.lines],Kd.nilTr w',hf.kid hB1 (fun j hj=>(OutG.block HO.out j hj).2) w' k2⟩) (by omega)
       have hS0:S ([]:Tx)=⟨#[]⟩:=rfl
       simp only [Bk.kind,Bk.level,Bk.info,hS0] at hr6
       obtain ⟨a6,c6,hv6⟩:=(OutG.rk ho6 Bt.encT_len).len
       subst hv6
       have hl6:(qs++[(Bk.mk 7 0 [] [] [] ks,Value.slice none 0 0,Value.slice none 0 0,Value.slice ak ks.length ck)]).length=qs.length+1:=by simp
       have hne:∀ q,q < w3.heap.size+1→¬ some q=(Value.slice ao qs.length cap).ownBlock:=fun q hq he=>by
         have:=(OutG.block hO5 q he.symm).1
         omega
       have hA6:w6.heap[w3.heap.size]? = _:=hk6.at HAo5.out (hne _ (by omega))
       have hltw:=lt_of_at HAt.out
       have hw3:w.heap.size < w3.heap.size:=by
         have:=HBr.out.size
         exact Hlt3.out
       have hT6:w6.heap[w.heap.size]? = _:=hk6.at HA5.out (hne _ (by omega))
       have HA6:=Lib.hid hA6
       have HT6:=Lib.hid hT6
       have HB6:=Lib.hid (HB5.out.trans ((OutG.below hO5 hk6).mono (show w.heap.size≤w3.heap.size+1 by omega)))
       have HK6:Hid (Keep (fun _=>False) w3 w6):=Lib.hid (Keep.of_below ((HK5.out.below (fun _ h=>h.elim) (Nat.le_refl _)).trans ((OutG.below hO5 hk6).mono (Nat.le_succ _))))
       have HO7:Hid (OutB (w3.heap.size+1) (w6.setCell ⟨w3.heap.size,5,none⟩ (.slice a6 (qs++[(Bk.mk 7 0 [] [] [] ks,Value.slice none 0 0,Value.slice none 0 0,Value.slice ak ks.length ck)]).length c6)) (.slice a6 (qs++[(Bk.mk 7 0 [] [] [] ks,Value.slice none 0 0,Value.slice none 0 0,Value.slice ak ks.length ck)]).length c6) (qs++[(Bk.mk 7 0 [] [] [] ks,Value.slice none 0 0,Value.slice none 0 0,Value.slice ak ks.length ck)])):=Lib.hid (OutG.go ho6 ((Keep.refl _ w6).setCell (p:=⟨w3.heap.size,5,none⟩) (Or.inl (Nat.lt_succ_self _)) _))
       have HA7:Hid ((w6.setCell ⟨w3.heap.size,5,none⟩ (.slice a6 (qs++[(Bk.mk 7 0 [] [] [] ks,Value.slice none 0 0,Value.slice none 0 0,Value.slice ak ks.length ck)]).length c6)).heap[w3.heap.size]? = some (Obj.cells #[.int .i64 6,.int .i64 0,.string ⟨#[]⟩,.slice none 0 0,.slice none 0 0,.slice a6 (qs++[(Bk.mk 7 0 [] [] [] ks,Value.slice none 0 0,Value.slice none 0 0,Value.slice ak ks.length ck)]).length c6] 42 (0,0))):=Lib.hid (set_at HA6.out 5 _)
       have HT7:Hid ((w6.setCell ⟨w3.heap.size,5,none⟩ (.slice a6 (qs++[(Bk.mk 7 0 [] [] [] ks,Value.slice none 0 0,Value.slice none 0 0,Value.slice ak ks.length ck)]).length c6)).heap[w.heap.size]? = some (Obj.cells #[.int .i64 0,.int .i64 0,.string ⟨#[]⟩,.slice none 0 0,.slice none 0 0,.slice none 0 0] 42 (0,0))):=Lib.hid (set_other HT6.out (by omega))
       have HB7:=Lib.hid (HB6.out.setCell (p:=⟨w3.heap.size,5,none⟩) (show w.heap.size≤w3.heap.size by omega) (.slice a6 (qs++[(Bk.mk 7 0 [] [] [] ks,Value.slice none 0 0,Value.slice none 0 0,Value.slice ak ks.length ck)]).length c6))
       have HK7:=Lib.hid (HK6.out.setCell (p:=⟨w3.heap.size,5,none⟩) (Or.inr (Nat.le_refl _)) (.slice a6 (qs++[(Bk.mk 7 0 [] [] [] ks,Value.slice none 0 0,Value.slice none 0 0,Value.slice ak ks.length ck)]).length c6))
       have HV7:Hid (VB=((items (allE d1) ((ps.drop (j+1)).map (·.1))).map ((qs++[(Bk.mk 7 0 [] [] [] ks,Value.slice none 0 0,Value.slice none 0 0,Value.slice ak ks.length ck)]).map (·.1)++·)).map (fun k=>Bk.mk 6 0 [] [] [] k)):=Lib.hid (by
         rw [HV1.out,List.map_append,List.map_append]
         rfl)
       have c5:w5.cell? ⟨w3.heap.size,5,none⟩=some (.slice ao qs.length cap):=cell_at HAo5.out 5
       have c6a:w6.cell? ⟨w3.heap.size,5,none⟩=some (.slice ao qs.length cap):=cell_at HA6.out 5
       have f6a:w6.frozen? ⟨w3.heap.size,5,none⟩=false:=frozen_at HA6.out 5
       have Hqs:Hid ((qs++[(Bk.mk 7 0 [] [] [] ks,Value.slice none 0 0,Value.slice none 0 0,Value.slice ak ks.length ck)]).length≤j+1):=Lib.hid (by rw [hl6];omega)
       obtain ⟨qn,hqn⟩:∃ x,qs++[(Bk.mk 7 0 [] [] [] ks,Value.slice none 0 0,Value.slice none 0 0,Value.slice ak ks.length ck)]=x:=⟨_,rfl⟩
       rw [hqn] at HO7 HA7 HT7 HB7 HK7 HV7 hr6 Hqs
       clear hf b5 hO5 ho6 hk6 hne hA6 hT6 HA6 HT6 HB6 HK6 HV1 HAo HAt HO HA5 HAo5 HK5 HB5 hl6 hqn hB1 hw3 hltw hS0 HAl HBr HKr
       go_wp2_with (at_builtin;refine Lib.wpList_append_run _ rfl _ _ _ _ rfl _ _ rfl rfl _ _ (hr6 _) ?_)
       go_roundw
       case rel=>exact ⟨j+1,qn,a6,c6,by omega,by go_num,Hqs.out,HO7,HA7,HT7,HB7,HK7,HV7⟩
       case measure=>simp [intOf] <;> omega
   · obtain rfl:j=IL.length:=by omega
     have HV1:Hid (VB=some (.mk 6 0 [] [] [] (qs.map (·.1)))):=Lib.hid (by
       rw [HV.out,List.drop_eq_nil_of_le (by omega)]
       simp [items])
     have HF:Hid (Fr TrB (w3.heap.size+1) wr (.slice ao qs.length cap) (qs.map (·.1))):=Lib.hid (OutB.fresh HO.out)
     have hltw:w.heap.size < w3.heap.size+1:=by have:=Hlt3.out;omega
     have q0:wr.cell? ⟨w3.heap.size,0,none⟩=some (.int .i64 6):=cell_at HAo.out 0
     have q1:wr.cell? ⟨w3.heap.size,1,none⟩=some (.int .i64 0):=cell_at HAo.out 1
     have q2:wr.cell? ⟨w3.heap.size,2,none⟩=some (.string ⟨#[]⟩):=cell_at HAo.out 2
     have q3:wr.cell? ⟨w3.heap.size,3,none⟩=some (.slice none 0 0):=cell_at HAo.out 3
     have q4:wr.cell? ⟨w3.heap.size,4,none⟩=some (.slice none 0 0):=cell_at HAo.out 4
     have q5:wr.cell? ⟨w3.heap.size,5,none⟩=some (.slice ao qs.length cap):=cell_at HAo.out 5
     clear HV hlt HO HKr
     have k0:wr.cell? ⟨w.heap.size,0,none⟩=some (.int .i64 0):=cell_at HAt.out 0
     have f0:wr.frozen? ⟨w.heap.size,0,none⟩=false:=frozen_at HAt.out 0
     have k1:wr.cell? ⟨w.heap.size,1,none⟩=some (.int .i64 0):=cell_at HAt.out 1
     have f1:wr.frozen? ⟨w.heap.size,1,none⟩=false:=frozen_at HAt.out 1
     have k2:wr.cell? ⟨w.heap.size,2,none⟩=some (.string ⟨#[]⟩):=cell_at HAt.out 2
     have f2:wr.frozen? ⟨w.heap.size,2,none⟩=false:=frozen_at HAt.out 2
     have k3:wr.cell? ⟨w.heap.size,3,none⟩=some (.slice none 0 0):=cell_at HAt.out 3
     have f3:wr.frozen? ⟨w.heap.size,3,none⟩=false:=frozen_at HAt.out 3
     have k4:wr.cell? ⟨w.heap.size,4,none⟩=some (.slice none 0 0):=cell_at HAt.out 4
     have f4:wr.frozen? ⟨w.heap.size,4,none⟩=false:=frozen_at HAt.out 4
     have k5:wr.cell? ⟨w.heap.size,5,none⟩=some (.slice none 0 0):=cell_at HAt.out 5
     have f5:wr.frozen? ⟨w.heap.size,5,none⟩=false:=frozen_at HAt.out 5
     go_wp2_with fail
     have HS:=Lib.hid (Kd.set6 (u0:=.int .i64 6) (u1:=.int .i64 0) (u2:=.string ⟨#[]⟩) (u3:=.slice none 0 0) (u4:=.slice none 0 0) (u5:=.slice ao qs.length cap) HAt.out)
     have HB9:=Lib.hid (Kd.set6_below HBr.out (Nat.le_refl _) (.int .i64 6) (.int .i64 0) (.string ⟨#[]⟩) (.slice none 0 0) (.slice none 0 0) (.slice ao qs.length cap))
     have HK9:=Lib.hid (fun B hB=>set6_keep (w:=wr) (b:=w.heap.size) (B:=B) hB (.int .i64 6) (.int .i64 0) (.string ⟨#[]⟩) (.slice none 0 0) (.slice none 0 0) (.slice ao qs.length cap))
     generalize ((((((wr.setCell ⟨w.heap.size,0,none⟩ (.int .i64 6)).setCell ⟨w.heap.size,1,none⟩ (.int .i64 0)).setCell ⟨w.heap.size,2,none⟩ (.string ⟨#[]⟩)).setCell ⟨w.heap.size,3,none⟩ (.slice none 0 0)).setCell ⟨w.heap.size,4,none⟩ (.slice none 0 0)).setCell ⟨w.heap.size,5,none⟩ (.slice ao qs.length cap))=w9 at *
     have r0:w9.cell? ⟨w.heap.size,0,none⟩=some (.int .i64 6):=cell_at HS.out 0
     have r1:w9.cell? ⟨w.heap.size,1,none⟩=some (.int .i64 0):=cell_at HS.out 1
     have r2:w9.cell? ⟨w.heap.size,2,none⟩=some (.string ⟨#[]⟩):=cell_at HS.out 2
     have r3:w9.cell? ⟨w.heap.size,3,none⟩=some (.slice none 0 0):=cell_at HS.out 3
     have r4:w9.cell? ⟨w.heap.size,4,none⟩=some (.slice none 0 0):=cell_at HS.out 4
     have r5:w9.cell? ⟨w.heap.size,5,none⟩=some (.slice ao qs.length cap):=cell_at HS.out 5
     exact bodyPost_ret (v:=.tuple #[.agg #[.int .i64 6,.int .i64 0,.string ⟨#[]⟩,.slice none 0 0,.slice none 0 0,.slice ao qs.length cap],.int .i64 (pe:Nat)]) (by simp [results,Tryz.results41,go_sem,r0,r1,r2,r3,r4,r5]) rfl (ans_some (inf:=[]) HV1.out HP.out HB9.out (frRd_nil _ _) (by simp) (frTr_nil _ _) (HF.out.put (HK9.out _ hltw) (by omega)))
end Go.Proofs.YtihihgfcklkkhaaGreatDoor.Pa
namespace Go.Proofs.YtihihgfcklkkhaaGreatDoor.Pa
open Go.RowKit
open Go.Proofs.YtihihgfcklkkhaaGreatDoor.Tk (S S_of S_list S_size S_toList S_app ret_int eq8 ne8 at_data len_data Rd)
open Go.Proofs.YtihihgfcklkkhaaGreatDoor.Sp (Sp Tr OutAns rparse_any parseB)
open Go.Proofs.YtihihgfcklkkhaaGreatDoor.Bt (TrB KB)
open Go.Proofs.YtihihgfcklkkhaaGreatDoor.Cm (Keep alloc_new alloc_at cell_at frozen_at set_at set_other lt_of_at)
open Go.Proofs.YtihihgfcklkkhaaGreatDoor.Bk (Tx Bk fenceL spanK itemL dropBlank listL kindOf closes unquote unitem inner parse joinLF define items)
open Go.Proofs.YtihihgfcklkkhaaGreatDoor.Ln (run trim rtrim_any)
open Go.Proofs.YtihihgfcklkkhaaGreatDoor.Kd (E0 of_any NumD head_any open_any LevAns hdN hdT opN opT unquote_any StrD uqT dfB)
set_option linter.unusedVariables false
set_option maxHeartbeats 6400000 in
set_option maxRecDepth 100000 in
theorem block5_any (v:Value) (xs:List Tx) (w:World) (hr:Rd w v xs) (ht:tot xs≤90000) (i:Nat) (hi:i < xs.length) (hk:kindOf E0 xs[i]=5) (deep:Nat) (hd:deep≤200) (HD:Deeper (deep+1)) :
   Calls Tryz.prog 41 #[v,.int .i64 (i:Nat),.int .i64 (deep:Nat)] w (BlockAns w (valB allE deep xs[i] (xs.drop (i+1))) (plc xs (restB xs[i] (xs.drop (i+1))))):=by
 obtain ⟨ao,ca,rfl⟩:=hr.len
 have hlen:xs.length≤90000:=Nat.le_trans (tot_len xs) ht
 have hsm:=mem_small ht hi
 have hdr:xs.drop i=xs[i] :: xs.drop (i+1):=List.drop_eq_getElem_cons hi
 have HRd:=Lib.hid (fun w' (h:Below w.heap.size w w')=>Bt.Rd.at (hr.below h))
 have HOi:∀ w',Calls Tryz.prog 40 #[.string (S xs[i])] w' (NumD w' 5):=fun w'=>by
   have h:=kd_at ht i hi w'
   rw [hk] at h
   exact h
 have HV:Hid (valB allE deep xs[i] (xs.drop (i+1))=((allE (deep+1) ((spanK E0 5 (xs.drop i)).1.map unquote)).map fun k=>.mk 5 0 [] [] [] k)):=Lib.hid (by unfold valB;rw [hdr];simp [hk])
 have HP:Hid (plc xs (restB xs[i] (xs.drop (i+1)))=plc xs (spanK E0 5 (xs.drop i)).2):=Lib.hid (by
   unfold restB
   simp only [hk]
   rw [hdr];rfl)
 have hPE:i≤plc xs (spanK E0 5 (xs.drop i)).2:=plc_ge (span_suf E0 5 _) (by omega)
 have hPE2:=plc_le xs (spanK E0 5 (xs.drop i)).2
 have hfst:(spanK E0 5 (xs.drop i)).1=(xs.drop i).take (plc xs (spanK E0 5 (xs.drop i)).2 - i):=by
   have h:=span_fst E0 5 (xs.drop i)
   rw [List.length_drop] at h
   rw [h]
   congr 1
   unfold plc
   omega
 have hkd:∀ j (hj:j < xs.length),i≤j→j < plc xs (spanK E0 5 (xs.drop i)).2→kindOf E0 xs[j]=5:=fun j hj h1 h2=>by
   refine span_kind 5 (xs.drop i) _ ?_
   rw [hfst]
   refine List.mem_iff_getElem.2 ⟨j - i,by rw [List.length_take,List.length_drop];omega,?_⟩
   rw [List.getElem_take,List.getElem_drop]
   congr 1
   omega
 have hnext:∀ j (hj:j < xs.length),i≤j→(xs.drop i).take (j+1 - i)=(xs.drop i).take (j - i)++[xs[j]]:=fun j hj h1=>by
   rw [show j+1 - i=(j - i)+1 by omega,List.take_succ_eq_append_getElem (by rw [List.length_drop];omega)]
   congr 2
   rw [List.getElem_drop]
   congr 1
   omega
 have hcast:((5:Nat):Int)=5:=rfl
 have HRn:=Lib.hid (fun w' (h:Below w.heap.size w w')=>by
   have h2:=runL_any _ xs w' (hr.below h) ht i 5 (by omega)
   rw [hcast] at h2
   exact h2)
 have HU:=Lib.hid (fun j (hj:j < xs.length) (h1:i≤j) (h2:j < plc xs (spanK E0 5 (xs.drop i)).2) w'=>by
   have h:=unquote_any (S xs[j]) (by rw [S_size];have:=mem_small ht hj;omega) w'
   rw [S_list,uqT,if_pos (hkd j hj h1 h2)] at h
   exact h)
 unfold StrD at HU
 have Hnx:=Lib.hid hnext
 have htin:tot (((xs.drop i).take (plc xs (spanK E0 5 (xs.drop i)).2 - i)).map unquote)≤90000:=by
   have h2:=tot_map unquote unq_len ((xs.drop i).take (plc xs (spanK E0 5 (xs.drop i)).2 - i))
   have h3:=tot_take (xs.drop i) (plc xs (spanK E0 5 (xs.drop i)).2 - i)
   have h4:=tot_drop xs i
   omega
 have HTi:=Lib.hid htin
 have HDp:=Lib.hid HD
 rw [hfst] at HV
 clear hfst hkd hnext hcast htin HD
 generalize valB allE deep xs[i] (xs.drop (i+1))=VB at *
 generalize plc xs (restB xs[i] (xs.drop (i+1)))=PB at *
 have HA1:=Lib.hid (alloc_new w (.cells #[.int .i64 0,.int .i64 0,.string ⟨#[]⟩,.slice none 0 0,.slice none 0 0,.slice none 0 0] 42))
 have HB1:=Lib.hid ((Below.refl w.heap.size w).alloc (Nat.le_refl _) (.cells #[.int .i64 0,.int .i64 0,.string ⟨#[]⟩,.slice none 0 0,.slice none 0 0,.slice none 0 0] 42))
 have HO1:=Lib.hid (HOi (w.alloc (.cells #[.int .i64 0,.int .i64 0,.string ⟨#[]⟩,.slice none 0 0,.slice none 0 0,.slice none 0 0] 42)))
 unfold NumD at HO1
 obtain ⟨b0,o0,rfl,c0⟩:=HRd.out (w.alloc (.cells #[.int .i64 0,.int .i64 0,.string ⟨#[]⟩,.slice none 0 0,.slice none 0 0,.slice none 0 0] 42)) HB1.out i hi
 have hii:(i:Int) < (xs.length:Int):=by omega
 have hw1:IntKind.i64.wrap ((i:Int)+1)=((i+1:Nat):Int):=by rw [IntKind.wrap_i64];omega
 generalize plc xs (spanK E0 5 (xs.drop i)).2=pe at *
 have hwd:IntKind.i64.wrap ((deep:Int)+1)=((deep+1:Nat):Int):=by rw [IntKind.wrap_i64];omega
 obtain ⟨d1,hd1⟩:∃ q,q=deep+1:=⟨_,rfl⟩
 rw [← hd1] at hwd HV HDp
 clear hk hdr hr ht HOi hsm hw1 hd1
 go_enter Tryz.func41,Tryz.ntmps41
 go_wp2_with fail
 generalize w.alloc (.cells #[.int .i64 0,.int .i64 0,.string ⟨#[]⟩,.slice none 0 0,.slice none 0 0,.slice none 0 0] 42)=w1 at *
 refine HO1.out.mono ?_
 rintro e w2 ⟨rfl,q,hq⟩
 have HA2:Hid (w2.heap[w.heap.size]? = some (Obj.cells #[.int .i64 0,.int .i64 0,.string ⟨#[]⟩,.slice none 0 0,.slice none 0 0,.slice none 0 0] 42 (0,0))):=Lib.hid (by rw [hq];exact HA1.out)
 have HB2:=Lib.hid (show Below w.heap.size w w2 from by rw [hq];exact below_drewN HB1.out q)
 clear hq HO1 HA1 HB1 c0
 go_wp2_with fail
 refine (HRn.out _ HB2.out).mono ?_
 rintro e w3 ⟨rfl,b3⟩
 have HA3:Hid (w3.heap[w.heap.size]? = some (Obj.cells #[.int .i64 0,.int .i64 0,.string ⟨#[]⟩,.slice none 0 0,.slice none 0 0,.slice none 0 0] 42 (0,0))):=Lib.hid ((b3.block _ (lt_of_at HA2.out)).trans HA2.out)
 have HB3:=Lib.hid (HB2.out.trans (b3.mono HB2.out.size))
 clear b3 HRn HA2
 go_wp2_with fail
 go_loopw [15,16] (fun vo kv wr=>∃ (j:Nat),i≤j∧j≤pe∧kv = .int .i64 j∧Hid (OutS w3.heap.size wr vo (((xs.drop i).take (j - i)).map unquote))∧Hid (Below w3.heap.size w3 wr)) (fun _ kv _=>pe - (intOf kv).toNat)
 case atStart=>exact ⟨i,Nat.le_refl _,hPE,rfl,Lib.hid (by rw [Nat.sub_self];exact OutG.nil (Nat.le_refl _)),Lib.hid (Below.refl _ _)⟩
 case round =>
   obtain ⟨j,hij,hjp,rfl,HO,HBr⟩:=hrel
   have HBw:=Lib.hid (HB3.out.trans (HBr.out.mono HB3.out.size))
   by_cases hlt:j < pe
   · have hjx:j < xs.length:=by omega
     have hjxi:(j:Int) < (xs.length:Int):=by omega
     have hjpi:(j:Int) < (pe:Int):=by omega
     obtain ⟨b,of,hbo,c0⟩:=HRd.out wr HBw.out j hjx
     simp only [Option.some.injEq,Addr.mk.injEq,and_true] at hbo
     obtain ⟨rfl,rfl⟩:=hbo
     have HUj:=Lib.hid (HU.out j hjx hij hlt wr)
     have hnx:=Hnx.out j hjx hij
     generalize S xs[j]=sx at *
     go_wp2_with fail
     refine HUj.out.mono ?_
     rintro e w4 ⟨rfl,q,hq⟩
     have HO4:Hid (OutS w3.heap.size w4 _ _):=Lib.hid (OutG.go HO.out (by rw [hq];exact (Keep.refl _ _).drewN q))
     have HB4:=Lib.hid (show Below w3.heap.size w3 w4 from by rw [hq];exact below_drewN HBr.out q)
     obtain ⟨v5,w5,hr5,ho5,hk5⟩:=HO4.out.push (unquote xs[j]) (by rw [List.length_map,List.length_take,List.length_drop];omega)
     have HO5:Hid (OutS w3.heap.size w5 v5 (((xs.drop i).take (j+1 - i)).map unquote)):=Lib.hid (by
       rw [hnx,List.map_append]
       exact ho5)
     have HB5:=Lib.hid (HB4.out.trans (OutG.below HO4.out hk5))
     clear hq ho5 hk5 hnx HUj
     go_wp2_with (at_builtin;refine Lib.wpList_append_run _ rfl _ _ _ _ rfl _ _ rfl rfl _ _ (hr5 _) ?_)
     go_roundw
     case rel=>exact ⟨j+1,by omega,by omega,by go_num,HO5,HB5⟩
     case measure=>simp [intOf] <;> omega
   · obtain rfl:j=pe:=by omega
     have hjpi:¬ (j:Int) < (j:Int):=by omega
     have HAl:=Lib.hid (HDp.out _ _ wr HO.out.rd HTi.out)
     have HAr:Hid (wr.heap[w.heap.size]? = some (Obj.cells #[.int .i64 0,.int .i64 0,.string ⟨#[]⟩,.slice none 0 0,.slice none 0 0,.slice none 0 0] 42 (0,0))):=Lib.hid ((HBr.out.block _ (lt_of_at HA3.out)).trans HA3.out)
     clear HU Hnx HTi HDp HO hlt
     unfold AllAns at HAl
     obtain ⟨ov,hov⟩:∃ x,allE d1 (((xs.drop i).take (j - i)).map unquote)=x:=⟨_,rfl⟩
     rw [hov] at HAl HV
     clear hov
     cases ov with
     | none =>
       have HV0:Hid (VB=none):=HV
       go_wp2_with fail
       refine HAl.out.mono ?_
       rintro e w4 ⟨u,rfl,hf,b4⟩
       have HA4:Hid (w4.heap[w.heap.size]? = some (Obj.cells #[.int .i64 0,.int .i64 0,.string ⟨#[]⟩,.slice none 0 0,.slice none 0 0,.slice none 0 0] 42 (0,0))):=Lib.hid ((b4.block _ (lt_of_at HAr.out)).trans HAr.out)
       have HB4:=Lib.hid (HBw.out.trans (b4.mono HBw.out.size))
       clear hf b4 HAl HAr HA3
       have k0:w4.cell? ⟨w.heap.size,0,none⟩=some (.int .i64 0):=cell_at HA4.out 0
       have f0:w4.frozen? ⟨w.heap.size,0,none⟩=false:=frozen_at HA4.out 0
       have k1:w4.cell? ⟨w.heap.size,1,none⟩=some (.int .i64 0):=cell_at HA4.out 1
       have f1:w4.frozen? ⟨w.heap.size,1,none⟩=false:=frozen_at HA4.out 1
       have k2:w4.cell? ⟨w.heap.size,2,none⟩=some (.string ⟨#[]⟩):=cell_at HA4.out 2
       have f2:w4.frozen? ⟨w.heap.size,2,none⟩=false:=frozen_at HA4.out 2
       have k3:w4.cell? ⟨w.heap.size,3,none⟩=some (.slice none 0 0):=cell_at HA4.out 3
       have f3:w4.frozen? ⟨w.heap.size,3,none⟩=false:=frozen_at HA4.out 3
       have k4:w4.cell? ⟨w.heap.size,4,none⟩=some (.slice none 0 0):=cell_at HA4.out 4
       have f4:w4.frozen? ⟨w.heap.size,4,none⟩=false:=frozen_at HA4.out 4
       have k5:w4.cell? ⟨w.heap.size,5,none⟩=some (.slice none 0 0):=cell_at HA4.out 5
       have f5:w4.frozen? ⟨w.heap.size,5,none⟩=false:=frozen_at HA4.out 5
       go_wp2_with fail
       have HS:=Lib.hid (Kd.set6 (u0:=.int .i64 0) (u1:=.int .i64 0) (u2:=.string ⟨#[]⟩) (u3:=.slice none 0 0) (u4:=.slice none 0 0) (u5:=.slice none 0 0) HA4.out)
       have HB9:=Lib.hid (Kd.set6_below HB4.out (Nat.le_refl _) (.int .i64 0) (.int .i64 0) (.string ⟨#[]⟩) (.slice none 0 0) (.slice none 0 0) (.slice none 0 0))
       have HK9:=Lib.hid (fun B hB=>set6_keep (w:=w4) (b:=w.heap.size) (B:=B) hB (.int .i64 0) (.int .i64 0) (.string ⟨#[]⟩) (.slice none 0 0) (.slice none 0 0) (.slice none 0 0))
       generalize ((((((w4.setCell ⟨w.heap.size,0,none⟩ (.int .i64 0)).setCell ⟨w.heap.size,1,none⟩ (.int .i64 0)).setCell ⟨w.heap.size,2,none⟩ (.string ⟨#[]⟩)).setCell ⟨w.heap.size,3,none⟩ (.slice none 0 0)).setCell ⟨w.heap.size,4,none⟩ (.slice none 0 0)).setCell ⟨w.heap.size,5,none⟩ (.slice none 0 0))=w9 at *
       have r0:w9.cell? ⟨w.heap.size,0,none⟩=some (.int .i64 0):=cell_at HS.out 0
       have r1:w9.cell? ⟨w.heap.size,1,none⟩=some (.int .i64 0):=cell_at HS.out 1
       have r2:w9.cell? ⟨w.heap.size,2,none⟩=some (.string ⟨#[]⟩):=cell_at HS.out 2
       have r3:w9.cell? ⟨w.heap.size,3,none⟩=some (.slice none 0 0):=cell_at HS.out 3
       have r4:w9.cell? ⟨w.heap.size,4,none⟩=some (.slice none 0 0):=cell_at HS.out 4
       have r5:w9.cell? ⟨w.heap.size,5,none⟩=some (.slice none 0 0):=cell_at HS.out 5
       exact bodyPost_ret (v:=.tuple #[.agg #[.int .i64 0,.int .i64 0,.string ⟨#[]⟩,.slice none 0 0,.slice none 0 0,.slice none 0 0],.int .i64 (j:Nat)]) (by simp [results,Tryz.results41,go_sem,r0,r1,r2,r3,r4,r5]) rfl (ans_none HV0.out HP.out HB9.out)
     | some ks =>
       have HV1:Hid (VB=some (.mk 5 0 [] [] [] ks)):=HV
       go_wp2_with fail
       refine HAl.out.mono ?_
       rintro e w4 ⟨u,rfl,hf,b4⟩
       have HA4:Hid (w4.heap[w.heap.size]? = some (Obj.cells #[.int .i64 0,.int .i64 0,.string ⟨#[]⟩,.slice none 0 0,.slice none 0 0,.slice none 0 0] 42 (0,0))):=Lib.hid ((b4.block _ (lt_of_at HAr.out)).trans HAr.out)
       have HB4:=Lib.hid (HBw.out.trans (b4.mono HBw.out.size))
       obtain ⟨ak,ck,rfl⟩:=hf.now.len
       simp only [Option.getD_some] at hf ⊢
       have HF:=Lib.hid hf
       have hltr:=lt_of_at HAr.out
       clear hf b4 HAl HAr HA3
       have k0:w4.cell? ⟨w.heap.size,0,none⟩=some (.int .i64 0):=cell_at HA4.out 0
       have f0:w4.frozen? ⟨w.heap.size,0,none⟩=false:=frozen_at HA4.out 0
       have k1:w4.cell? ⟨w.heap.size,1,none⟩=some (.int .i64 0):=cell_at HA4.out 1
       have f1:w4.frozen? ⟨w.heap.size,1,none⟩=false:=frozen_at HA4.out 1
       have k2:w4.cell? ⟨w.heap.size,2,none⟩=some (.string ⟨#[]⟩):=cell_at HA4.out 2
       have f2:w4.frozen? ⟨w.heap.size,2,none⟩=false:=frozen_at HA4.out 2
       have k3:w4.cell? ⟨w.heap.size,3,none⟩=some (.slice none 0 0):=cell_at HA4.out 3
       have f3:w4.frozen? ⟨w.heap.size,3,none⟩=false:=frozen_at HA4.out 3
       have k4:w4.cell? ⟨w.heap.size,4,none⟩=some (.slice none 0 0):=cell_at HA4.out 4
       have f4:w4.frozen? ⟨w.heap.size,4,none⟩=false:=frozen_at HA4.out 4
       have k5:w4.cell? ⟨w.heap.size,5,none⟩=some (.slice none 0 0):=cell_at HA4.out 5
       have f5:w4.frozen? ⟨w.heap.size,5,none⟩=false:=frozen_at HA4.out 5
       go_wp2_with fail
       have HS:=Lib.hid (Kd.set6 (u0:=.int .i64 5) (u1:=.int .i64 0) (u2:=.string ⟨#[]⟩) (u3:=.slice none 0 0) (u4:=.slice none 0 0) (u5:=.slice ak ks.length ck) HA4.out)
       have HB9:=Lib.hid (Kd.set6_below HB4.out (Nat.le_refl _) (.int .i64 5) (.int .i64 0) (.string ⟨#[]⟩) (.slice none 0 0) (.slice none 0 0) (.slice ak ks.length ck))
       have HK9:=Lib.hid (fun B hB=>set6_keep (w:=w4) (b:=w.heap.size) (B:=B) hB (.int .i64 5) (.int .i64 0) (.string ⟨#[]⟩) (.slice none 0 0) (.slice none 0 0) (.slice ak ks.length ck))
       generalize ((((((w4.setCell ⟨w.heap.size,0,none⟩ (.int .i64 5)).setCell ⟨w.heap.size,1,none⟩ (.int .i64 0)).setCell ⟨w.heap.size,2,none⟩ (.string ⟨#[]⟩)).setCell ⟨w.heap.size,3,none⟩ (.slice none 0 0)).setCell ⟨w.heap.size,4,none⟩ (.slice none 0 0)).setCell ⟨w.heap.size,5,none⟩ (.slice ak ks.length ck))=w9 at *
       have r0:w9.cell? ⟨w.heap.size,0,none⟩=some (.int .i64 5):=cell_at HS.out 0
       have r1:w9.cell? ⟨w.heap.size,1,none⟩=some (.int .i64 0):=cell_at HS.out 1
       have r2:w9.cell? ⟨w.heap.size,2,none⟩=some (.string ⟨#[]⟩):=cell_at HS.out 2
       have r3:w9.cell? ⟨w.heap.size,3,none⟩=some (.slice none 0 0):=cell_at HS.out 3
       have r4:w9.cell? ⟨w.heap.size,4,none⟩=some (.slice none 0 0):=cell_at HS.out 4
       have r5:w9.cell? ⟨w.heap.size,5,none⟩=some (.slice ak ks.length ck):=cell_at HS.out 5
       exact bodyPost_ret (v:=.tuple #[.agg #[.int .i64 5,.int .i64 0,.string ⟨#[]⟩,.slice none 0 0,.slice none 0 0,.slice ak ks.length ck],.int .i64 (j:Nat)]) (by simp [results,Tryz.results41,go_sem,r0,r1,r2,r3,r4,r5]) rfl (ans_some (inf:=[]) HV1.out HP.out HB9.out (frRd_nil _ _) (by simp) (frTr_nil _ _) (HF.out.put (HK9.out _ hltr) HBw.out.size))
end Go.Proofs.YtihihgfcklkkhaaGreatDoor.Pa
