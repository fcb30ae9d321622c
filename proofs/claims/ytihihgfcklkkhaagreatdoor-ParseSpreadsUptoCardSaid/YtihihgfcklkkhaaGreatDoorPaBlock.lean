import Derived.Test.YtihihgfcklkkhaaGreatDoorPkX
import Derived.Test.YtihihgfcklkkhaaGreatDoorSiRead
namespace Go.Proofs.YtihihgfcklkkhaaGreatDoor.Pa
open Go.RowKit
open Go.Proofs.YtihihgfcklkkhaaGreatDoor.Tk (S S_of S_list S_size S_toList S_app ret_int eq8 ne8 at_data len_data Rd)
open Go.Proofs.YtihihgfcklkkhaaGreatDoor.Sp (Sp Tr OutAns rparse_any parseB)
open Go.Proofs.YtihihgfcklkkhaaGreatDoor.Bt (TrB KB)
open Go.Proofs.YtihihgfcklkkhaaGreatDoor.Cm (Keep alloc_new alloc_at cell_at frozen_at set_at set_other lt_of_at)
open Go.Proofs.YtihihgfcklkkhaaGreatDoor.Bk (Tx Bk fenceL spanK itemL dropBlank listL kindOf closes unquote unitem inner parse joinLF define items)
open Go.Proofs.YtihihgfcklkkhaaGreatDoor.Ln (run trim rtrim_any)
open Go.Proofs.YtihihgfcklkkhaaGreatDoor.Kd (E0 of_any NumD head_any open_any LevAns hdN hdT opN opT unquote_any StrD uqT dfB)
set_option linter.unusedVariables false
theorem parse_eq (t:Tx):parseB (S t)=parse t:=by
 unfold parseB parse Sp.Rdr
 rw [S_list]
theorem set6_keep {w:World} {b B:Nat} (h:b < B) (u0 u1 u2 u3 u4 u5:Value):Keep (fun j=>j < B) w ((((((w.setCell ⟨b,0,none⟩ u0).setCell ⟨b,1,none⟩ u1).setCell ⟨b,2,none⟩ u2).setCell ⟨b,3,none⟩ u3).setCell ⟨b,4,none⟩ u4).setCell ⟨b,5,none⟩ u5) :=
 (((((((Keep.refl _ w).setCell (p:=⟨b,0,none⟩) (Or.inl h) u0).setCell (p:=⟨b,1,none⟩) (Or.inl h) u1).setCell (p:=⟨b,2,none⟩) (Or.inl h) u2).setCell (p:=⟨b,3,none⟩) (Or.inl h) u3).setCell (p:=⟨b,4,none⟩) (Or.inl h) u4).setCell (p:=⟨b,5,none⟩) (Or.inl h) u5)
def bz (o:Option Bk):Bk:=o.getD (.mk 0 0 [] [] [] [])
def BlockAns (w:World) (o:Option Bk) (n:Nat) (e:Ending) (w':World):Prop:=∃ vl vs vk,e = .returned (.tuple #[.agg #[.int .i64 (bz o).kind,.int .i64 (bz o).level,.string (S (bz o).info),vl,vs,vk],.int .i64 (n:Nat)])∧Below w.heap.size w w'∧∀ w'',Keep (fun j=>j < w.heap.size) w' w''→KB w'' (bz o,vl,vs,vk)
theorem ans_some {w w9:World} {o:Option Bk} {n p:Nat} {k lv:Int} {inf:Tx} {ls:List Tx} {ss:List Sp} {ks:List Bk} {vl vs vk:Value} (HV:o=some (.mk k lv inf ls ss ks)) (HP:n=p) (HB:Below w.heap.size w w9)
   (hl:Fr Rd w.heap.size w9 vl ls) (hn:ls.length≤9223372036854775807) (hs:Fr Tr w.heap.size w9 vs ss) (hk:Fr TrB w.heap.size w9 vk ks) :
   BlockAns w o n (.returned (.tuple #[.agg #[.int .i64 k,.int .i64 lv,.string (S inf),vl,vs,vk],.int .i64 (p:Nat)])) w9:=by
 subst HV;subst HP
 exact ⟨vl,vs,vk,rfl,HB,fun w'' k2=>⟨hl w'' k2,hn,hs w'' k2,hk w'' k2⟩⟩
theorem ans_none {w w9:World} {o:Option Bk} {n p:Nat} (HV:o=none) (HP:n=p) (HB:Below w.heap.size w w9) :
   BlockAns w o n (.returned (.tuple #[.agg #[.int .i64 0,.int .i64 0,.string ⟨#[]⟩,.slice none 0 0,.slice none 0 0,.slice none 0 0],.int .i64 (p:Nat)])) w9:=by
 subst HV;subst HP
 exact ⟨_,_,_,rfl,HB,fun w'' _=>kb_nil w'' 0 0 []⟩
theorem frRd_nil (B:Nat) (w:World):Fr Rd B w (.slice none 0 0) []:=fun w' _=>Kd.nilRd w'
theorem frTr_nil (B:Nat) (w:World):Fr Tr B w (.slice none 0 0) []:=fun w' _=>Kd.nilTr w'
theorem frB_nil (B:Nat) (w:World):Fr TrB B w (.slice none 0 0) []:=fun w' _=>Kd.nilTrB w'
theorem Fr.put {β:Type} {Q:World→Value→β→Prop} {B0 B:Nat} {w w9:World} {v:Value} {x:β} (h:Fr Q B w v x) (hk:Keep (fun j=>j < B) w w9) (hB:B0≤B):Fr Q B0 w9 v x:=(h.go hk).mono hB
def AllAns (w:World) (o:Option (List Bk)) (e:Ending) (w':World):Prop:=∃ u,e = .returned (.tuple #[u,.bool o.isSome])∧Fr TrB w.heap.size w' u (o.getD [])∧Below w.heap.size w w'
def Deeper (d:Nat):Prop:=∀ (v:Value) (xs:List Tx) (w:World),Rd w v xs→tot xs≤90000→Calls Tryz.prog 48 #[v,.int .i64 (d:Nat)] w (AllAns w (allE d xs))
theorem span_kind (k:Nat):∀ l:List Tx,∀ s∈(spanK E0 k l).1,kindOf E0 s=k
 | [],s,h=>by simp [spanK] at h
 | x :: l,s,h=>by
   unfold spanK at h
   split at h
   · rename_i hx
     rcases List.mem_cons.1 h with rfl | h
     · exact hx
     · exact span_kind k l s h
   · cases h
theorem kd7 {s:Tx} (h:kindOf E0 s=7):∃ p,define E0 s=some p:=by
 unfold kindOf at h
 repeat' split at h
 all_goals first | omega | skip
 rename_i h1
 exact Option.isSome_iff_exists.1 h1
set_option maxHeartbeats 6400000 in
set_option maxRecDepth 100000 in
theorem block3_any (v:Value) (xs:List Tx) (w:World) (hr:Rd w v xs) (ht:tot xs≤90000) (i:Nat) (hi:i < xs.length) (hk:kindOf E0 xs[i]=3) (deep:Nat) (hd:deep≤200) :
   Calls Tryz.prog 41 #[v,.int .i64 (i:Nat),.int .i64 (deep:Nat)] w (BlockAns w (valB allE deep xs[i] (xs.drop (i+1))) (plc xs (restB xs[i] (xs.drop (i+1))))):=by
 obtain ⟨ao,ca,rfl⟩:=hr.len
 have hlen:xs.length≤90000:=Nat.le_trans (tot_len xs) ht
 have hsm:=mem_small ht hi
 have hdr:xs.drop i=xs[i] :: xs.drop (i+1):=List.drop_eq_getElem_cons hi
 have HRd:=Lib.hid (fun w' (h:Below w.heap.size w w')=>Bt.Rd.at (hr.below h))
 have HOi:∀ w',Calls Tryz.prog 40 #[.string (S xs[i])] w' (NumD w' 3):=fun w'=>by
   have h:=kd_at ht i hi w'
   rw [hk] at h
   exact h
 have HV:Hid (valB allE deep xs[i] (xs.drop (i+1))=some (.mk 3 0 [] [] [] [])):=Lib.hid (by unfold valB;simp [hk])
 have HP:Hid (plc xs (restB xs[i] (xs.drop (i+1)))=i+1):=Lib.hid (by
   unfold restB
   simp only [hk]
   unfold plc;rw [List.length_drop];simp;omega)
 generalize valB allE deep xs[i] (xs.drop (i+1))=VB at *
 generalize plc xs (restB xs[i] (xs.drop (i+1)))=PB at *
 have HA1:=Lib.hid (alloc_new w (.cells #[.int .i64 0,.int .i64 0,.string ⟨#[]⟩,.slice none 0 0,.slice none 0 0,.slice none 0 0] 42))
 have HB1:=Lib.hid ((Below.refl w.heap.size w).alloc (Nat.le_refl _) (.cells #[.int .i64 0,.int .i64 0,.string ⟨#[]⟩,.slice none 0 0,.slice none 0 0,.slice none 0 0] 42))
 have HO1:=Lib.hid (HOi (w.alloc (.cells #[.int .i64 0,.int .i64 0,.string ⟨#[]⟩,.slice none 0 0,.slice none 0 0,.slice none 0 0] 42)))
 unfold NumD at HO1
 obtain ⟨b0,o0,rfl,c0⟩:=HRd.out (w.alloc (.cells #[.int .i64 0,.int .i64 0,.string ⟨#[]⟩,.slice none 0 0,.slice none 0 0,.slice none 0 0] 42)) HB1.out i hi
 have hii:(i:Int) < (xs.length:Int):=by omega
 have hw1:IntKind.i64.wrap ((i:Int)+1)=((i+1:Nat):Int):=by rw [IntKind.wrap_i64];omega
 obtain ⟨i1,hi1⟩:∃ q,q=i+1:=⟨_,rfl⟩
 rw [← hi1] at hw1 HP
 generalize S xs[i]=si at *
 clear hi1 hk hdr hr ht HOi hsm
 go_enter Tryz.func41,Tryz.ntmps41
 go_wp2_with fail
 generalize w.alloc (.cells #[.int .i64 0,.int .i64 0,.string ⟨#[]⟩,.slice none 0 0,.slice none 0 0,.slice none 0 0] 42)=w1 at *
 refine HO1.out.mono ?_
 rintro e w2 ⟨rfl,q,hq⟩
 have HA2:Hid (w2.heap[w.heap.size]? = some (Obj.cells #[.int .i64 0,.int .i64 0,.string ⟨#[]⟩,.slice none 0 0,.slice none 0 0,.slice none 0 0] 42 (0,0))):=Lib.hid (by rw [hq];exact HA1.out)
 have HB2:=Lib.hid (show Below w.heap.size w w2 from by rw [hq];exact below_drewN HB1.out q)
 clear hq HO1 HA1 HB1 c0
 have k0:w2.cell? ⟨w.heap.size,0,none⟩=some (.int .i64 0):=cell_at HA2.out 0
 have f0:w2.frozen? ⟨w.heap.size,0,none⟩=false:=frozen_at HA2.out 0
 have k1:w2.cell? ⟨w.heap.size,1,none⟩=some (.int .i64 0):=cell_at HA2.out 1
 have f1:w2.frozen? ⟨w.heap.size,1,none⟩=false:=frozen_at HA2.out 1
 have k2:w2.cell? ⟨w.heap.size,2,none⟩=some (.string ⟨#[]⟩):=cell_at HA2.out 2
 have f2:w2.frozen? ⟨w.heap.size,2,none⟩=false:=frozen_at HA2.out 2
 have k3:w2.cell? ⟨w.heap.size,3,none⟩=some (.slice none 0 0):=cell_at HA2.out 3
 have f3:w2.frozen? ⟨w.heap.size,3,none⟩=false:=frozen_at HA2.out 3
 have k4:w2.cell? ⟨w.heap.size,4,none⟩=some (.slice none 0 0):=cell_at HA2.out 4
 have f4:w2.frozen? ⟨w.heap.size,4,none⟩=false:=frozen_at HA2.out 4
 have k5:w2.cell? ⟨w.heap.size,5,none⟩=some (.slice none 0 0):=cell_at HA2.out 5
 have f5:w2.frozen? ⟨w.heap.size,5,none⟩=false:=frozen_at HA2.out 5
 go_wp2_with fail
 have HS:=Lib.hid (Kd.set6 (u0:=.int .i64 3) (u1:=.int .i64 0) (u2:=.string ⟨#[]⟩) (u3:=.slice none 0 0) (u4:=.slice none 0 0) (u5:=.slice none 0 0) HA2.out)
 have HB9:=Lib.hid (Kd.set6_below HB2.out (Nat.le_refl _) (.int .i64 3) (.int .i64 0) (.string ⟨#[]⟩) (.slice none 0 0) (.slice none 0 0) (.slice none 0 0))
 have HK9:=Lib.hid (fun B hB=>set6_keep (w:=w2) (b:=w.heap.size) (B:=B) hB (.int .i64 3) (.int .i64 0) (.string ⟨#[]⟩) (.slice none 0 0) (.slice none 0 0) (.slice none 0 0))
 generalize ((((((w2.setCell ⟨w.heap.size,0,none⟩ (.int .i64 3)).setCell ⟨w.heap.size,1,none⟩ (.int .i64 0)).setCell ⟨w.heap.size,2,none⟩ (.string ⟨#[]⟩)).setCell ⟨w.heap.size,3,none⟩ (.slice none 0 0)).setCell ⟨w.heap.size,4,none⟩ (.slice none 0 0)).setCell ⟨w.heap.size,5,none⟩ (.slice none 0 0))=w9 at *
 have r0:w9.cell? ⟨w.heap.size,0,none⟩=some (.int .i64 3):=cell_at HS.out 0
 have r1:w9.cell? ⟨w.heap.size,1,none⟩=some (.int .i64 0):=cell_at HS.out 1
 have r2:w9.cell? ⟨w.heap.size,2,none⟩=some (.string ⟨#[]⟩):=cell_at HS.out 2
 have r3:w9.cell? ⟨w.heap.size,3,none⟩=some (.slice none 0 0):=cell_at HS.out 3
 have r4:w9.cell? ⟨w.heap.size,4,none⟩=some (.slice none 0 0):=cell_at HS.out 4
 have r5:w9.cell? ⟨w.heap.size,5,none⟩=some (.slice none 0 0):=cell_at HS.out 5
 exact bodyPost_ret (v:=.tuple #[.agg #[.int .i64 3,.int .i64 0,.string ⟨#[]⟩,.slice none 0 0,.slice none 0 0,.slice none 0 0],.int .i64 (i1:Nat)]) (by simp [results,Tryz.results41,go_sem,r0,r1,r2,r3,r4,r5]) rfl (ans_some (inf:=[]) HV.out HP.out HB9.out (frRd_nil _ _) (by simp) (frTr_nil _ _) (frB_nil _ _))
set_option maxHeartbeats 6400000 in
set_option maxRecDepth 100000 in
theorem block7_any (v:Value) (xs:List Tx) (w:World) (hr:Rd w v xs) (ht:tot xs≤90000) (i:Nat) (hi:i < xs.length) (hk:kindOf E0 xs[i]=7) (deep:Nat) (hd:deep≤200) :
   Calls Tryz.prog 41 #[v,.int .i64 (i:Nat),.int .i64 (deep:Nat)] w (BlockAns w (valB allE deep xs[i] (xs.drop (i+1))) (plc xs (restB xs[i] (xs.drop (i+1))))):=by
 obtain ⟨ao,ca,rfl⟩:=hr.len
 have hlen:xs.length≤90000:=Nat.le_trans (tot_len xs) ht
 have hsm:=mem_small ht hi
 have hdr:xs.drop i=xs[i] :: xs.drop (i+1):=List.drop_eq_getElem_cons hi
 have HRd:=Lib.hid (fun w' (h:Below w.heap.size w w')=>Bt.Rd.at (hr.below h))
 have HOi:∀ w',Calls Tryz.prog 40 #[.string (S xs[i])] w' (NumD w' 7):=fun w'=>by
   have h:=kd_at ht i hi w'
   rw [hk] at h
   exact h
 have HV:Hid (valB allE deep xs[i] (xs.drop (i+1))=some (dfB xs[i])):=Lib.hid (by
   unfold valB
   simp only [hk]
   have h7:=kd7 hk
   obtain ⟨p,hp⟩:=h7
   unfold dfB
   rw [hp,if_pos hk]
   rfl)
 have HP:Hid (plc xs (restB xs[i] (xs.drop (i+1)))=i+1):=Lib.hid (by
   unfold restB
   simp only [hk]
   unfold plc;rw [List.length_drop];simp;omega)
 have HDf:=Lib.hid (fun w'=>by
   have h:=defineF_any (S xs[i]) (by rw [S_size];omega) w'
   rw [S_list] at h
   exact h)
 generalize valB allE deep xs[i] (xs.drop (i+1))=VB at *
 generalize plc xs (restB xs[i] (xs.drop (i+1)))=PB at *
 have HA1:=Lib.hid (alloc_new w (.cells #[.int .i64 0,.int .i64 0,.string ⟨#[]⟩,.slice none 0 0,.slice none 0 0,.slice none 0 0] 42))
 have HB1:=Lib.hid ((Below.refl w.heap.size w).alloc (Nat.le_refl _) (.cells #[.int .i64 0,.int .i64 0,.string ⟨#[]⟩,.slice none 0 0,.slice none 0 0,.slice none 0 0] 42))
 have HO1:=Lib.hid (HOi (w.alloc (.cells #[.int .i64 0,.int .i64 0,.string ⟨#[]⟩,.slice none 0 0,.slice none 0 0,.slice none 0 0] 42)))
 unfold NumD at HO1
 obtain ⟨b0,o0,rfl,c0⟩:=HRd.out (w.alloc (.cells #[.int .i64 0,.int .i64 0,.string ⟨#[]⟩,.slice none 0 0,.slice none 0 0,.slice none 0 0] 42)) HB1.out i hi
 have hii:(i:Int) < (xs.length:Int):=by omega
 have hw1:IntKind.i64.wrap ((i:Int)+1)=((i+1:Nat):Int):=by rw [IntKind.wrap_i64];omega
 obtain ⟨i1,hi1⟩:∃ q,q=i+1:=⟨_,rfl⟩
 rw [← hi1] at hw1 HP
 generalize dfB xs[i]=D at *
 clear hi1 hk hdr hr ht HOi hsm
 go_enter Tryz.func41,Tryz.ntmps41
 go_wp2_with fail
 generalize w.alloc (.cells #[.int .i64 0,.int .i64 0,.string ⟨#[]⟩,.slice none 0 0,.slice none 0 0,.slice none 0 0] 42)=w1 at *
 refine HO1.out.mono ?_
 rintro e w2 ⟨rfl,q,hq⟩
 have HA2:Hid (w2.heap[w.heap.size]? = some (Obj.cells #[.int .i64 0,.int .i64 0,.string ⟨#[]⟩,.slice none 0 0,.slice none 0 0,.slice none 0 0] 42 (0,0))):=Lib.hid (by rw [hq];exact HA1.out)
 have HB2:=Lib.hid (show Below w.heap.size w w2 from by rw [hq];exact below_drewN HB1.out q)
 clear hq HO1 HA1 HB1 c0
 obtain ⟨b0',o0',hbo,c0⟩:=HRd.out w2 HB2.out i hi
 simp only [Option.some.injEq,Addr.mk.injEq,and_true] at hbo
 obtain ⟨rfl,rfl⟩:=hbo
 go_wp2_with fail
 refine (HDf.out _).mono ?_
 rintro e w3 ⟨vl,vs,vk,rfl,b3,hkb⟩
 have HA3:Hid (w3.heap[w.heap.size]? = some (Obj.cells #[.int .i64 0,.int .i64 0,.string ⟨#[]⟩,.slice none 0 0,.slice none 0 0,.slice none 0 0] 42 (0,0))):=Lib.hid ((b3.block _ (lt_of_at HA2.out)).trans HA2.out)
 have HB3:=Lib.hid (HB2.out.trans (b3.mono HB2.out.size))
 have HKB:=Lib.hid hkb
 have hkb0:=hkb w3 (Keep.refl _ _)
 obtain ⟨al,cl,hvl⟩:=hkb0.rd.len
 obtain ⟨as',cs,hvs⟩:=hkb0.sp.len
 obtain ⟨ak,ck,hvk⟩:=hkb0.tr.len
 simp only at hvl hvs hvk
 subst hvl;subst hvs;subst hvk
 have HA2':=HA2
 clear hkb hkb0 b3 HDf HA2
 have k0:w3.cell? ⟨w.heap.size,0,none⟩=some (.int .i64 0):=cell_at HA3.out 0
 have f0:w3.frozen? ⟨w.heap.size,0,none⟩=false:=frozen_at HA3.out 0
 have k1:w3.cell? ⟨w.heap.size,1,none⟩=some (.int .i64 0):=cell_at HA3.out 1
 have f1:w3.frozen? ⟨w.heap.size,1,none⟩=false:=frozen_at HA3.out 1
 have k2:w3.cell? ⟨w.heap.size,2,none⟩=some (.string ⟨#[]⟩):=cell_at HA3.out 2
 have f2:w3.frozen? ⟨w.heap.size,2,none⟩=false:=frozen_at HA3.out 2
 have k3:w3.cell? ⟨w.heap.size,3,none⟩=some (.slice none 0 0):=cell_at HA3.out 3
 have f3:w3.frozen? ⟨w.heap.size,3,none⟩=false:=frozen_at HA3.out 3
 have k4:w3.cell? ⟨w.heap.size,4,none⟩=some (.slice none 0 0):=cell_at HA3.out 4
 have f4:w3.frozen? ⟨w.heap.size,4,none⟩=false:=frozen_at HA3.out 4
 have k5:w3.cell? ⟨w.heap.size,5,none⟩=some (.slice none 0 0):=cell_at HA3.out 5
 have f5:w3.frozen? ⟨w.heap.size,5,none⟩=false:=frozen_at HA3.out 5
 go_wp2_with fail
 have HS:=Lib.hid (Kd.set6 (u0:=.int .i64 D.kind) (u1:=.int .i64 D.level) (u2:=.string (S D.info)) (u3:=.slice al D.lines.length cl) (u4:=.slice as' D.spans.length cs) (u5:=.slice ak D.kids.length ck) HA3.out)
 have HB9:=Lib.hid (Kd.set6_below HB3.out (Nat.le_refl _) (.int .i64 D.kind) (.int .i64 D.level) (.string (S D.info)) (.slice al D.lines.length cl) (.slice as' D.spans.length cs) (.slice ak D.kids.length ck))
 have HK9:=Lib.hid (fun B hB=>set6_keep (w:=w3) (b:=w.heap.size) (B:=B) hB (.int .i64 D.kind) (.int .i64 D.level) (.string (S D.info)) (.slice al D.lines.length cl) (.slice as' D.spans.length cs) (.slice ak D.kids.length ck))
 generalize ((((((w3.setCell ⟨w.heap.size,0,none⟩ (.int .i64 D.kind)).setCell ⟨w.heap.size,1,none⟩ (.int .i64 D.level)).setCell ⟨w.heap.size,2,none⟩ (.string (S D.info))).setCell ⟨w.heap.size,3,none⟩ (.slice al D.lines.length cl)).setCell ⟨w.heap.size,4,none⟩ (.slice as' D.spans.length cs)).setCell ⟨w.heap.size,5,none⟩ (.slice ak D.kids.length ck))=w9 at *
 have r0:w9.cell? ⟨w.heap.size,0,none⟩=some (.int .i64 D.kind):=cell_at HS.out 0
 have r1:w9.cell? ⟨w.heap.size,1,none⟩=some (.int .i64 D.level):=cell_at HS.out 1
 have r2:w9.cell? ⟨w.heap.size,2,none⟩=some (.string (S D.info)):=cell_at HS.out 2
 have r3:w9.cell? ⟨w.heap.size,3,none⟩=some (.slice al D.lines.length cl):=cell_at HS.out 3
 have r4:w9.cell? ⟨w.heap.size,4,none⟩=some (.slice as' D.spans.length cs):=cell_at HS.out 4
 have r5:w9.cell? ⟨w.heap.size,5,none⟩=some (.slice ak D.kids.length ck):=cell_at HS.out 5
 exact bodyPost_ret (v:=.tuple #[.agg #[.int .i64 D.kind,.int .i64 D.level,.string (S D.info),.slice al D.lines.length cl,.slice as' D.spans.length cs,.slice ak D.kids.length ck],.int .i64 (i1:Nat)]) (by simp [results,Tryz.results41,go_sem,r0,r1,r2,r3,r4,r5]) rfl (⟨_,_,_,by rw [HV.out,HP.out];rfl,HB9.out,fun w'' k2=>by rw [HV.out];exact HKB.out w'' ((HK9.out w2.heap.size (lt_of_at HA2'.out)).trans (k2.mono (fun j _ hj=>Nat.lt_of_lt_of_le hj HB2.out.size)))⟩)
set_option maxHeartbeats 6400000 in
set_option maxRecDepth 100000 in
theorem block2_any (v:Value) (xs:List Tx) (w:World) (hr:Rd w v xs) (ht:tot xs≤90000) (i:Nat) (hi:i < xs.length) (hk:kindOf E0 xs[i]=2) (deep:Nat) (hd:deep≤200) :
   Calls Tryz.prog 41 #[v,.int .i64 (i:Nat),.int .i64 (deep:Nat)] w (BlockAns w (valB allE deep xs[i] (xs.drop (i+1))) (plc xs (restB xs[i] (xs.drop (i+1))))):=by
 obtain ⟨ao,ca,rfl⟩:=hr.len
 have hlen:xs.length≤90000:=Nat.le_trans (tot_len xs) ht
 have hsm:=mem_small ht hi
 have hdr:xs.drop i=xs[i] :: xs.drop (i+1):=List.drop_eq_getElem_cons hi
 have HRd:=Lib.hid (fun w' (h:Below w.heap.size w w')=>Bt.Rd.at (hr.below h))
 have HOi:∀ w',Calls Tryz.prog 40 #[.string (S xs[i])] w' (NumD w' 2):=fun w'=>by
   have h:=kd_at ht i hi w'
   rw [hk] at h
   exact h
 have HV:Hid (valB allE deep xs[i] (xs.drop (i+1))=some (.mk 2 (run 35 xs[i]) [] [] (parse (trim (xs[i].drop (run 35 xs[i])))) [])):=Lib.hid (by unfold valB;simp [hk])
 have HP:Hid (plc xs (restB xs[i] (xs.drop (i+1)))=i+1):=Lib.hid (by
   unfold restB
   simp only [hk]
   unfold plc;rw [List.length_drop];simp;omega)
 have HHd:Hid (∀ w',Calls Tryz.prog 64 #[.string (S xs[i])] w' (LevAns w' (run 35 xs[i]) (trim (xs[i].drop (run 35 xs[i]))))):=Lib.hid (fun w'=>by
   have h:=head_any (S xs[i]) (by rw [S_size];omega) w'
   rw [S_list,hdN,hdT,if_pos hk,if_pos hk] at h
   exact h)
 have HPs:=Lib.hid (fun w'=>rparse_any (S (trim (xs[i].drop (run 35 xs[i])))) (by
   rw [S_size]
   have h1:=Ln.trim_len (xs[i].drop (run 35 xs[i]))
   have h2:(xs[i].drop (run 35 xs[i])).length≤xs[i].length:=by simp
   omega) w')
 simp only [parse_eq] at HPs
 unfold LevAns at HHd
 unfold OutAns at HPs
 generalize valB allE deep xs[i] (xs.drop (i+1))=VB at *
 generalize plc xs (restB xs[i] (xs.drop (i+1)))=PB at *
 have HA1:=Lib.hid (alloc_new w (.cells #[.int .i64 0,.int .i64 0,.string ⟨#[]⟩,.slice none 0 0,.slice none 0 0,.slice none 0 0] 42))
 have HB1:=Lib.hid ((Below.refl w.heap.size w).alloc (Nat.le_refl _) (.cells #[.int .i64 0,.int .i64 0,.string ⟨#[]⟩,.slice none 0 0,.slice none 0 0,.slice none 0 0] 42))
 have HO1:=Lib.hid (HOi (w.alloc (.cells #[.int .i64 0,.int .i64 0,.string ⟨#[]⟩,.slice none 0 0,.slice none 0 0,.slice none 0 0] 42)))
 unfold NumD at HO1
 obtain ⟨b0,o0,rfl,c0⟩:=HRd.out (w.alloc (.cells #[.int .i64 0,.int .i64 0,.string ⟨#[]⟩,.slice none 0 0,.slice none 0 0,.slice none 0 0] 42)) HB1.out i hi
 have hii:(i:Int) < (xs.length:Int):=by omega
 have hw1:IntKind.i64.wrap ((i:Int)+1)=((i+1:Nat):Int):=by rw [IntKind.wrap_i64];omega
 obtain ⟨i1,hi1⟩:∃ q,q=i+1:=⟨_,rfl⟩
 rw [← hi1] at hw1 HP
 generalize parse (trim (xs[i].drop (run 35 xs[i])))=L at *
 generalize S (trim (xs[i].drop (run 35 xs[i])))=st at *
 generalize run 35 xs[i]=n at *
 clear hi1 hk hdr hr ht HOi hsm
 go_enter Tryz.func41,Tryz.ntmps41
 go_wp2_with fail
 generalize w.alloc (.cells #[.int .i64 0,.int .i64 0,.string ⟨#[]⟩,.slice none 0 0,.slice none 0 0,.slice none 0 0] 42)=w1 at *
 refine HO1.out.mono ?_
 rintro e w2 ⟨rfl,q,hq⟩
 have HA2:Hid (w2.heap[w.heap.size]? = some (Obj.cells #[.int .i64 0,.int .i64 0,.string ⟨#[]⟩,.slice none 0 0,.slice none 0 0,.slice none 0 0] 42 (0,0))):=Lib.hid (by rw [hq];exact HA1.out)
 have HB2:=Lib.hid (show Below w.heap.size w w2 from by rw [hq];exact below_drewN HB1.out q)
 clear hq HO1 HA1 HB1 c0
 obtain ⟨b0',o0',hbo,c0⟩:=HRd.out w2 HB2.out i hi
 simp only [Option.some.injEq,Addr.mk.injEq,and_true] at hbo
 obtain ⟨rfl,rfl⟩:=hbo
 go_wp2_with fail
 refine (HHd.out _).mono ?_
 rintro e w3 ⟨rfl,q3,hq3⟩
 have b3:Below w2.heap.size w2 w3:=by rw [hq3];exact below_drewN (Below.refl _ _) q3
 have HA3:Hid (w3.heap[w.heap.size]? = some (Obj.cells #[.int .i64 0,.int .i64 0,.string ⟨#[]⟩,.slice none 0 0,.slice none 0 0,.slice none 0 0] 42 (0,0))):=Lib.hid ((b3.block _ (lt_of_at HA2.out)).trans HA2.out)
 have HB3:=Lib.hid (HB2.out.trans (b3.mono HB2.out.size))
 clear hq3 b3 HHd HA2
 go_wp2_with fail
 refine (HPs.out _).mono ?_
 rintro e w4 ⟨vs,rfl,ho⟩
 have b4:=ho.bel
 have HA4:Hid (w4.heap[w.heap.size]? = some (Obj.cells #[.int .i64 0,.int .i64 0,.string ⟨#[]⟩,.slice none 0 0,.slice none 0 0,.slice none 0 0] 42 (0,0))):=Lib.hid ((b4.block _ (lt_of_at HA3.out)).trans HA3.out)
 have HB4:=Lib.hid (HB3.out.trans (b4.mono HB3.out.size))
 obtain ⟨as',cs,rfl⟩:=ho.tr.len
 have HF:Hid (Fr Tr w3.heap.size w4 _ L):=Lib.hid ho.fresh
 have hlt3:=lt_of_at HA3.out
 clear b4 ho HPs HA3
 have k0:w4.cell? ⟨w.heap.size,0,none⟩=some (.int .i64 0):=cell_at HA4.out 0
 have f0:w4.frozen? ⟨w.heap.size,0,none⟩=false:=frozen_at HA4.out 0
 have k1:w4.cell? ⟨w.heap.size,1,none⟩=some (.int .i64 0):=cell_at HA4.out 1
 have f1:w4.frozen? ⟨w.heap.size,1,none⟩=false:=frozen_at HA4.out 1
 have k2:w4.cell? ⟨w.heap.size,2,none⟩=some (.string ⟨#[]⟩):=cell_at HA4.out 2
 have f2:w4.frozen? ⟨w.heap.size,2,none⟩=false:=frozen_at HA4.out 2
 have k3:w4.cell? ⟨w.heap.size,3,none⟩=some (.slice none 0 0):=cell_at HA4.out 3
 have f3:w4.frozen? ⟨w.heap.size,3,none⟩=false:=frozen_at HA4.out 3
 have k4:w4.cell? ⟨w.heap.size,4,none⟩=some (.slice none 0 0):=cell_at HA4.out 4
 have f4:w4.frozen? ⟨w.heap.size,4,none⟩=false:=frozen_at HA4.out 4
 have k5:w4.cell? ⟨w.heap.size,5,none⟩=some (.slice none 0 0):=cell_at HA4.out 5
 have f5:w4.frozen? ⟨w.heap.size,5,none⟩=false:=frozen_at HA4.out 5
 go_wp2_with fail
 have HS:=Lib.hid (Kd.set6 (u0:=.int .i64 2) (u1:=.int .i64 (n:Nat)) (u2:=.string ⟨#[]⟩) (u3:=.slice none 0 0) (u4:=.slice as' L.length cs) (u5:=.slice none 0 0) HA4.out)
 have HB9:=Lib.hid (Kd.set6_below HB4.out (Nat.le_refl _) (.int .i64 2) (.int .i64 (n:Nat)) (.string ⟨#[]⟩) (.slice none 0 0) (.slice as' L.length cs) (.slice none 0 0))
 have HK9:=Lib.hid (fun B hB=>set6_keep (w:=w4) (b:=w.heap.size) (B:=B) hB (.int .i64 2) (.int .i64 (n:Nat)) (.string ⟨#[]⟩) (.slice none 0 0) (.slice as' L.length cs) (.slice none 0 0))
 generalize ((((((w4.setCell ⟨w.heap.size,0,none⟩ (.int .i64 2)).setCell ⟨w.heap.size,1,none⟩ (.int .i64 (n:Nat))).setCell ⟨w.heap.size,2,none⟩ (.string ⟨#[]⟩)).setCell ⟨w.heap.size,3,none⟩ (.slice none 0 0)).setCell ⟨w.heap.size,4,none⟩ (.slice as' L.length cs)).setCell ⟨w.heap.size,5,none⟩ (.slice none 0 0))=w9 at *
 have r0:w9.cell? ⟨w.heap.size,0,none⟩=some (.int .i64 2):=cell_at HS.out 0
 have r1:w9.cell? ⟨w.heap.size,1,none⟩=some (.int .i64 (n:Nat)):=cell_at HS.out 1
 have r2:w9.cell? ⟨w.heap.size,2,none⟩=some (.string ⟨#[]⟩):=cell_at HS.out 2
 have r3:w9.cell? ⟨w.heap.size,3,none⟩=some (.slice none 0 0):=cell_at HS.out 3
 have r4:w9.cell? ⟨w.heap.size,4,none⟩=some (.slice as' L.length cs):=cell_at HS.out 4
 have r5:w9.cell? ⟨w.heap.size,5,none⟩=some (.slice none 0 0):=cell_at HS.out 5
 exact bodyPost_ret (v:=.tuple #[.agg #[.int .i64 2,.int .i64 (n:Nat),.string ⟨#[]⟩,.slice none 0 0,.slice as' L.length cs,.slice none 0 0],.int .i64 (i1:Nat)]) (by simp [results,Tryz.results41,go_sem,r0,r1,r2,r3,r4,r5]) rfl (ans_some (inf:=[]) HV.out HP.out HB9.out (frRd_nil _ _) (by simp) (HF.out.put (HK9.out _ hlt3) HB3.out.size) (frB_nil _ _))
set_option maxHeartbeats 6400000 in
set_option maxRecDepth 100000 in
theorem block4_any (v:Value) (xs:List Tx) (w:World) (hr:Rd w v xs) (ht:tot xs≤90000) (i:Nat) (hi:i < xs.length) (hk:kindOf E0 xs[i]=4) (deep:Nat) (hd:deep≤200) :
   Calls Tryz.prog 41 #[v,.int .i64 (i:Nat),.int .i64 (deep:Nat)] w (BlockAns w (valB allE deep xs[i] (xs.drop (i+1))) (plc xs (restB xs[i] (xs.drop (i+1))))):=by
 obtain ⟨ao,ca,rfl⟩:=hr.len
 have hlen:xs.length≤90000:=Nat.le_trans (tot_len xs) ht
 have hsm:=mem_small ht hi
 have hdr:xs.drop i=xs[i] :: xs.drop (i+1):=List.drop_eq_getElem_cons hi
 have HRd:=Lib.hid (fun w' (h:Below w.heap.size w w')=>Bt.Rd.at (hr.below h))
 have HOi:∀ w',Calls Tryz.prog 40 #[.string (S xs[i])] w' (NumD w' 4):=fun w'=>by
   have h:=kd_at ht i hi w'
   rw [hk] at h
   exact h
 have HV:Hid (valB allE deep xs[i] (xs.drop (i+1))=some (.mk 4 0 (trim (xs[i].drop (run 96 xs[i]))) (fenceL (run 96 xs[i]) (xs.drop (i+1))).1 [] [])):=Lib.hid (by unfold valB;simp [hk])
 have HP:Hid (plc xs (restB xs[i] (xs.drop (i+1)))=plc xs (fenceL (run 96 xs[i]) (xs.drop (i+1))).2):=Lib.hid (by
   unfold restB
   simp only [hk]
   rfl)
 have HHd:Hid (∀ w',Calls Tryz.prog 66 #[.string (S xs[i])] w' (LevAns w' (run 96 xs[i]) (trim (xs[i].drop (run 96 xs[i]))))):=Lib.hid (fun w'=>by
   have h:=open_any (S xs[i]) (by rw [S_size];omega) w'
   rw [S_list,opN,opT,if_pos hk,if_pos hk] at h
   exact h)
 have HFe:=Lib.hid (fun w' (h:Below w.heap.size w w')=>fenceL_any _ xs w' (hr.below h) ht i hi hk)
 have hfl:(fenceL (run 96 xs[i]) (xs.drop (i+1))).1.length≤9223372036854775807:=by
   have h1:=fence_len (run 96 xs[i]) (xs.drop (i+1))
   rw [List.length_drop] at h1
   omega
 have Hfl:=Lib.hid hfl
 unfold LevAns at HHd
 unfold StsAns at HFe
 clear hfl
 generalize valB allE deep xs[i] (xs.drop (i+1))=VB at *
 generalize plc xs (restB xs[i] (xs.drop (i+1)))=PB at *
 have HA1:=Lib.hid (alloc_new w (.cells #[.int .i64 0,.int .i64 0,.string ⟨#[]⟩,.slice none 0 0,.slice none 0 0,.slice none 0 0] 42))
 have HB1:=Lib.hid ((Below.refl w.heap.size w).alloc (Nat.le_refl _) (.cells #[.int .i64 0,.int .i64 0,.string ⟨#[]⟩,.slice none 0 0,.slice none 0 0,.slice none 0 0] 42))
 have HO1:=Lib.hid (HOi (w.alloc (.cells #[.int .i64 0,.int .i64 0,.string ⟨#[]⟩,.slice none 0 0,.slice none 0 0,.slice none 0 0] 42)))
 unfold NumD at HO1
 obtain ⟨b0,o0,rfl,c0⟩:=HRd.out (w.alloc (.cells #[.int .i64 0,.int .i64 0,.string ⟨#[]⟩,.slice none 0 0,.slice none 0 0,.slice none 0 0] 42)) HB1.out i hi
 have hii:(i:Int) < (xs.length:Int):=by omega
 have hw1:IntKind.i64.wrap ((i:Int)+1)=((i+1:Nat):Int):=by rw [IntKind.wrap_i64];omega
 generalize (fenceL (run 96 xs[i]) (xs.drop (i+1))).1=L at *
 generalize plc xs (fenceL (run 96 xs[i]) (xs.drop (i+1))).2=pe at *
 generalize trim (xs[i].drop (run 96 xs[i]))=inf at *
 generalize run 96 xs[i]=n at *
 clear hk hdr hr ht HOi hsm
 go_enter Tryz.func41,Tryz.ntmps41
 go_wp2_with fail
 generalize w.alloc (.cells #[.int .i64 0,.int .i64 0,.string ⟨#[]⟩,.slice none 0 0,.slice none 0 0,.slice none 0 0] 42)=w1 at *
 refine HO1.out.mono ?_
 rintro e w2 ⟨rfl,q,hq⟩
 have HA2:Hid (w2.heap[w.heap.size]? = some (Obj.cells #[.int .i64 0,.int .i64 0,.string ⟨#[]⟩,.slice none 0 0,.slice none 0 0,.slice none 0 0] 42 (0,0))):=Lib.hid (by rw [hq];exact HA1.out)
 have HB2:=Lib.hid (show Below w.heap.size w w2 from by rw [hq];exact below_drewN HB1.out q)
 clear hq HO1 HA1 HB1 c0
 obtain ⟨b0',o0',hbo,c0⟩:=HRd.out w2 HB2.out i hi
 simp only [Option.some.injEq,Addr.mk.injEq,and_true] at hbo
 obtain ⟨rfl,rfl⟩:=hbo
 go_wp2_with fail
 refine (HHd.out _).mono ?_
 rintro e w3 ⟨rfl,q3,hq3⟩
 have b3:Below w2.heap.size w2 w3:=by rw [hq3];exact below_drewN (Below.refl _ _) q3
 have HA3:Hid (w3.heap[w.heap.size]? = some (Obj.cells #[.int .i64 0,.int .i64 0,.string ⟨#[]⟩,.slice none 0 0,.slice none 0 0,.slice none 0 0] 42 (0,0))):=Lib.hid ((b3.block _ (lt_of_at HA2.out)).trans HA2.out)
 have HB3:=Lib.hid (HB2.out.trans (b3.mono HB2.out.size))
 clear hq3 b3 HHd HA2
 go_wp2_with fail
 refine (HFe.out _ HB3.out).mono ?_
 rintro e w4 ⟨vl,rfl,ho,b4⟩
 have HA4:Hid (w4.heap[w.heap.size]? = some (Obj.cells #[.int .i64 0,.int .i64 0,.string ⟨#[]⟩,.slice none 0 0,.slice none 0 0,.slice none 0 0] 42 (0,0))):=Lib.hid ((b4.block _ (lt_of_at HA3.out)).trans HA3.out)
 have HB4:=Lib.hid (HB3.out.trans (b4.mono HB3.out.size))
 obtain ⟨al,cl,rfl⟩:=ho.rd.len
 have HF:Hid (Fr Rd w3.heap.size w4 _ L):=Lib.hid ho.fresh
 have hlt3:=lt_of_at HA3.out
 clear b4 ho HFe HA3
 have k0:w4.cell? ⟨w.heap.size,0,none⟩=some (.int .i64 0):=cell_at HA4.out 0
 have f0:w4.frozen? ⟨w.heap.size,0,none⟩=false:=frozen_at HA4.out 0
 have k1:w4.cell? ⟨w.heap.size,1,none⟩=some (.int .i64 0):=cell_at HA4.out 1
 have f1:w4.frozen? ⟨w.heap.size,1,none⟩=false:=frozen_at HA4.out 1
 have k2:w4.cell? ⟨w.heap.size,2,none⟩=some (.string ⟨#[]⟩):=cell_at HA4.out 2
 have f2:w4.frozen? ⟨w.heap.size,2,none⟩=false:=frozen_at HA4.out 2
 have k3:w4.cell? ⟨w.heap.size,3,none⟩=some (.slice none 0 0):=cell_at HA4.out 3
 have f3:w4.frozen? ⟨w.heap.size,3,none⟩=false:=frozen_at HA4.out 3
 have k4:w4.cell? ⟨w.heap.size,4,none⟩=some (.slice none 0 0):=cell_at HA4.out 4
 have f4:w4.frozen? ⟨w.heap.size,4,none⟩=false:=frozen_at HA4.out 4
 have k5:w4.cell? ⟨w.heap.size,5,none⟩=some (.slice none 0 0):=cell_at HA4.out 5
 have f5:w4.frozen? ⟨w.heap.size,5,none⟩=false:=frozen_at HA4.out 5
 go_wp2_with fail
 have HS:=Lib.hid (Kd.set6 (u0:=.int .i64 4) (u1:=.int .i64 0) (u2:=.string (S inf)) (u3:=.slice al L.length cl) (u4:=.slice none 0 0) (u5:=.slice none 0 0) HA4.out)
 have HB9:=Lib.hid (Kd.set6_below HB4.out (Nat.le_refl _) (.int .i64 4) (.int .i64 0) (.string (S inf)) (.slice al L.length cl) (.slice none 0 0) (.slice none 0 0))
 have HK9:=Lib.hid (fun B hB=>set6_keep (w:=w4) (b:=w.heap.size) (B:=B) hB (.int .i64 4) (.int .i64 0) (.string (S inf)) (.slice al L.length cl) (.slice none 0 0) (.slice none 0 0))
 generalize ((((((w4.setCell ⟨w.heap.size,0,none⟩ (.int .i64 4)).setCell ⟨w.heap.size,1,none⟩ (.int .i64 0)).setCell ⟨w.heap.size,2,none⟩ (.string (S inf))).setCell ⟨w.heap.size,3,none⟩ (.slice al L.length cl)).setCell ⟨w.heap.size,4,none⟩ (.slice none 0 0)).setCell ⟨w.heap.size,5,none⟩ (.slice none 0 0))=w9 at *
 have r0:w9.cell? ⟨w.heap.size,0,none⟩=some (.int .i64 4):=cell_at HS.out 0
 have r1:w9.cell? ⟨w.heap.size,1,none⟩=some (.int .i64 0):=cell_at HS.out 1
 have r2:w9.cell? ⟨w.heap.size,2,none⟩=some (.string (S inf)):=cell_at HS.out 2
 have r3:w9.cell? ⟨w.heap.size,3,none⟩=some (.slice al L.length cl):=cell_at HS.out 3
 have r4:w9.cell? ⟨w.heap.size,4,none⟩=some (.slice none 0 0):=cell_at HS.out 4
 have r5:w9.cell? ⟨w.heap.size,5,none⟩=some (.slice none 0 0):=cell_at HS.out 5
 exact bodyPost_ret (v:=.tuple #[.agg #[.int .i64 4,.int .i64 0,.string (S inf),.slice al L.length cl,.slice none 0 0,.slice none 0 0],.int .i64 (pe:Nat)]) (by simp [results,Tryz.results41,go_sem,r0,r1,r2,r3,r4,r5]) rfl (ans_some HV.out HP.out HB9.out (HF.out.put (HK9.out _ hlt3) HB3.out.size) Hfl.out (frTr_nil _ _) (frB_nil _ _))
end Go.Proofs.YtihihgfcklkkhaaGreatDoor.Pa
