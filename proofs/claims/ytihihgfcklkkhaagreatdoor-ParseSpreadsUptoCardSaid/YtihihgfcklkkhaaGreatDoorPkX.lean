import Derived.Test.YtihihgfcklkkhaaGreatDoorPkU
import Derived.Test.YtihihgfcklkkhaaGreatDoorPkV
import Derived.Test.YtihihgfcklkkhaaGreatDoorPkW
namespace Go.Proofs.YtihihgfcklkkhaaGreatDoor.Pa
open Go.RowKit
open Go.Proofs.YtihihgfcklkkhaaGreatDoor.Tk (S S_of S_list S_size S_toList S_app ret_int eq8 ne8 at_data len_data Rd)
open Go.Proofs.YtihihgfcklkkhaaGreatDoor.Cm (Keep)
open Go.Proofs.YtihihgfcklkkhaaGreatDoor.Bk (Tx Bk fenceL spanK itemL dropBlank listL kindOf closes unquote unitem inner)
open Go.Proofs.YtihihgfcklkkhaaGreatDoor.Ln (run)
open Go.Proofs.YtihihgfcklkkhaaGreatDoor.Kd (E0 of_any NumD open_any LevAns opN opT closes_any clB)
set_option linter.unusedVariables false
theorem ret_i {a b:Int} (h:a=b):Ending.returned (.int .i64 a)=Ending.returned (.int .i64 b):=by rw [h]
def plc (xs r:List Tx):Nat:=xs.length - r.length
theorem span_yes {k:Nat} {s:Tx} {l:List Tx} (h:kindOf E0 s=k):spanK E0 k (s :: l)=(s :: (spanK E0 k l).1,(spanK E0 k l).2):=by rw [spanK,if_pos h]
theorem span_no {k:Nat} {s:Tx} {l:List Tx} (h:kindOf E0 s≠k):spanK E0 k (s :: l)=([],s :: l):=by rw [spanK,if_neg h]
theorem mem_small {xs:List Tx} (ht:tot xs≤90000) {k:Nat} (hk:k < xs.length):xs[k].length≤90000:=by
 have:=tot_mem xs xs[k] (List.getElem_mem hk)
 omega
theorem kd_at {xs:List Tx} (ht:tot xs≤90000) (k:Nat) (hk:k < xs.length) (w:World):Calls Tryz.prog 40 #[.string (S xs[k])] w (NumD w (kindOf E0 xs[k]:Nat)):=by
 have:=of_any (S xs[k]) (by rw [S_size];have:=mem_small ht hk;omega) w
 rwa [S_list] at this
theorem runL_any (v:Value) (xs:List Tx) (w:World) (hr:Rd w v xs) (ht:tot xs≤90000) (i k:Nat) (hi:i≤xs.length) :
   Calls Tryz.prog 68 #[v,.int .i64 (i:Nat),.int .i64 (k:Nat)] w fun e w'=>e = .returned (.int .i64 (plc xs (spanK E0 k (xs.drop i)).2:Nat))∧Below w.heap.size w w':=by
 obtain ⟨ao,ca,rfl⟩:=hr.len
 have hlen:xs.length≤90000:=Nat.le_trans (tot_len xs) ht
 have HRd:=Lib.hid (fun w' (h:Below w.heap.size w w')=>Bt.Rd.at (hr.below h))
 have HO:=Lib.hid (fun j (hj:j < xs.length) w'=>kd_at ht j hj w')
 obtain ⟨X,hX⟩:∃ X,plc xs (spanK E0 k (xs.drop i)).2=X:=⟨_,rfl⟩
 have H0:Hid (X=plc xs (spanK E0 k (xs.drop i)).2):=Lib.hid hX.symm
 rw [hX]
 clear hX hr ht
 go_enter Tryz.func68,Tryz.ntmps68
 go_wp2_with fail
 go_loopw [1] (fun iv wr=>∃ j:Nat,j≤xs.length∧iv = .int .i64 j∧Hid (Below w.heap.size w wr)∧Hid (X=plc xs (spanK E0 k (xs.drop j)).2)) (fun iv _=>xs.length - (intOf iv).toNat)
 case atStart=>exact ⟨i,hi,rfl,Lib.hid (Below.refl _ _),H0⟩
 case round =>
   clear H0 hi
   obtain ⟨j,hj,rfl,HB,HN⟩:=hrel
   by_cases hlt:j < xs.length
   · have hi1:(j:Int) < (xs.length:Int):=by omega
     obtain ⟨b,o,rfl,c0⟩:=HRd.out wr HB.out j hlt
     have HOj:=Lib.hid (HO.out j hlt wr)
     have hdr:xs.drop j=xs[j] :: xs.drop (j+1):=List.drop_eq_getElem_cons hlt
     by_cases hk:kindOf E0 xs[j]=k
     · have HN2:Hid (X=plc xs (spanK E0 k (xs.drop (j+1))).2):=Lib.hid (by rw [HN.out,hdr,span_yes hk])
       have e1:((kindOf E0 xs[j]:Int) == (k:Int))=true:=by rw [hk];simp
       clear hdr hk HN
       unfold NumD at HOj
       generalize kindOf E0 xs[j]=K at *
       generalize S xs[j]=sx at *
       go_wp2_with fail
       refine HOj.out.mono ?_
       rintro e w2 ⟨rfl,q,hq⟩
       have HB2:=Lib.hid (show Below w.heap.size w w2 from by rw [hq];exact below_drewN HB.out q)
       clear hq HOj
       go_wp2_with fail
       go_roundw
       case rel=>exact ⟨j+1,by omega,by go_num,HB2,HN2⟩
       case measure=>simp [intOf] <;> omega
     · have HR:Hid (X=j):=Lib.hid (by
         rw [HN.out,hdr,span_no hk,plc]
         simp only [List.length_cons,List.length_drop]
         omega)
       have e1:((kindOf E0 xs[j]:Int) == (k:Int))=false:=by rw [beq_eq_false_iff_ne];omega
       clear hdr hk HN
       unfold NumD at HOj
       generalize kindOf E0 xs[j]=K at *
       generalize S xs[j]=sx at *
       go_wp2_with fail
       refine HOj.out.mono ?_
       rintro e w2 ⟨rfl,q,hq⟩
       have HB2:=Lib.hid (show Below w.heap.size w w2 from by rw [hq];exact below_drewN HB.out q)
       clear hq HOj
       go_wp2_with fail
       go_ret
       exact ⟨ret_i (by rw [HR.out]),HB2.out⟩
   · obtain rfl:j=xs.length:=by omega
     have HR:Hid (X=xs.length):=Lib.hid (by rw [HN.out,List.drop_length];rfl)
     clear HN hlt
     go_wp2_with fail
     go_ret
     exact ⟨ret_i (by rw [HR.out]),HB.out⟩
theorem cl_nat (s:Tx) (n:Nat):clB s (n:Int)=closes s n:=by
 unfold clB closes
 have:decide ((n:Int)≤(s.length:Int))=decide (n≤s.length):=by rw [decide_eq_decide];omega
 rw [this]
theorem fence_yes {n:Nat} {s:Tx} {l:List Tx} (h:closes s n=true):fenceL n (s :: l)=([],l):=by rw [fenceL,if_pos h]
theorem fence_no {n:Nat} {s:Tx} {l:List Tx} (h:closes s n=false):fenceL n (s :: l)=(s :: (fenceL n l).1,(fenceL n l).2):=by rw [fenceL,if_neg (by rw [h];decide)]
def StsAns (w:World) (l:List Tx) (n:Nat) (e:Ending) (w':World):Prop:=∃ u,e = .returned (.tuple #[u,.int .i64 (n:Nat)])∧OutS w.heap.size w' u l∧Below w.heap.size w w'
set_option maxHeartbeats 800000 in
theorem fenceL_any (v:Value) (xs:List Tx) (w:World) (hr:Rd w v xs) (ht:tot xs≤90000) (i:Nat) (hi:i < xs.length) (hk:kindOf E0 xs[i]=4) :
   Calls Tryz.prog 67 #[v,.int .i64 (i:Nat)] w (StsAns w (fenceL (run 96 xs[i]) (xs.drop (i+1))).1 (plc xs (fenceL (run 96 xs[i]) (xs.drop (i+1))).2)):=by
 obtain ⟨ao,ca,rfl⟩:=hr.len
 have hlen:xs.length≤90000:=Nat.le_trans (tot_len xs) ht
 have HRd:=Lib.hid (fun w' (h:Below w.heap.size w w')=>Bt.Rd.at (hr.below h))
 have HOp:=open_any (S xs[i]) (by rw [S_size];have:=mem_small ht hi;omega) w
 rw [S_list,opN,if_pos hk] at HOp
 have HOp:=Lib.hid HOp
 unfold LevAns at HOp
 have HC:=Lib.hid (fun j (hj:j < xs.length) (n:Nat) w'=>closes_any (S xs[j]) (n:Int) (by rw [S_size];have:=mem_small ht hj;omega) w')
 simp only [S_list,cl_nat] at HC
 generalize opT xs[i]=ot at *
 generalize run 96 xs[i]=n at *
 obtain ⟨X,hX⟩:∃ X,(fenceL n (xs.drop (i+1)))=X:=⟨_,rfl⟩
 have H0:Hid (X=(([]:List Tx)++(fenceL n (xs.drop (i+1))).1,(fenceL n (xs.drop (i+1))).2)):=Lib.hid (by rw [List.nil_append,← hX])
 rw [hX]
 obtain ⟨b0,o0,rfl,c0⟩:=HRd.out w (Below.refl _ _) i hi
 have hii:(i:Int) < (xs.length:Int):=by omega
 generalize S xs[i]=si at *
 generalize S ot=sot at *
 clear hX hr ht hk
 have hw1:IntKind.i64.wrap ((i:Int)+1)=((i+1:Nat):Int):=by rw [IntKind.wrap_i64];omega
 obtain ⟨i1,hi1⟩:∃ q,q=i+1:=⟨_,rfl⟩
 rw [← hi1] at hw1 H0
 have Hi1:=Lib.hid hi1
 have hi2:i1≤xs.length:=by omega
 clear hi1 hi
 go_enter Tryz.func67,Tryz.ntmps67
 go_wp2_with fail
 refine HOp.out.mono ?_
 rintro e w2 ⟨rfl,q,hq⟩
 have HB2:=Lib.hid (show Below w.heap.size w w2 from by rw [hq];exact below_drewN (Below.refl _ _) q)
 clear hq HOp
 go_wp2_with fail
 go_loopw [8,9] (fun vo iv wr=>∃ (j:Nat) (o:List Tx),j≤xs.length∧o.length≤j∧iv = .int .i64 j∧Hid (OutS w.heap.size wr vo o)∧Hid (Below w.heap.size w wr)∧Hid (X=(o++(fenceL n (xs.drop j)).1,(fenceL n (xs.drop j)).2))) (fun _ iv _=>xs.length - (intOf iv).toNat)
 case atStart=>exact ⟨i1,[],hi2,Nat.zero_le _,rfl,Lib.hid (OutG.nil HB2.out.size),HB2,H0⟩
 case round =>
   clear H0 HB2 hw1 c0
   obtain ⟨j,o,hj,ho,rfl,HO,HB,HN⟩:=hrel
   by_cases hlt:j < xs.length
   · have hji:(j:Int) < (xs.length:Int):=by omega
     obtain ⟨b,of,hbo,c0⟩:=HRd.out wr HB.out j hlt
     simp only [Option.some.injEq,Addr.mk.injEq,and_true] at hbo
     obtain ⟨rfl,rfl⟩:=hbo
     have HCj:=Lib.hid (HC.out j hlt n wr)
     have hdr:xs.drop j=xs[j] :: xs.drop (j+1):=List.drop_eq_getElem_cons hlt
     cases hc:closes xs[j] n with
     | true =>
       have HR:Hid (X=(o,xs.drop (j+1))):=Lib.hid (by rw [HN.out,hdr,fence_yes hc,List.append_nil])
       have HP:Hid (plc xs X.2=j+1):=Lib.hid (by rw [HR.out,plc,List.length_drop];omega)
       rw [hc] at HCj
       have hw2:IntKind.i64.wrap ((j:Int)+1)=((j+1:Nat):Int):=by rw [IntKind.wrap_i64];omega
       obtain ⟨j1,hj1⟩:∃ q,q=j+1:=⟨_,rfl⟩
       rw [← hj1] at hw2 HP
       clear hdr hc HN hj1
       generalize S xs[j]=sx at *
       go_wp2_with fail
       refine HCj.out.mono ?_
       rintro e w3 ⟨rfl,rfl⟩
       go_wp2_with fail
       go_ret2
       exact ⟨_,by rw [HP.out];rfl,by rw [HR.out];exact HO.out,HB.out⟩
     | false =>
       have HN2:Hid (X=((o++[xs[j]])++(fenceL n (xs.drop (j+1))).1,(fenceL n (xs.drop (j+1))).2)):=Lib.hid (by rw [HN.out,hdr,fence_no hc,List.append_assoc];rfl)
       rw [hc] at HCj
       obtain ⟨v5,w5,hr5,ho5,hk5⟩:=HO.out.push xs[j] (by omega)
       have HO5:=Lib.hid ho5
       have HB5:=Lib.hid (HB.out.trans (HO.out.below hk5))
       clear hdr hc HN ho5 hk5
       generalize S xs[j]=sx at *
       go_wp2_with fail
       refine HCj.out.mono ?_
       rintro e w3 ⟨rfl,rfl⟩
       go_wp2_with (at_builtin;refine Lib.wpList_append_run _ rfl _ _ _ _ rfl _ _ rfl rfl _ _ (hr5 _) ?_)
       go_roundw
       case rel=>exact ⟨j+1,_,by omega,by rw [List.length_append];simp;omega,by go_num,HO5,HB5,HN2⟩
       case measure=>simp [intOf] <;> omega
   · obtain rfl:j=xs.length:=by omega
     have HR:Hid (X=(o,[])):=Lib.hid (by rw [HN.out,List.drop_length];simp [fenceL])
     have HP:Hid (plc xs X.2=xs.length):=Lib.hid (by rw [HR.out];rfl)
     clear HN hlt
     go_wp2_with fail
     go_ret2
     exact ⟨_,by rw [HP.out];rfl,by rw [HR.out];exact HO.out,HB.out⟩
end Go.Proofs.YtihihgfcklkkhaaGreatDoor.Pa
namespace Go.Proofs.YtihihgfcklkkhaaGreatDoor.Pa
open Go.RowKit
open Go.Proofs.YtihihgfcklkkhaaGreatDoor.Tk (S S_of S_list S_size S_toList S_app ret_int eq8 ne8 at_data len_data Rd)
open Go.Proofs.YtihihgfcklkkhaaGreatDoor.Cm (Keep cell_at alloc_new)
open Go.Proofs.YtihihgfcklkkhaaGreatDoor.Bk (Tx Bk fenceL spanK itemL dropBlank listL kindOf closes unquote unitem inner)
open Go.Proofs.YtihihgfcklkkhaaGreatDoor.Ln (run)
open Go.Proofs.YtihihgfcklkkhaaGreatDoor.Kd (E0 of_any NumD unitem_any StrD uiT inner_any inV)
set_option linter.unusedVariables false
theorem item_nil:∀ l:List Tx,(itemL E0 l).1=[]→(itemL E0 l).2=l
 | [],_=>rfl
 | s :: l,h=>by
   unfold itemL at h ⊢
   split
   · rfl
   · rename_i x hx
     rw [hx] at h
     simp only at h
     split at h
     · rename_i hc;rw [if_pos hc]
     · cases h
def keepL (o:List Tx) (m:Nat) (r:List Tx):List Tx:=if (itemL E0 r).1=[] then o.take m else o++(itemL E0 r).1
def endL (xs:List Tx) (e:Nat) (r:List Tx):Nat:=if (itemL E0 r).1=[] then e else plc xs (itemL E0 r).2
theorem keep_start (r:List Tx):keepL [] 0 r=(itemL E0 r).1:=by
 unfold keepL
 split
 · rename_i h;rw [h];rfl
 · rfl
theorem end_start (xs:List Tx) (k:Nat) (hk:k≤xs.length):endL xs k (xs.drop k)=plc xs (itemL E0 (xs.drop k)).2:=by
 unfold endL
 split
 · rename_i h;rw [item_nil _ h,plc,List.length_drop];omega
 · rfl
theorem item_b {s x:Tx} {l:List Tx} (h:inner s=some x) (h1:(itemL E0 l).1=[]) (h2:kindOf E0 s=1):itemL E0 (s :: l)=([],s :: l):=by
 rw [itemL,h]
 exact if_pos ⟨h1,h2⟩
theorem item_m {s x:Tx} {l:List Tx} (h:inner s=some x) (h1:¬ ((itemL E0 l).1=[]∧kindOf E0 s=1)):itemL E0 (s :: l)=(x :: (itemL E0 l).1,(itemL E0 l).2):=by
 rw [itemL,h]
 exact if_neg h1
theorem item_stop {r:List Tx} (h:r=[]∨∃ s l,r=s :: l∧inner s=none):itemL E0 r=([],r):=by
 rcases h with rfl | ⟨s,l,rfl,h⟩
 · rfl
 · rw [itemL,h]
theorem keep_blank {o:List Tx} {m:Nat} {s x:Tx} {l:List Tx} (h:inner s=some x) (hk:kindOf E0 s=1) (hm:m≤o.length):keepL o m (s :: l)=keepL (o++[x]) m l:=by
 unfold keepL
 by_cases he:(itemL E0 l).1=[]
 · rw [item_b h he hk,if_pos rfl,if_pos he,List.take_append_of_le_length hm]
 · rw [item_m h (fun h=>he h.1),if_neg (by simp),if_neg he,List.append_assoc]
   rfl
theorem keep_more {o:List Tx} {m:Nat} {s x:Tx} {l:List Tx} (h:inner s=some x) (hk:kindOf E0 s≠1):keepL o m (s :: l)=keepL (o++[x]) (o.length+1) l:=by
 unfold keepL
 rw [item_m h (fun h=>hk h.2),if_neg (by simp)]
 by_cases he:(itemL E0 l).1=[]
 · rw [if_pos he,he,List.take_of_length_le (by simp)]
 · rw [if_neg he,List.append_assoc]
   rfl
theorem end_blank {xs:List Tx} {e:Nat} {s x:Tx} {l:List Tx} (h:inner s=some x) (hk:kindOf E0 s=1):endL xs e (s :: l)=endL xs e l:=by
 unfold endL
 by_cases he:(itemL E0 l).1=[]
 · rw [item_b h he hk,if_pos rfl,if_pos he]
 · rw [item_m h (fun h=>he h.1),if_neg (by simp),if_neg he]
theorem end_more {xs:List Tx} {e k:Nat} {s x:Tx} (h:inner s=some x) (hk:kindOf E0 s≠1) (hl:k < xs.length):endL xs e (s :: xs.drop (k+1))=endL xs (k+1) (xs.drop (k+1)):=by
 unfold endL
 rw [item_m h (fun h=>hk h.2),if_neg (by simp)]
 by_cases he:(itemL E0 (xs.drop (k+1))).1=[]
 · rw [if_pos he,item_nil _ he,plc,List.length_drop];omega
 · rw [if_neg he]
theorem keep_stop {o:List Tx} {m:Nat} {r:List Tx} (h:r=[]∨∃ s l,r=s :: l∧inner s=none):keepL o m r=o.take m:=by
 unfold keepL
 rw [item_stop h,if_pos rfl]
theorem end_stop {xs:List Tx} {e:Nat} {r:List Tx} (h:r=[]∨∃ s l,r=s :: l∧inner s=none):endL xs e r=e:=by
 unfold endL
 rw [item_stop h,if_pos rfl]
theorem OutS.lit {B:Nat} {w:World} (h:B≤w.heap.size) (x:Tx):OutS B (w.alloc (.cells #[.string (S x)] 9)) (.slice (some ⟨w.heap.size,0,none⟩) 1 1) [x] :=
 ⟨by simp;omega,⟨rfl,.inr ⟨w.heap.size,1,_,rfl,h,alloc_new w _,Nat.le_refl _,by unfold maxLen;omega,rfl,rfl⟩⟩,fun _ _ _ _=>trivial⟩
theorem OutS.reslice {B:Nat} {w:World} {v:Value} {l:List Tx} (h:OutS B w v l) (m:Nat) (hm:m≤l.length) (h0:l≠[]) :
   ∃ v2,(∀ w',(Instr.slice 32 v none (some (.int .i64 (m:Int))) none).run Tryz.prog w' = .ok v2 w')∧Fr Rd B w v2 (l.take m):=by
 have u:=Tryz.underlying32
 have hz:Tryz.prog.cellsOf 9=1:=by kernel_rfl
 have hpl:(l.take m).length=m:=by rw [List.length_take];omega
 rcases (OutG.own h).2 with ⟨_,h1⟩ | ⟨g,cap,cur,hv,hbg,hg,hnc,hcm,hcs,htake⟩
 · exact absurd (List.eq_nil_of_length_eq_zero h1) h0
 refine ⟨.slice (some ⟨g,0,none⟩) m cap,fun w'=>?_,fun w' k2=>?_⟩
 · subst hv
   have hhc:m≤cap:=by omega
   have hm0:(0:Int)≤(m:Int):=by omega
   go_simp
 · obtain ⟨ao,cp,hv2,hc2,hx⟩:=OutS.rd (OutG.go h k2)
   rw [hv] at hv2
   simp only [Value.slice.injEq] at hv2
   obtain ⟨rfl,_,rfl⟩:=hv2
   refine ⟨_,cap,by rw [hpl],by rw [hpl];omega,?_⟩
   rcases hx with hx | ⟨b,o,hbo,hlt,hcell⟩
   · exact absurd hx h0
   · refine Or.inr ⟨b,o,hbo,hlt,fun q x hq=>?_⟩
     have hql:q < m:=by
       have:=(List.getElem?_eq_some_iff.1 hq).1
       omega
     rw [List.getElem?_take_of_lt hql] at hq
     exact hcell q x hq
def FrAns (w:World) (l:List Tx) (n:Nat) (e:Ending) (w':World):Prop:=∃ u,e = .returned (.tuple #[u,.int .i64 (n:Nat)])∧Fr Rd w.heap.size w' u l∧Below w.heap.size w w'
set_option maxHeartbeats 1600000 in
theorem itemL_any (v:Value) (xs:List Tx) (w:World) (hr:Rd w v xs) (ht:tot xs≤90000) (i:Nat) (hi:i < xs.length) (hk:kindOf E0 xs[i]=6) :
   Calls Tryz.prog 105 #[v,.int .i64 (i:Nat)] w (FrAns w (unitem xs[i] :: (itemL E0 (xs.drop (i+1))).1) (plc xs (itemL E0 (xs.drop (i+1))).2)):=by
 obtain ⟨ao,ca,rfl⟩:=hr.len
 have hlen:xs.length≤90000:=Nat.le_trans (tot_len xs) ht
 have HRd:=Lib.hid (fun w' (h:Below w.heap.size w w')=>Bt.Rd.at (hr.below h))
 have HOp:Hid (Calls Tryz.prog 135 #[.string (S xs[i])] w (StrD w (unitem xs[i]))):=Lib.hid (by
   have h:=unitem_any (S xs[i]) (by rw [S_size];have:=mem_small ht hi;omega) w
   rw [S_list,uiT,if_pos hk] at h
   exact h)
 unfold StrD at HOp
 have HO1:=Lib.hid (fun j (hj:j < xs.length) w'=>kd_at ht j hj w')
 have HC:=Lib.hid (fun j (hj:j < xs.length) w'=>inner_any (S xs[j]) (by rw [S_size];have:=mem_small ht hj;omega) w')
 simp only [S_list] at HC
 generalize unitem xs[i]=ui at *
 obtain ⟨T,hT⟩:∃ X,(itemL E0 (xs.drop (i+1))).1=X:=⟨_,rfl⟩
 obtain ⟨P,hP⟩:∃ X,plc xs (itemL E0 (xs.drop (i+1))).2=X:=⟨_,rfl⟩
 have H0:Hid (T=keepL [] 0 (xs.drop (i+1))):=Lib.hid (by rw [keep_start,hT])
 have H1:Hid (P=endL xs (i+1) (xs.drop (i+1))):=Lib.hid (by rw [end_start xs (i+1) (by omega),hP])
 rw [hT,hP]
 obtain ⟨b0,o0,rfl,c0⟩:=HRd.out w (Below.refl _ _) i hi
 have hii:(i:Int) < (xs.length:Int):=by omega
 generalize S xs[i]=si at *
 clear hT hP hr ht hk
 have hw1:IntKind.i64.wrap ((i:Int)+1)=((i+1:Nat):Int):=by rw [IntKind.wrap_i64];omega
 obtain ⟨i1,hi1⟩:∃ q,q=i+1:=⟨_,rfl⟩
 rw [← hi1] at hw1 H0 H1
 have hi2:i1≤xs.length:=by omega
 clear hi1 hi
 go_enter Tryz.func105,Tryz.ntmps105
 go_wp2_with fail
 refine HOp.out.mono ?_
 rintro e w2 ⟨rfl,q,hq⟩
 have HB2:=Lib.hid (show Below w.heap.size w w2 from by rw [hq];exact below_drewN (Below.refl _ _) q)
 have HS2:=Lib.hid (OutS.lit HB2.out.size ui)
 have HB3:=Lib.hid (HB2.out.alloc HB2.out.size (.cells #[.string (S ui)] 9))
 clear hq HOp
 go_wp2_with fail
 generalize w2.alloc (.cells #[.string (S ui)] 9)=w3 at *
 go_loopw [6,7,8,9] (fun vo ev mv iv wr=>∃ (j en m:Nat) (o:List Tx),j≤xs.length∧o.length≤j∧m≤o.length∧iv = .int .i64 j∧ev = .int .i64 en∧mv = .int .i64 ((m+1:Nat):Int)∧Hid (OutS w.heap.size wr vo (ui :: o))∧Hid (Below w.heap.size w wr)∧Hid (T=keepL o m (xs.drop j))∧Hid (P=endL xs en (xs.drop j))) (fun _ _ _ iv _=>xs.length - (intOf iv).toNat)
 case atStart=>exact ⟨i1,i1,0,[],hi2,Nat.zero_le _,Nat.le_refl _,rfl,rfl,rfl,HS2,HB3,H0,H1⟩
 case round =>
   clear H0 H1 HB2 HS2 HB3 hw1 c0
   obtain ⟨j,en,m,o,hj,ho,hmo,rfl,rfl,rfl,HO,HB,HN,HE⟩:=hrel
   obtain ⟨v2,hsl,hfr⟩:=HO.out.reslice (m+1) (by simp only [List.length_cons];omega) (by simp)
   have HS:=Lib.hid hsl
   have HF0:=Lib.hid hfr
   clear hsl hfr
   by_cases hlt:j < xs.length
   · have hji:(j:Int) < (xs.length:Int):=by omega
     obtain ⟨b,of,hbo,c0⟩:=HRd.out wr HB.out j hlt
     simp only [Option.some.injEq,Addr.mk.injEq,and_true] at hbo
     obtain ⟨rfl,rfl⟩:=hbo
     have HCj:=Lib.hid (HC.out j hlt wr)
     have hdr:xs.drop j=xs[j] :: xs.drop (j+1):=List.drop_eq_getElem_cons hlt
     cases hc:inner xs[j] with
     | none =>
       have hst:xs.drop j=[]∨∃ s l,xs.drop j=s :: l∧inner s=none:=Or.inr ⟨_,_,hdr,hc⟩
       have HP:Hid (P=en):=Lib.hid (by rw [HE.out,end_stop hst])
       have HF:Hid (Fr Rd w.heap.size wr v2 (ui :: T)):=Lib.hid (by rw [HN.out,keep_stop hst];exact HF0.out)
       have hs1:=HS.out
       rw [hc] at HCj
       have hinv:inV none = .tuple #[.string ⟨#[]⟩,.bool false]:=rfl
       rw [hinv] at HCj
       clear hdr hc HN HE HF0 hst HS hinv
       generalize S xs[j]=sx at *
       obtain ⟨m1,hm1⟩:∃ q,q=m+1:=⟨_,rfl⟩
       rw [← hm1] at hs1 ⊢
       clear hm1
       go_wp2_with fail
       refine HCj.out.mono ?_
       rintro e w3 ⟨rfl,rfl⟩
       go_wp2_with fail
       go_ret2
       exact ⟨_,by rw [HP.out];rfl,HF.out,HB.out⟩
     | some x =>
       rw [hc] at HCj
       have hinv:inV (some x) = .tuple #[.string (S x),.bool true]:=rfl
       rw [hinv] at HCj
       obtain ⟨v5,w5,hr5,ho5,hk5⟩:=HO.out.push x (by simp only [List.length_cons];omega)
       have HO5:Hid (OutS w.heap.size w5 v5 (ui :: (o++[x]))):=Lib.hid ho5
       have HB5:=Lib.hid (HB.out.trans (HO.out.below hk5))
       have HOj:=Lib.hid (HO1.out j hlt w5)
       obtain ⟨b2,of2,hbo2,c1⟩:=HRd.out w5 HB5.out j hlt
       simp only [Option.some.injEq,Addr.mk.injEq,and_true] at hbo2
       obtain ⟨rfl,rfl⟩:=hbo2
       obtain ⟨av,cv,hv5⟩:=(OutS.rd ho5).len
       have hl5:(ui :: o++[x]:List Tx).length=o.length+2:=by simp
       rw [hl5] at hv5
       subst hv5
       unfold NumD at HOj
       clear ho5 hk5 HF0 HS hinv hl5
       by_cases hb1:kindOf E0 xs[j]=1
       · have HN2:Hid (T=keepL (o++[x]) m (xs.drop (j+1))):=Lib.hid (by rw [HN.out,hdr,keep_blank hc hb1 hmo])
         have HE2:Hid (P=endL xs en (xs.drop (j+1))):=Lib.hid (by rw [HE.out,hdr,end_blank hc hb1])
         have e1:((kindOf E0 xs[j]:Int) != 1)=false:=by rw [hb1];rfl
         clear hdr hc HN HE hb1
         generalize kindOf E0 xs[j]=K at *
         generalize S xs[j]=sx at *
         generalize S x=sxx at *
         go_wp2_with fail
         refine HCj.out.mono ?_
         rintro e w3 ⟨rfl,rfl⟩
         go_wp2_with (at_builtin;refine Lib.wpList_append_run _ rfl _ _ _ _ rfl _ _ rfl rfl _ _ (hr5 _) ?_)
         refine HOj.out.mono ?_
         rintro e w6 ⟨rfl,q,hq⟩
         have HB6:=Lib.hid (show Below w.heap.size w w6 from by rw [hq];exact below_drewN HB5.out q)
         have HO6:Hid (OutS w.heap.size w6 _ _):=Lib.hid (OutG.go HO5.out (by rw [hq];exact (Keep.refl _ _).drewN q))
         clear hq HOj
         go_wp2_with fail
         go_roundw
         case rel=>exact ⟨j+1,en,m,o++[x],by omega,by rw [List.length_append];simp;omega,by rw [List.length_append];omega,by go_num,rfl,rfl,HO6,HB6,HN2,HE2⟩
         case measure=>simp [intOf] <;> omega
       · have HN2:Hid (T=keepL (o++[x]) (o.length+1) (xs.drop (j+1))):=Lib.hid (by rw [HN.out,hdr,keep_more hc hb1])
         have HE2:Hid (P=endL xs (j+1) (xs.drop (j+1))):=Lib.hid (by rw [HE.out,hdr,end_more hc hb1 hlt])
         have e1:((kindOf E0 xs[j]:Int) != 1)=true:=by rw [bne_iff_ne];omega
         have hw2:IntKind.i64.wrap ((j:Int)+1)=((j+1:Nat):Int):=by rw [IntKind.wrap_i64];omega
         obtain ⟨j1,hj1⟩:∃ q,q=j+1:=⟨_,rfl⟩
         rw [← hj1] at hw2 HN2 HE2
         have HJ:=Lib.hid hj1
         obtain ⟨n2,hn2⟩:∃ q,q=o.length+2:=⟨_,rfl⟩
         have HN2':Hid (n2=o.length+1+1):=Lib.hid hn2
         rw [← hn2] at HO5 hr5
         clear hdr hc HN HE hb1 hj1 hn2
         generalize kindOf E0 xs[j]=K at *
         generalize S xs[j]=sx at *
         generalize S x=sxx at *
         go_wp2_with fail
         refine HCj.out.mono ?_
         rintro e w3 ⟨rfl,rfl⟩
         go_wp2_with (at_builtin;refine Lib.wpList_append_run _ rfl _ _ _ _ rfl _ _ rfl rfl _ _ (hr5 _) ?_)
         refine HOj.out.mono ?_
         rintro e w6 ⟨rfl,q,hq⟩
         have HB6:=Lib.hid (show Below w.heap.size w w6 from by rw [hq];exact below_drewN HB5.out q)
         have HO6:Hid (OutS w.heap.size w6 _ _):=Lib.hid (OutG.go HO5.out (by rw [hq];exact (Keep.refl _ _).drewN q))
         clear hq HOj
         go_wp2_with fail
         go_roundw
         case rel=>exact ⟨j1,j1,o.length+1,o++[x],by have:=HJ.out;omega,by have:=HJ.out;rw [List.length_append];simp;omega,by rw [List.length_append];simp,rfl,rfl,by rw [HN2'.out],HO6,HB6,HN2,HE2⟩
         case measure=>have:=HJ.out;simp [intOf] <;> omega
   · obtain rfl:j=xs.length:=by omega
     have hst:xs.drop xs.length=[]∨∃ s l,xs.drop xs.length=s :: l∧inner s=none:=Or.inl List.drop_length
     have HP:Hid (P=en):=Lib.hid (by rw [HE.out,end_stop hst])
     have HF:Hid (Fr Rd w.heap.size wr v2 (ui :: T)):=Lib.hid (by rw [HN.out,keep_stop hst];exact HF0.out)
     have hs1:=HS.out
     clear HN HE hlt HF0 hst HS
     obtain ⟨m1,hm1⟩:∃ q,q=m+1:=⟨_,rfl⟩
     rw [← hm1] at hs1 ⊢
     clear hm1
     go_wp2_with fail
     go_ret2
     exact ⟨_,by rw [HP.out];rfl,HF.out,HB.out⟩
end Go.Proofs.YtihihgfcklkkhaaGreatDoor.Pa
namespace Go.Proofs.YtihihgfcklkkhaaGreatDoor.Pa
open Go.Proofs.YtihihgfcklkkhaaGreatDoor.Bk (Tx Bk fenceL spanK itemL dropBlank listL kindOf closes unquote unitem inner joinLF)
open Go.Proofs.YtihihgfcklkkhaaGreatDoor.Kd (E0)
set_option linter.unusedVariables false
theorem span_blank:∀ r:List Tx,(spanK E0 1 r).2=dropBlank E0 r
 | []=>rfl
 | s :: r=>by
   unfold spanK dropBlank
   split
   · exact span_blank r
   · rfl
def lst (l:List Tx):List (List Tx) × List Tx:=listL E0 l.length l
theorem lst_one {s:Tx} {l:List Tx} (h:dropBlank E0 (itemL E0 l).2=[]∨∃ t r,dropBlank E0 (itemL E0 l).2=t :: r∧kindOf E0 t≠6):lst (s :: l)=([unitem s :: (itemL E0 l).1],(itemL E0 l).2):=by
 unfold lst
 rw [List.length_cons,listL]
 rcases h with h | ⟨t,r,h,hk⟩
 · rw [h]
 · rw [h]
   simp only
   rw [if_neg hk]
theorem lst_more {s:Tx} {l:List Tx} {t:Tx} {r:List Tx} (h:dropBlank E0 (itemL E0 l).2=t :: r) (hk:kindOf E0 t=6):lst (s :: l)=((unitem s :: (itemL E0 l).1) :: (lst (t :: r)).1,(lst (t :: r)).2):=by
 have h2:=((blank_suf E0 (itemL E0 l).2).trans (item_suf E0 l)).length_le
 rw [h] at h2
 unfold lst
 rw [List.length_cons,listL]
 rw [h]
 simp only
 rw [if_pos hk,list_more E0 l.length (t :: r).length (t :: r) h2 (Nat.le_refl _)]
theorem lst_eq (s:Tx) (l:List Tx):listL E0 (l.length+1) (s :: l)=lst (s :: l):=rfl
theorem joinLF_snoc (x:Tx):∀ l:List Tx,joinLF (l++[x])=if l=[] then x else joinLF l++10 :: x
 | []=>rfl
 | [y]=>rfl
 | y :: z :: r=>by
   have ih:=joinLF_snoc x (z :: r)
   rw [if_neg (by simp)] at ih ⊢
   show y++10 :: joinLF (z :: r++[x])=(y++10 :: joinLF (z :: r))++10 :: x
   rw [ih,List.append_assoc]
   rfl
theorem joinLF_len:∀ l:List Tx,(joinLF l).length≤tot l
 | []=>Nat.zero_le _
 | [y]=>by simp only [joinLF,tot];omega
 | y :: z :: r=>by
   have ih:=joinLF_len (z :: r)
   simp only [joinLF,tot,List.length_append,List.length_cons] at ih ⊢
   omega
theorem tot_take (l:List Tx) (n:Nat):tot (l.take n)≤tot l:=by
 have h:=congrArg tot (List.take_append_drop n l)
 rw [tot_app] at h
 omega
end Go.Proofs.YtihihgfcklkkhaaGreatDoor.Pa
namespace Go.Proofs.YtihihgfcklkkhaaGreatDoor.Pa
open Go.RowKit
open Go.Proofs.YtihihgfcklkkhaaGreatDoor.Tk (S S_of S_list S_size S_toList S_app ret_int eq8 ne8 at_data len_data Rd)
open Go.Proofs.YtihihgfcklkkhaaGreatDoor.Cm (Keep cell_at alloc_new)
open Go.Proofs.YtihihgfcklkkhaaGreatDoor.Bk (Tx Bk fenceL spanK itemL dropBlank listL kindOf closes unquote unitem inner)
open Go.Proofs.YtihihgfcklkkhaaGreatDoor.Ln (run)
open Go.Proofs.YtihihgfcklkkhaaGreatDoor.Kd (E0 of_any NumD)
set_option linter.unusedVariables false
theorem plc_drop {xs r:List Tx} (h:r <:+ xs):xs.drop (plc xs r)=r:=suf_drop h
theorem plc_le (xs r:List Tx):plc xs r≤xs.length:=by unfold plc;omega
theorem plc_ge {xs r:List Tx} {i:Nat} (h:r <:+ xs.drop i) (hi:i≤xs.length):i≤plc xs r:=by
 have:=h.length_le
 rw [List.length_drop] at this
 unfold plc
 omega
theorem suf_of_drop {xs r:List Tx} {i:Nat} (h:r <:+ xs.drop i):r <:+ xs:=h.trans (List.drop_suffix i xs)
def LstAns (w:World) (l:List (List Tx)) (n:Nat) (e:Ending) (w':World):Prop:=∃ u ps,e = .returned (.tuple #[u,.int .i64 (n:Nat)])∧OutL w.heap.size w' u ps∧ps.map (·.1)=l∧Below w.heap.size w w'
set_option maxHeartbeats 1600000 in
theorem listL_any (v:Value) (xs:List Tx) (w:World) (hr:Rd w v xs) (ht:tot xs≤90000) (i:Nat) (hi:i < xs.length) (hk:kindOf E0 xs[i]=6) :
   Calls Tryz.prog 70 #[v,.int .i64 (i:Nat)] w (LstAns w (lst (xs.drop i)).1 (plc xs (lst (xs.drop i)).2)):=by
 obtain ⟨ao,ca,rfl⟩:=hr.len
 have hlen:xs.length≤90000:=Nat.le_trans (tot_len xs) ht
 have HRd:=Lib.hid (fun w' (h:Below w.heap.size w w')=>Bt.Rd.at (hr.below h))
 have HI:=Lib.hid (fun w' (h:Below w.heap.size w w') j (hj:j < xs.length) (hk:kindOf E0 xs[j]=6)=>itemL_any _ xs w' (hr.below h) ht j hj hk)
 have HN0:=Lib.hid (fun w' (h:Below w.heap.size w w') j (hj:j≤xs.length)=>runL_any _ xs w' (hr.below h) ht j 1 hj)
 have hone:((1:Nat):Int)=1:=rfl
 simp only [hone,span_blank] at HN0
 have HO1:=Lib.hid (fun j (hj:j < xs.length) w'=>kd_at ht j hj w')
 obtain ⟨X,hX⟩:∃ X,lst (xs.drop i)=X:=⟨_,rfl⟩
 have H0:Hid (X=(([]:List (List Tx × Value)).map (·.1)++(lst (xs.drop i)).1,(lst (xs.drop i)).2)):=Lib.hid (by rw [List.map_nil,List.nil_append,← hX])
 rw [hX]
 have HK:Hid (∃ hi:i < xs.length,kindOf E0 xs[i]=6):=Lib.hid ⟨hi,hk⟩
 clear hX hr ht hk hone hi
 go_enter Tryz.func70,Tryz.ntmps70
 go_wp2_with fail
 go_loopw [1,6] (fun iv vo wr=>∃ (j:Nat) (ps:List (List Tx × Value)),iv = .int .i64 j∧ps.length≤j∧Hid (∃ hj:j < xs.length,kindOf E0 xs[j]=6)∧Hid (OutL w.heap.size wr vo ps)∧Hid (Below w.heap.size w wr)∧Hid (X=(ps.map (·.1)++(lst (xs.drop j)).1,(lst (xs.drop j)).2))) (fun iv _ _=>xs.length - (intOf iv).toNat)
 case atStart=>exact ⟨i,[],rfl,Nat.zero_le _,HK,Lib.hid (OutG.nil (Nat.le_refl _)),Lib.hid (Below.refl _ _),H0⟩
 case round =>
   clear H0 HK
   obtain ⟨j,ps,rfl,hps,HK,HO,HB,HN⟩:=hrel
   obtain ⟨hlt,hk6⟩:=HK.out
   have HIj:=Lib.hid (HI.out wr HB.out j hlt hk6)
   have hdr:xs.drop j=xs[j] :: xs.drop (j+1):=List.drop_eq_getElem_cons hlt
   have hs2:(itemL E0 (xs.drop (j+1))).2 <:+ xs.drop (j+1):=item_suf E0 _
   have hs3:dropBlank E0 (itemL E0 (xs.drop (j+1))).2 <:+ xs.drop (j+1):=(blank_suf E0 _).trans hs2
   have hen:=plc_le xs (itemL E0 (xs.drop (j+1))).2
   have hend:=plc_drop (suf_of_drop hs2)
   have hnx:=plc_le xs (dropBlank E0 (itemL E0 (xs.drop (j+1))).2)
   have hnge:=plc_ge hs3 (by omega)
   have hnxd:=plc_drop (suf_of_drop hs3)
   have HNj:=Lib.hid (fun w' h=>HN0.out w' h (plc xs (itemL E0 (xs.drop (j+1))).2) hen)
   simp only [hend] at HNj
   have hone':dropBlank E0 (itemL E0 (xs.drop (j+1))).2=[]∨(∃ t r,dropBlank E0 (itemL E0 (xs.drop (j+1))).2=t :: r∧kindOf E0 t≠6)→Hid (X=((ps++[(unitem xs[j] :: (itemL E0 (xs.drop (j+1))).1,Value.bool false)]).map (·.1),(itemL E0 (xs.drop (j+1))).2)):=fun h=>Lib.hid (by
     rw [HN.out,hdr,lst_one h,List.map_append]
     rfl)
   have hmore:∀ t r,dropBlank E0 (itemL E0 (xs.drop (j+1))).2=t :: r→kindOf E0 t=6→Hid (X=((ps++[(unitem xs[j] :: (itemL E0 (xs.drop (j+1))).1,Value.bool false)]).map (·.1)++(lst (t :: r)).1,(lst (t :: r)).2)):=fun t r h hk=>Lib.hid (by
     rw [HN.out,hdr,lst_more h hk,List.map_append,List.append_assoc]
     rfl)
   have Hone:=Lib.hid hone'
   have Hmore:=Lib.hid hmore
   have HP:Hid (∀ it:List Tx,∀ u:Value,(ps++[(it,Value.bool false)]).map (·.1)=(ps++[(it,u)]).map (·.1)):=Lib.hid (fun it u=>by rw [List.map_append,List.map_append];rfl)
   clear hone' hmore hdr HN hend hs2 hs3 HI HN0 hk6
   generalize unitem xs[j] :: (itemL E0 (xs.drop (j+1))).1=it at *
   generalize (itemL E0 (xs.drop (j+1))).2=rs at *
   generalize dropBlank E0 rs=nb at *
   have HPl:Hid (plc xs rs=plc xs rs):=Lib.hid rfl
   generalize hen':plc xs rs=en at *
   have HEn:=Lib.hid hen'
   clear hen' HPl
   generalize hnx':plc xs nb=nx at *
   have HNx:=Lib.hid hnx'
   clear hnx'
   unfold FrAns at HIj
   have Hnxd:=Lib.hid hnxd
   clear hnxd
   go_wp2_with fail
   refine HIj.out.mono ?_
   rintro e w2 ⟨u,rfl,hf,b2⟩
   obtain ⟨au,cu,rfl⟩:=hf.now.len
   have HF:=Lib.hid hf
   have hO2:=OutG.go HO.out (Keep.of_below b2)
   have HB2:=Lib.hid (HB.out.trans (b2.mono HB.out.size))
   obtain ⟨v5,w5,hr5,ho5,hk5⟩:=OutL.push hO2 (x:=(it,Value.slice au it.length cu)) (fun w' k=>HF.out.kid HB.out.size (fun j hj=>(OutG.block HO.out j hj).2) w' k) (by omega)
   have HO5:=Lib.hid ho5
   have HB5:=Lib.hid (HB2.out.trans (OutG.below hO2 hk5))
   clear hf b2 hO2 ho5 hk5 HIj
   simp only at hr5
   have HN5:=Lib.hid (HNj.out w5 HB5.out)
   clear HNj
   go_wp2_with (at_builtin;refine Lib.wpList_append_run _ rfl _ _ _ _ rfl _ _ rfl rfl _ _ (hr5 _) ?_)
   refine HN5.out.mono ?_
   rintro e w6 ⟨rfl,b6⟩
   have HB6:=Lib.hid (HB5.out.trans (b6.mono HB5.out.size))
   have HO6:Hid (OutL w.heap.size w6 v5 (ps++[(it,Value.slice au it.length cu)])):=Lib.hid (OutG.go HO5.out (Keep.of_below b6))
   clear b6 HN5 HO5
   by_cases hlast:nx < xs.length
   · have hn1:decide ((nx:Int) ≥ (xs.length:Int))=false:=decide_eq_false (by omega)
     have hn2:decide ((xs.length:Int)≤(nx:Int))=false:=decide_eq_false (by omega)
     have hn3:(nx:Int) < (xs.length:Int):=by omega
     have hdn:nb=xs[nx] :: xs.drop (nx+1):=by rw [← Hnxd.out];exact List.drop_eq_getElem_cons hlast
     obtain ⟨b,of,rfl,c0⟩:=HRd.out w6 HB6.out nx hlast
     have HOj:=Lib.hid (HO1.out nx hlast w6)
     unfold NumD at HOj
     by_cases hk:kindOf E0 xs[nx]=6
     · have e1:((kindOf E0 xs[nx]:Int) != 6)=false:=by rw [hk];rfl
       have HN2:Hid (X=((ps++[(it,Value.slice au it.length cu)]).map (·.1)++(lst (xs.drop nx)).1,(lst (xs.drop nx)).2)):=Lib.hid (by rw [Hnxd.out,hdn,(Hmore.out _ _ hdn hk).out,HP.out it (.slice au it.length cu)])
       have HK2:Hid (∃ hj:nx < xs.length,kindOf E0 xs[nx]=6):=Lib.hid ⟨hlast,hk⟩
       clear Hone Hmore hdn hk
       generalize kindOf E0 xs[nx]=K at *
       generalize S xs[nx]=sx at *
       go_wp2_with fail
       refine HOj.out.mono ?_
       rintro e w7 ⟨rfl,q,hq⟩
       have HB7:=Lib.hid (show Below w.heap.size w w7 from by rw [hq];exact below_drewN HB6.out q)
       have HO7:Hid (OutL w.heap.size w7 v5 (ps++[(it,Value.slice au it.length cu)])):=Lib.hid (OutG.go HO6.out (by rw [hq];exact (Keep.refl _ _).drewN q))
       clear hq HOj
       go_wp2_with fail
       go_roundw
       case rel=>exact ⟨nx,_,rfl,by rw [List.length_append];simp;omega,HK2,HO7,HB7,HN2⟩
       case measure=>simp [intOf] <;> omega
     · have e1:((kindOf E0 xs[nx]:Int) != 6)=true:=by rw [bne_iff_ne];omega
       have HR:=Hone.out (Or.inr ⟨_,_,hdn,hk⟩)
       clear Hone Hmore hdn hk
       generalize kindOf E0 xs[nx]=K at *
       generalize S xs[nx]=sx at *
       go_wp2_with fail
       refine HOj.out.mono ?_
       rintro e w7 ⟨rfl,q,hq⟩
       have HB7:=Lib.hid (show Below w.heap.size w w7 from by rw [hq];exact below_drewN HB6.out q)
       have HO7:Hid (OutL w.heap.size w7 v5 (ps++[(it,Value.slice au it.length cu)])):=Lib.hid (OutG.go HO6.out (by rw [hq];exact (Keep.refl _ _).drewN q))
       clear hq HOj
       go_wp2_with fail
       go_ret2
       exact ⟨_,_,by rw [HR.out];show _=Ending.returned (.tuple #[_,.int .i64 (plc xs rs:Nat)]);rw [HEn.out];rfl,HO7.out,by rw [HR.out];exact (HP.out it (.slice au it.length cu)).symm,HB7.out⟩
   · have hn1:decide ((nx:Int) ≥ (xs.length:Int))=true:=decide_eq_true (by omega)
     have hn2:decide ((xs.length:Int)≤(nx:Int))=true:=decide_eq_true (by omega)
     have HR:=Hone.out (Or.inl (by rw [← Hnxd.out];exact List.drop_eq_nil_of_le (by omega)))
     have hn4:decide (xs.length≤nx)=true:=decide_eq_true (by omega)
     have hn5:xs.length≤nx:=by omega
     clear Hone Hmore hlast
     go_wp2_with fail
     go_ret2
     exact ⟨_,_,by rw [HR.out];show _=Ending.returned (.tuple #[_,.int .i64 (plc xs rs:Nat)]);rw [HEn.out];rfl,HO6.out,by rw [HR.out];exact (HP.out it (.slice au it.length cu)).symm,HB6.out⟩
end Go.Proofs.YtihihgfcklkkhaaGreatDoor.Pa
namespace Go.Proofs.YtihihgfcklkkhaaGreatDoor.Pa
open Go.RowKit
open Go.Proofs.YtihihgfcklkkhaaGreatDoor.Tk (S S_of S_list S_size S_toList S_app ret_int eq8 ne8 at_data len_data Rd)
open Go.Proofs.YtihihgfcklkkhaaGreatDoor.Sp (Sp Tr ret_bool)
open Go.Proofs.YtihihgfcklkkhaaGreatDoor.Bt (TrB KB)
open Go.Proofs.YtihihgfcklkkhaaGreatDoor.Cm (Keep alloc_new alloc_at cell_at frozen_at set_at lt_of_at)
open Go.Proofs.YtihihgfcklkkhaaGreatDoor.Bk (Tx Bk define kindOf)
open Go.Proofs.YtihihgfcklkkhaaGreatDoor.Kd
set_option linter.unusedVariables false
def BlkF (w:World) (b:Bk) (e:Ending) (w':World):Prop:=∃ vl vs vk,e = .returned (.agg #[.int .i64 b.kind,.int .i64 b.level,.string (S b.info),vl,vs,vk])∧Below w.heap.size w w'∧∀ w'',Keep (fun j=>j < w.heap.size) w' w''→KB w'' (b,vl,vs,vk)
theorem kb_nil (w:World) (k lv:Int) (i:Tx):KB w (.mk k lv i [] [] [],.slice none 0 0,.slice none 0 0,.slice none 0 0):=⟨nilRd w,by simp [Bk.lines],nilTr w,nilTrB w⟩
theorem blkF_zero {w w5:World} {X:Bk} (HB:Below w.heap.size w w5) (HR:X = .mk 0 0 [] [] [] []) :
   BlkF w X (.returned (.agg #[.int .i64 0,.int .i64 0,.string ⟨#[]⟩,.slice none 0 0,.slice none 0 0,.slice none 0 0])) w5:=by
 subst HR
 exact ⟨_,_,_,rfl,HB,fun w'' _=>kb_nil w'' 0 0 []⟩
theorem blkF_one {w w5:World} {X:Bk} {a d:Tx} {sa:ByteArray} {k:Nat} {T:TypeId} {fr:Nat × Nat} (HSa:S a=sa) (HB:Below w.heap.size w w5) (HA:w5.heap[k]? = some (Obj.cells #[.string (S d)] T fr)) (hk:w.heap.size≤k) (HR:X = .mk 8 0 a [d] [] []) :
   BlkF w X (.returned (.agg #[.int .i64 8,.int .i64 0,.string sa,.slice (some ⟨k,0,none⟩) 1 1,.slice none 0 0,.slice none 0 0])) w5:=by
 subst HR;subst HSa
 refine ⟨.slice (some ⟨k,0,none⟩) 1 1,_,_,rfl,HB,fun w'' k2=>⟨⟨_,1,rfl,Nat.le_refl _,Or.inr ⟨k,0,rfl,lt_of_at (k2.at HA (by omega)),fun j x hj=>?_⟩⟩,by simp [Bk.lines],nilTr _,nilTrB _⟩⟩
 have h0:=cell_at (k2.at HA (by omega)) 0
 cases j with
 | zero =>
   have:x=d:=by simpa [Bk.lines] using hj.symm
   subst this
   exact h0
 | succ j=>simp [Bk.lines] at hj
set_option maxHeartbeats 3200000 in
theorem defineF_any (s:ByteArray) (hs:s.size≤140737488355328) (w:World) :
   Calls Tryz.prog 71 #[.string s] w (BlkF w (dfB s.data.toList)):=by
 have HD:=Lib.hid (fun w'=>define_any s hs w')
 have HO:=Lib.hid (fun w'=>of_any s hs w')
 have HX:Hid (dfB s.data.toList=if kindOf E0 s.data.toList=7 then (match define E0 s.data.toList with | some (a,d)=>.mk 8 0 a [d] [] [] | none=>.mk 0 0 [] [] [] []) else .mk 0 0 [] [] [] []):=Lib.hid rfl
 obtain ⟨X,hX⟩:∃ X,dfB s.data.toList=X:=⟨_,rfl⟩
 rw [hX] at HX ⊢
 clear hX
 generalize kindOf E0 s.data.toList=K at *
 generalize define E0 s.data.toList=D at *
 go_enter Tryz.func71,Tryz.ntmps71
 have HA1:=Lib.hid (alloc_new w (.cells #[.int .i64 0,.int .i64 0,.string ⟨#[]⟩,.slice none 0 0,.slice none 0 0,.slice none 0 0] 42))
 have HB1:=Lib.hid ((Below.refl w.heap.size w).alloc (Nat.le_refl _) (.cells #[.int .i64 0,.int .i64 0,.string ⟨#[]⟩,.slice none 0 0,.slice none 0 0,.slice none 0 0] 42))
 go_wp2_with fail
 generalize w.alloc (.cells #[.int .i64 0,.int .i64 0,.string ⟨#[]⟩,.slice none 0 0,.slice none 0 0,.slice none 0 0] 42)=w1 at *
 refine (HD.out _).mono ?_
 rintro e w2 ⟨rfl,q1,hq1⟩
 have HA2:Hid (w2.heap[w.heap.size]? = some (Obj.cells #[.int .i64 0,.int .i64 0,.string ⟨#[]⟩,.slice none 0 0,.slice none 0 0,.slice none 0 0] 42 (0,0))):=Lib.hid (by rw [hq1];exact HA1.out)
 have HB2:=Lib.hid (show Below w.heap.size w w2 from by rw [hq1];exact below_drewN HB1.out q1)
 clear hq1 HA1 HB1 HD
 unfold dfV
 obtain ⟨sa,hsa⟩:∃ x,S (D.getD ([],[])).1=x:=⟨_,rfl⟩
 rw [hsa]
 go_wp2_with fail
 refine (HO.out _).mono ?_
 rintro e w3 ⟨rfl,q2,hq2⟩
 have HA3:Hid (w3.heap[w.heap.size]? = some (Obj.cells #[.int .i64 0,.int .i64 0,.string ⟨#[]⟩,.slice none 0 0,.slice none 0 0,.slice none 0 0] 42 (0,0))):=Lib.hid (by rw [hq2];exact HA2.out)
 have HB3:=Lib.hid (show Below w.heap.size w w3 from by rw [hq2];exact below_drewN HB2.out q2)
 clear hq2 HA2 HB2 HO
 have k0:w3.cell? ⟨w.heap.size,0,none⟩=some (.int .i64 0):=cell_at HA3.out 0
 have f0:w3.frozen? ⟨w.heap.size,0,none⟩=false:=frozen_at HA3.out 0
 have K0:∀ o,(w3.alloc o).cell? ⟨w.heap.size,0,none⟩=some (.int .i64 0):=fun o=>cell_at (alloc_at HA3.out o) 0
 have F0:∀ o,(w3.alloc o).frozen? ⟨w.heap.size,0,none⟩=false:=fun o=>frozen_at (alloc_at HA3.out o) 0
 have k1:w3.cell? ⟨w.heap.size,1,none⟩=some (.int .i64 0):=cell_at HA3.out 1
 have f1:w3.frozen? ⟨w.heap.size,1,none⟩=false:=frozen_at HA3.out 1
 have K1:∀ o,(w3.alloc o).cell? ⟨w.heap.size,1,none⟩=some (.int .i64 0):=fun o=>cell_at (alloc_at HA3.out o) 1
 have F1:∀ o,(w3.alloc o).frozen? ⟨w.heap.size,1,none⟩=false:=fun o=>frozen_at (alloc_at HA3.out o) 1
 have k2:w3.cell? ⟨w.heap.size,2,none⟩=some (.string ⟨#[]⟩):=cell_at HA3.out 2
 have f2:w3.frozen? ⟨w.heap.size,2,none⟩=false:=frozen_at HA3.out 2
 have K2:∀ o,(w3.alloc o).cell? ⟨w.heap.size,2,none⟩=some (.string ⟨#[]⟩):=fun o=>cell_at (alloc_at HA3.out o) 2
 have F2:∀ o,(w3.alloc o).frozen? ⟨w.heap.size,2,none⟩=false:=fun o=>frozen_at (alloc_at HA3.out o) 2
 have k3:w3.cell? ⟨w.heap.size,3,none⟩=some (.slice none 0 0):=cell_at HA3.out 3
 have f3:w3.frozen? ⟨w.heap.size,3,none⟩=false:=frozen_at HA3.out 3
 have K3:∀ o,(w3.alloc o).cell? ⟨w.heap.size,3,none⟩=some (.slice none 0 0):=fun o=>cell_at (alloc_at HA3.out o) 3
 have F3:∀ o,(w3.alloc o).frozen? ⟨w.heap.size,3,none⟩=false:=fun o=>frozen_at (alloc_at HA3.out o) 3
 have k4:w3.cell? ⟨w.heap.size,4,none⟩=some (.slice none 0 0):=cell_at HA3.out 4
 have f4:w3.frozen? ⟨w.heap.size,4,none⟩=false:=frozen_at HA3.out 4
 have K4:∀ o,(w3.alloc o).cell? ⟨w.heap.size,4,none⟩=some (.slice none 0 0):=fun o=>cell_at (alloc_at HA3.out o) 4
 have F4:∀ o,(w3.alloc o).frozen? ⟨w.heap.size,4,none⟩=false:=fun o=>frozen_at (alloc_at HA3.out o) 4
 have k5:w3.cell? ⟨w.heap.size,5,none⟩=some (.slice none 0 0):=cell_at HA3.out 5
 have f5:w3.frozen? ⟨w.heap.size,5,none⟩=false:=frozen_at HA3.out 5
 have K5:∀ o,(w3.alloc o).cell? ⟨w.heap.size,5,none⟩=some (.slice none 0 0):=fun o=>cell_at (alloc_at HA3.out o) 5
 have F5:∀ o,(w3.alloc o).frozen? ⟨w.heap.size,5,none⟩=false:=fun o=>frozen_at (alloc_at HA3.out o) 5
 cases D with
 | none =>
   have HR:Hid (X = .mk 0 0 [] [] [] []):=Lib.hid (by rw [HX.out];split <;> rfl)
   by_cases hk:K=7
   · have e1:((K:Int) != 7)=false:=by rw [hk];rfl
     clear HX hk
     go_wp2_with fail
     have HS:=Lib.hid (set6 (u0:=.int .i64 0) (u1:=.int .i64 0) (u2:=.string ⟨#[]⟩) (u3:=.slice none 0 0) (u4:=.slice none 0 0) (u5:=.slice none 0 0) HA3.out)
     have HB:=Lib.hid (set6_below HB3.out (Nat.le_refl _) (.int .i64 0) (.int .i64 0) (.string ⟨#[]⟩) (.slice none 0 0) (.slice none 0 0) (.slice none 0 0))
     generalize ((((((w3.setCell ⟨w.heap.size,0,none⟩ (.int .i64 0)).setCell ⟨w.heap.size,1,none⟩ (.int .i64 0)).setCell ⟨w.heap.size,2,none⟩ (.string ⟨#[]⟩)).setCell ⟨w.heap.size,3,none⟩ (.slice none 0 0)).setCell ⟨w.heap.size,4,none⟩ (.slice none 0 0)).setCell ⟨w.heap.size,5,none⟩ (.slice none 0 0))=w5 at *
     have r0:w5.cell? ⟨w.heap.size,0,none⟩=some (.int .i64 0):=cell_at HS.out 0
     have r1:w5.cell? ⟨w.heap.size,1,none⟩=some (.int .i64 0):=cell_at HS.out 1
     have r2:w5.cell? ⟨w.heap.size,2,none⟩=some (.string ⟨#[]⟩):=cell_at HS.out 2
     have r3:w5.cell? ⟨w.heap.size,3,none⟩=some (.slice none 0 0):=cell_at HS.out 3
     have r4:w5.cell? ⟨w.heap.size,4,none⟩=some (.slice none 0 0):=cell_at HS.out 4
     have r5:w5.cell? ⟨w.heap.size,5,none⟩=some (.slice none 0 0):=cell_at HS.out 5
     exact bodyPost_ret (v:=.agg #[.int .i64 0,.int .i64 0,.string ⟨#[]⟩,.slice none 0 0,.slice none 0 0,.slice none 0 0]) (by simp [results,Tryz.results71,go_sem,r0,r1,r2,r3,r4,r5]) rfl (blkF_zero HB.out HR.out)
   · have e1:((K:Int) != 7)=true:=by rw [bne_iff_ne];omega
     clear HX hk
     go_wp2_with fail
     have HS:=Lib.hid (set6 (u0:=.int .i64 0) (u1:=.int .i64 0) (u2:=.string ⟨#[]⟩) (u3:=.slice none 0 0) (u4:=.slice none 0 0) (u5:=.slice none 0 0) HA3.out)
     have HB:=Lib.hid (set6_below HB3.out (Nat.le_refl _) (.int .i64 0) (.int .i64 0) (.string ⟨#[]⟩) (.slice none 0 0) (.slice none 0 0) (.slice none 0 0))
     generalize ((((((w3.setCell ⟨w.heap.size,0,none⟩ (.int .i64 0)).setCell ⟨w.heap.size,1,none⟩ (.int .i64 0)).setCell ⟨w.heap.size,2,none⟩ (.string ⟨#[]⟩)).setCell ⟨w.heap.size,3,none⟩ (.slice none 0 0)).setCell ⟨w.heap.size,4,none⟩ (.slice none 0 0)).setCell ⟨w.heap.size,5,none⟩ (.slice none 0 0))=w5 at *
     have r0:w5.cell? ⟨w.heap.size,0,none⟩=some (.int .i64 0):=cell_at HS.out 0
     have r1:w5.cell? ⟨w.heap.size,1,none⟩=some (.int .i64 0):=cell_at HS.out 1
     have r2:w5.cell? ⟨w.heap.size,2,none⟩=some (.string ⟨#[]⟩):=cell_at HS.out 2
     have r3:w5.cell? ⟨w.heap.size,3,none⟩=some (.slice none 0 0):=cell_at HS.out 3
     have r4:w5.cell? ⟨w.heap.size,4,none⟩=some (.slice none 0 0):=cell_at HS.out 4
     have r5:w5.cell? ⟨w.heap.size,5,none⟩=some (.slice none 0 0):=cell_at HS.out 5
     exact bodyPost_ret (v:=.agg #[.int .i64 0,.int .i64 0,.string ⟨#[]⟩,.slice none 0 0,.slice none 0 0,.slice none 0 0]) (by simp [results,Tryz.results71,go_sem,r0,r1,r2,r3,r4,r5]) rfl (blkF_zero HB.out HR.out)
 | some p =>
   obtain ⟨a,d⟩:=p
   have HSa:Hid (S a=sa):=Lib.hid hsa
   clear hsa
   by_cases hk:K=7
   · have HR:Hid (X = .mk 8 0 a [d] [] []):=Lib.hid (by rw [HX.out,if_pos hk])
     have e1:((K:Int) != 7)=false:=by rw [hk];rfl
     clear HX hk
     go_wp2_with fail
     have HS:=Lib.hid (set6 (u0:=.int .i64 8) (u1:=.int .i64 0) (u2:=.string sa) (u3:=.slice (some ⟨w3.heap.size,0,none⟩) 1 1) (u4:=.slice none 0 0) (u5:=.slice none 0 0) (alloc_at HA3.out (.cells #[.string (S d)] 9)))
     have HB:=Lib.hid (set6_below (HB3.out.alloc HB3.out.size (.cells #[.string (S d)] 9)) (Nat.le_refl _) (.int .i64 8) (.int .i64 0) (.string sa) (.slice (some ⟨w3.heap.size,0,none⟩) 1 1) (.slice none 0 0) (.slice none 0 0))
     have hne:w3.heap.size≠w.heap.size:=by have:=lt_of_at HA3.out;omega
     have HR5:=Lib.hid (set6_other (w:=w3.alloc (.cells #[.string (S d)] 9)) hne (.int .i64 8) (.int .i64 0) (.string sa) (.slice (some ⟨w3.heap.size,0,none⟩) 1 1) (.slice none 0 0) (.slice none 0 0))
     have HN:=Lib.hid (alloc_new w3 (.cells #[.string (S d)] 9))
     have HR6:=Lib.hid (HR5.out.trans HN.out)
     clear HR5 HN
     generalize (((((((w3.alloc (.cells #[.string (S d)] 9)).setCell ⟨w.heap.size,0,none⟩ (.int .i64 8)).setCell ⟨w.heap.size,1,none⟩ (.int .i64 0)).setCell ⟨w.heap.size,2,none⟩ (.string sa)).setCell ⟨w.heap.size,3,none⟩ (.slice (some ⟨w3.heap.size,0,none⟩) 1 1)).setCell ⟨w.heap.size,4,none⟩ (.slice none 0 0)).setCell ⟨w.heap.size,5,none⟩ (.slice none 0 0))=w5 at *
     have r0:w5.cell? ⟨w.heap.size,0,none⟩=some (.int .i64 8):=cell_at HS.out 0
     have r1:w5.cell? ⟨w.heap.size,1,none⟩=some (.int .i64 0):=cell_at HS.out 1
     have r2:w5.cell? ⟨w.heap.size,2,none⟩=some (.string sa):=cell_at HS.out 2
     have r3:w5.cell? ⟨w.heap.size,3,none⟩=some (.slice (some ⟨w3.heap.size,0,none⟩) 1 1):=cell_at HS.out 3
     have r4:w5.cell? ⟨w.heap.size,4,none⟩=some (.slice none 0 0):=cell_at HS.out 4
     have r5:w5.cell? ⟨w.heap.size,5,none⟩=some (.slice none 0 0):=cell_at HS.out 5
     exact bodyPost_ret (v:=.agg #[.int .i64 8,.int .i64 0,.string sa,.slice (some ⟨w3.heap.size,0,none⟩) 1 1,.slice none 0 0,.slice none 0 0]) (by simp [results,Tryz.results71,go_sem,r0,r1,r2,r3,r4,r5]) rfl (blkF_one HSa.out HB.out HR6.out HB3.out.size HR.out)
   · have HR:Hid (X = .mk 0 0 [] [] [] []):=Lib.hid (by rw [HX.out,if_neg hk])
     have e1:((K:Int) != 7)=true:=by rw [bne_iff_ne];omega
     clear HX hk
     go_wp2_with fail
     have HS:=Lib.hid (set6 (u0:=.int .i64 0) (u1:=.int .i64 0) (u2:=.string ⟨#[]⟩) (u3:=.slice none 0 0) (u4:=.slice none 0 0) (u5:=.slice none 0 0) HA3.out)
     have HB:=Lib.hid (set6_below HB3.out (Nat.le_refl _) (.int .i64 0) (.int .i64 0) (.string ⟨#[]⟩) (.slice none 0 0) (.slice none 0 0) (.slice none 0 0))
     generalize ((((((w3.setCell ⟨w.heap.size,0,none⟩ (.int .i64 0)).setCell ⟨w.heap.size,1,none⟩ (.int .i64 0)).setCell ⟨w.heap.size,2,none⟩ (.string ⟨#[]⟩)).setCell ⟨w.heap.size,3,none⟩ (.slice none 0 0)).setCell ⟨w.heap.size,4,none⟩ (.slice none 0 0)).setCell ⟨w.heap.size,5,none⟩ (.slice none 0 0))=w5 at *
     have r0:w5.cell? ⟨w.heap.size,0,none⟩=some (.int .i64 0):=cell_at HS.out 0
     have r1:w5.cell? ⟨w.heap.size,1,none⟩=some (.int .i64 0):=cell_at HS.out 1
     have r2:w5.cell? ⟨w.heap.size,2,none⟩=some (.string ⟨#[]⟩):=cell_at HS.out 2
     have r3:w5.cell? ⟨w.heap.size,3,none⟩=some (.slice none 0 0):=cell_at HS.out 3
     have r4:w5.cell? ⟨w.heap.size,4,none⟩=some (.slice none 0 0):=cell_at HS.out 4
     have r5:w5.cell? ⟨w.heap.size,5,none⟩=some (.slice none 0 0):=cell_at HS.out 5
     exact bodyPost_ret (v:=.agg #[.int .i64 0,.int .i64 0,.string ⟨#[]⟩,.slice none 0 0,.slice none 0 0,.slice none 0 0]) (by simp [results,Tryz.results71,go_sem,r0,r1,r2,r3,r4,r5]) rfl (blkF_zero HB.out HR.out)
end Go.Proofs.YtihihgfcklkkhaaGreatDoor.Pa
