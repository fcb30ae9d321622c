import Derived.Test.YtihihgfcklkkhaaGreatDoorPkU
import Derived.Test.YtihihgfcklkkhaaGreatDoorPkB
import Derived.BigQuiet
import Derived.Deep.QuietTactic
import Derived.OwnWalk
import Derived.Test.YtihihgfcklkkhaaGreatDoorPkL
import Derived.Deep.Cut
import Derived.Test.YtihihgfcklkkhaaGreatDoorPkV
namespace Go.Proofs.YtihihgfcklkkhaaGreatDoor.Kd
open Go.RowKit
open Go.Proofs.YtihihgfcklkkhaaGreatDoor.Tk (S S_of S_list S_size S_toList S_app ret_int eq8 ne8 at_data len_data)
open Go.Proofs.YtihihgfcklkkhaaGreatDoor.Sp (dsB dest_any)
open Go.Proofs.YtihihgfcklkkhaaGreatDoor.Bt (labB label_any)
open Go.Proofs.YtihihgfcklkkhaaGreatDoor.Bk (Tx define)
set_option linter.unusedVariables false
theorem ext_mid (s:ByteArray) (a b:Nat):(s.extract a b).data.toList=(s.data.toList.drop a).take (b - a):=by
 rw [ByteArray.data_extract]
 simp only [Array.toList_extract,List.extract_eq_take_drop]
theorem ext_end (s:ByteArray) (k:Nat):(s.extract k s.size).data.toList=s.data.toList.drop k:=by
 rw [ext_mid]
 exact List.take_of_length_le (by rw [List.length_drop,len_data];exact Nat.le_refl _)
theorem ext_sz (s:ByteArray) (a b:Nat):(s.extract a b).size≤s.size:=by rw [ByteArray.size_extract];omega
theorem mid_S (s:ByteArray) (a b:Nat):s.extract a b=S ((s.data.toList.drop a).take (b - a)):=by rw [← ext_mid,S_of]
theorem end_S (s:ByteArray) (k:Nat):s.extract k s.size=S (s.data.toList.drop k):=by rw [← ext_end,S_of]
theorem slice_mid (x:ByteArray) (m k:Nat) (h1:m≤k) (h2:k≤x.size) (w:World) :
   (Instr.slice 9 (.string x) (some (.int .i64 (m:Int))) (some (.int .i64 (k:Int))) none).run Tryz.prog w = .ok (.string (x.extract m k)) w:=by
 have h3:(m:Int)≤(k:Int):=by omega
 have h4:(k:Int)≤(x.size:Int):=by omega
 have h5:0≤(m:Int):=by omega
 go_simp
theorem slice_end (x:ByteArray) (m:Nat) (h1:m≤x.size) (w:World) :
   (Instr.slice 9 (.string x) (some (.int .i64 (m:Int))) none none).run Tryz.prog w = .ok (.string (x.extract m x.size)) w:=by
 have h4:(m:Int)≤(x.size:Int):=by omega
 have h5:0≤(m:Int):=by omega
 go_simp
theorem slice_to (x:ByteArray) (k:Nat) (h2:k≤x.size) (w:World) :
   (Instr.slice 9 (.string x) none (some (.int .i64 (k:Int))) none).run Tryz.prog w = .ok (.string (x.extract 0 k)) w:=by
 have h4:(k:Int)≤(x.size:Int):=by omega
 have h5:0≤(k:Int):=by omega
 go_simp
theorem data_at (s:ByteArray) (i:Nat) (h:i < s.size):s.data.toList[i]'(by rw [len_data];exact h)=s[i]:=by rw [Array.getElem_toList];rfl
def dfV (o:Option (Tx × Tx)):Value:=.tuple #[.string (S (o.getD ([],[])).1),.string (S (o.getD ([],[])).2),.bool o.isSome]
def DefAns (w:World) (o:Option (Tx × Tx)) (e:Ending) (w':World):Prop:=e = .returned (dfV o)∧∃ n,w'=w.drewN n
set_option maxHeartbeats 6400000 in
set_option maxRecDepth 100000 in
theorem define_any (s:ByteArray) (hs:s.size≤140737488355328) (w:World) :
   Calls Tryz.prog 63 #[.string s] w (DefAns w (define E0 s.data.toList)):=by
 have H0:Hid (define E0 s.data.toList=dfAt s.data.toList 1):=Lib.hid (dfAt_one _)
 have HEnd:Hid (∀ k,s.size≤k+3→dfAt s.data.toList k=none):=Lib.hid (fun k h=>dfAt_end _ k (by rw [len_data];exact h))
 have HNo:Hid (∀ k q1 q2 (h0:0 < s.size) (hk:k < s.size) (h1:q1 < s.size) (h2:q2 < s.size),1≤k→k+3 < s.size→q1=k+1→q2=k+2→¬ (s[0]=91∧s[k]=93∧s[q1]=58∧s[q2]=32)→dfAt s.data.toList k=dfAt s.data.toList q1):=Lib.hid (fun k q1 q2 h0 hk h1 h2 k1 h e1 e2 hx=>by
   subst e1;subst e2
   exact dfAt_no _ k k1 (by rw [len_data];exact h) (by rw [data_at,data_at,data_at,data_at];exact hx))
 have HYes:Hid (∀ k q1 q2 q3 (h0:0 < s.size) (hk:k < s.size) (h1:q1 < s.size) (h2:q2 < s.size),1≤k→k+3 < s.size→q1=k+1→q2=k+2→q3=k+3→s[0]=91→s[k]=93→s[q1]=58→s[q2]=32→dfAt s.data.toList k=if labB (s.extract 1 k).data.toList && dsB (s.extract q3 s.size).data.toList then some ((s.extract 1 k).data.toList,(s.extract q3 s.size).data.toList) else dfAt s.data.toList q1):=Lib.hid (fun k q1 q2 q3 h0 hk h1 h2 k1 h d1 d2 d3 e0 e1 e2 e3=>by
   subst d1;subst d2;subst d3
   rw [ext_mid,ext_end]
   exact dfAt_yes _ k k1 (by rw [len_data];exact h) (by rw [data_at];exact e0) (by rw [data_at];exact e1) (by rw [data_at];exact e2) (by rw [data_at];exact e3))
 have HL:=Lib.hid (fun k=>label_any (s.extract 1 k) (Nat.le_trans (ext_sz _ _ _) hs) w)
 have HD:=Lib.hid (fun k=>dest_any (s.extract k s.size) (Nat.le_trans (ext_sz _ _ _) hs) w)
 have HS1:=Lib.hid (fun k (h1:1≤k) (h:k≤s.size) w'=>slice_mid s 1 k h1 h w')
 have HS2:=Lib.hid (fun k (h:k≤s.size) w'=>slice_end s k h w')
 obtain ⟨X,hX⟩:∃ X,define E0 s.data.toList=X:=⟨_,rfl⟩
 rw [hX] at H0 ⊢
 clear hX
 go_enter Tryz.func63,Tryz.ntmps63
 go_wp2_with fail
 go_loop [5] (fun i=>∃ k:Nat,1≤k∧k≤s.size+1∧i = .int .i64 k∧Hid (X=dfAt s.data.toList k)) (fun i=>s.size+1 - (intOf i).toNat)
 case atStart=>exact ⟨1,Nat.le_refl _,by omega,rfl,H0⟩
 case round =>
   clear H0
   obtain ⟨k,hk1,hk,rfl,HN⟩:=hrel
   obtain ⟨q1,hq1⟩:∃ q,q=k+1:=⟨_,rfl⟩
   obtain ⟨q2,hq2⟩:∃ q,q=k+2:=⟨_,rfl⟩
   obtain ⟨q3,hq3⟩:∃ q,q=k+3:=⟨_,rfl⟩
   have w1:IntKind.i64.wrap ((k:Int)+1)=(q1:Int):=by rw [IntKind.wrap_i64];omega
   have w2:IntKind.i64.wrap ((k:Int)+2)=(q2:Int):=by rw [IntKind.wrap_i64];omega
   have w3:IntKind.i64.wrap ((k:Int)+3)=(q3:Int):=by rw [IntKind.wrap_i64];omega
   have HQ:Hid (q1=k+1∧q2=k+2∧q3=k+3):=Lib.hid ⟨hq1,hq2,hq3⟩
   by_cases hlt:k+3 < s.size
   · have g3 : (q3:Int) < (s.size:Int):=by omega
     have g0:0 < s.size:=by omega
     have gk:k < s.size:=by omega
     have g1:q1 < s.size:=by omega
     have g2:q2 < s.size:=by omega
     have g4:q3≤s.size:=by omega
     have gki:(k:Int) < (s.size:Int):=by omega
     have g1i:(q1:Int) < (s.size:Int):=by omega
     have g2i:(q2:Int) < (s.size:Int):=by omega
     have hno:=Lib.hid (fun h=>HN.out.trans (HNo.out k q1 q2 g0 gk g1 g2 hk1 hlt hq1 hq2 h))
     have hyes:=Lib.hid (fun c0 c1 c2 c3=>HN.out.trans (HYes.out k q1 q2 q3 g0 gk g1 g2 hk1 hlt hq1 hq2 hq3 c0 c1 c2 c3))
     have HLk:=Lib.hid (HL.out k)
     have HDk:=Lib.hid (HD.out q3)
     have hs1:=HS1.out k hk1 (by omega)
     have hs2:=HS2.out q3 g4
     have hone:((1:Nat):Int)=1:=rfl
     rw [hone] at hs1
     clear HNo HYes HEnd HL HD HS1 HS2 HN hone hq1 hq2 hq3 hlt
     obtain ⟨x0,hx0⟩:∃ x,s[0]=x:=⟨_,rfl⟩
     obtain ⟨xk,hxk⟩:∃ x,s[k]=x:=⟨_,rfl⟩
     obtain ⟨x1,hx1⟩:∃ x,s[q1]=x:=⟨_,rfl⟩
     obtain ⟨x2,hx2⟩:∃ x,s[q2]=x:=⟨_,rfl⟩
     rw [hx0,hxk,hx1,hx2] at hno hyes
     obtain ⟨sa,hsa⟩:∃ x,s.extract 1 k=x:=⟨_,rfl⟩
     obtain ⟨sb,hsb⟩:∃ x,s.extract q3 s.size=x:=⟨_,rfl⟩
     rw [hsa,hsb] at hyes
     rw [hsa] at HLk hs1
     rw [hsb] at HDk hs2
     clear hsa hsb
     have HA:Hid (S sa.data.toList=sa):=Lib.hid (S_of _)
     have HB:Hid (S sb.data.toList=sb):=Lib.hid (S_of _)
     generalize sa.data.toList=la at *
     generalize sb.data.toList=lb at *
     by_cases c0:x0=91
     · have e0 : ((x0.toNat:Int) == 91)=true:=eq8 (b:=91) c0
       by_cases c1:xk=93
       · have e1 : ((xk.toNat:Int) == 93)=true:=eq8 (b:=93) c1
         by_cases c2:x1=58
         · have e2:((x1.toNat:Int) == 58)=true:=eq8 (b:=58) c2
           by_cases c3:x2=32
           · have e3:((x2.toNat:Int) == 32)=true:=eq8 (b:=32) c3
             have HY:=Lib.hid (hyes.out c0 c1 c2 c3)
             clear hno hyes c0 c1 c2 c3
             cases hl:labB la with
             | false =>
               rw [hl] at HLk HY
               have HR:Hid (X=dfAt s.data.toList q1):=Lib.hid (by rw [HY.out];rfl)
               clear HY hl HDk
               go_wp2_with fail
               refine HLk.out.mono ?_
               rintro e w5 ⟨rfl,rfl⟩
               go_wp2_with fail
               go_round
               case rel=>exact ⟨q1,by have:=HQ.out;omega,by have:=HQ.out;omega,rfl,HR⟩
               case measure=>have:=HQ.out;simp [intOf] <;> omega
             | true =>
               rw [hl] at HLk HY
               clear hl
               cases hd:dsB lb with
               | false =>
                 rw [hd] at HDk HY
                 have HR:Hid (X=dfAt s.data.toList q1):=Lib.hid (by rw [HY.out];rfl)
                 clear HY hd
                 go_wp2_with fail
                 refine HLk.out.mono ?_
                 rintro e w5 ⟨rfl,rfl⟩
                 go_wp2_with fail
                 refine HDk.out.mono ?_
                 rintro e w6 ⟨rfl,rfl⟩
                 go_wp2_with fail
                 go_round
                 case rel=>exact ⟨q1,by have:=HQ.out;omega,by have:=HQ.out;omega,rfl,HR⟩
                 case measure=>have:=HQ.out;simp [intOf] <;> omega
               | true =>
                 rw [hd] at HDk HY
                 have HR:Hid (X=some (la,lb)):=Lib.hid (by rw [HY.out];rfl)
                 clear HY hd
                 go_wp2_with fail
                 refine HLk.out.mono ?_
                 rintro e w5 ⟨rfl,rfl⟩
                 go_wp2_with fail
                 refine HDk.out.mono ?_
                 rintro e w6 ⟨rfl,rfl⟩
                 go_wp2_with fail
                 go_quiet (fail)
                 go_wp2_with fail
                 go_ret3
                 exact ⟨by rw [HR.out,← HA.out,← HB.out];rfl,_,rfl⟩
           · have e3:((x2.toNat:Int) == 32)=false:=ne8 (b:=32) c3
             have HR:Hid (X=dfAt s.data.toList q1):=Lib.hid (hno.out (fun h=>c3 h.2.2.2))
             clear hno hyes HLk HDk hs1 hs2 c0 c1 c2 c3
             go_wp2_with fail
             go_round
             case rel=>exact ⟨q1,by have:=HQ.out;omega,by have:=HQ.out;omega,rfl,HR⟩
             case measure=>have:=HQ.out;simp [intOf] <;> omega
         · have e2:((x1.toNat:Int) == 58)=false:=ne8 (b:=58) c2
           have HR:Hid (X=dfAt s.data.toList q1):=Lib.hid (hno.out (fun h=>c2 h.2.2.1))
           clear hno hyes HLk HDk hs1 hs2 c0 c1 c2
           go_wp2_with fail
           go_round
           case rel=>exact ⟨q1,by have:=HQ.out;omega,by have:=HQ.out;omega,rfl,HR⟩
           case measure=>have:=HQ.out;simp [intOf] <;> omega
       · have e1:((xk.toNat:Int) == 93)=false:=ne8 (b:=93) c1
         have HR:Hid (X=dfAt s.data.toList q1):=Lib.hid (hno.out (fun h=>c1 h.2.1))
         clear hno hyes HLk HDk hs1 hs2 c0 c1
         go_wp2_with fail
         go_round
         case rel=>exact ⟨q1,by have:=HQ.out;omega,by have:=HQ.out;omega,rfl,HR⟩
         case measure=>have:=HQ.out;simp [intOf] <;> omega
     · have e0:((x0.toNat:Int) == 91)=false:=ne8 (b:=91) c0
       have HR:Hid (X=dfAt s.data.toList q1):=Lib.hid (hno.out (fun h=>c0 h.1))
       clear hno hyes HLk HDk hs1 hs2 c0
       go_wp2_with fail
       go_round
       case rel=>exact ⟨q1,by have:=HQ.out;omega,by have:=HQ.out;omega,rfl,HR⟩
       case measure=>have:=HQ.out;simp [intOf] <;> omega
   · have g3:¬ (q3:Int) < (s.size:Int):=by omega
     have HR:Hid (X=none):=Lib.hid (HN.out.trans (HEnd.out k (by omega)))
     clear HNo HYes HEnd HL HD HS1 HS2 HN hq1 hq2 hq3 hlt
     go_wp2_with fail
     go_ret3
     exact ⟨by rw [HR.out];rfl,0,rfl⟩
end Go.Proofs.YtihihgfcklkkhaaGreatDoor.Kd
namespace Go.Proofs.YtihihgfcklkkhaaGreatDoor.Kd
open Go.RowKit
open Go.Proofs.YtihihgfcklkkhaaGreatDoor.Tk (S S_of S_list S_size S_toList S_app ret_int eq8 ne8 at_data len_data)
open Go.Proofs.YtihihgfcklkkhaaGreatDoor.Bk (Tx define kindOf)
open Go.Proofs.YtihihgfcklkkhaaGreatDoor.Ln (run mx trim run_le rrun_any rlongest_any rtrim_any)
set_option linter.unusedVariables false
theorem lnS (l:Tx):Ln.S l=S l:=rfl
def kdB (t1 t2 t3 t4 t5 t6 t7:Bool):Nat:=if t1 then 1 else if t2 then 2 else if t3 then 3 else if t4 then 4 else if t5 then 5 else if t6 then 6 else if t7 then 7 else 8
def T2 (l:Tx):Bool:=decide ((1≤run 35 l∧run 35 l≤6)∧(l.length=run 35 l∨l[run 35 l]? = some 32))
def T3 (l:Tx):Bool:=decide (3≤run 45 l∧run 45 l=l.length)
def T4 (l:Tx):Bool:=decide (3≤run 96 l∧mx 96 (l.drop (run 96 l))=0)
def T6 (l:Tx):Bool:=decide (l=[45]∨l.take 2=[45,32])
theorem kd_eq (l:Tx):kindOf E0 l=kdB (decide (trim l=[])) (T2 l) (T3 l) (T4 l) (decide (l.head? = some 62)) (T6 l) (define E0 l).isSome:=by
 unfold kindOf kdB T2 T3 T4 T6
 simp only [decide_eq_true_eq]
theorem data_get (s:ByteArray) (i:Nat) (h:i < s.size):s.data.toList[i]? = some s[i]:=by
 rw [List.getElem?_eq_getElem (by rw [len_data];exact h),data_at s i h]
def NumD (w:World) (n:Int) (e:Ending) (w':World):Prop:=e = .returned (.int .i64 n)∧∃ q,w'=w.drewN q
set_option maxHeartbeats 6400000 in
set_option maxRecDepth 100000 in
theorem of_any (s:ByteArray) (hs:s.size≤140737488355328) (w:World) :
   Calls Tryz.prog 40 #[.string s] w (NumD w (kindOf E0 s.data.toList:Nat)):=by
 have HT:=Lib.hid (rtrim_any s (by omega) w)
 have H35:=Lib.hid (rrun_any s (by omega) 35 w)
 have H45:=Lib.hid (rrun_any s (by omega) 45 w)
 have H96:=Lib.hid (rrun_any s (by omega) 96 w)
 have HLo:=Lib.hid (fun k=>rlongest_any (s.extract k s.size) (by have:=ext_sz s k s.size;omega) 96 w)
 simp only [ext_end] at HLo
 have HDf:=Lib.hid (define_any s hs w)
 have HK:=Lib.hid (kd_eq s.data.toList)
 have l35:=run_le 35 s.data.toList
 have l45:=run_le 45 s.data.toList
 have l96:=run_le 96 s.data.toList
 rw [len_data] at l35 l45 l96
 have h2:Hid (T2 s.data.toList=decide ((1≤run 35 s.data.toList∧run 35 s.data.toList≤6)∧(s.size=run 35 s.data.toList∨s.data.toList[run 35 s.data.toList]? = some 32))):=Lib.hid (by unfold T2;rw [len_data])
 have h3:Hid (T3 s.data.toList=decide (3≤run 45 s.data.toList∧run 45 s.data.toList=s.size)):=Lib.hid (by unfold T3;rw [len_data])
 have h4:Hid (T4 s.data.toList=decide (3≤run 96 s.data.toList∧mx 96 (s.data.toList.drop (run 96 s.data.toList))=0)):=Lib.hid rfl
 have h5:Hid (∀ h:0 < s.size,decide (s.data.toList.head? = some 62)=decide (s[0]=62)):=Lib.hid (fun h=>by rw [List.head?_eq_getElem?,data_get s 0 h];simp)
 have h6:Hid (T6 s.data.toList=((s.toList == [45]) || ((S (s.data.toList.take 2)).toList == [45,32]))):=Lib.hid (by unfold T6;rw [Lib.toList_data,S_toList,Bool.eq_iff_iff];simp)
 have HG:=Lib.hid (fun i h=>data_get s i h)
 have ht1:((Ln.S (trim s.data.toList)).toList == ([]:List UInt8))=decide (trim s.data.toList=[]):=by rw [Ln.S_toList,Bool.eq_iff_iff];simp
 have hpos:trim s.data.toList≠[]→0 < s.size:=fun h=>by
   rcases Nat.eq_zero_or_pos s.size with h0 | h0
   · exact absurd (by rw [List.eq_nil_of_length_eq_zero (show s.data.toList.length=0 by rw [len_data];exact h0)];rfl) h
   · exact h0
 have HS2:=Lib.hid (fun (h:2≤s.size) w'=>slice_to s 2 h w')
 have hS2:s.extract 0 2=S (s.data.toList.take 2):=by rw [mid_S];rfl
 rw [hS2] at HS2
 have HS3:=Lib.hid (fun k (h:k≤s.size) w'=>slice_end s k h w')
 have HP2:Hid (s.size≤1→((S (s.data.toList.take 2)).toList == [45,32])=false):=Lib.hid (fun h=>by
   rw [S_toList,beq_eq_false_iff_ne]
   intro e
   have e2:=congrArg List.length e
   rw [List.length_take,len_data] at e2
   simp at e2
   omega)
 obtain ⟨K,hK⟩:∃ K,kindOf E0 s.data.toList=K:=⟨_,rfl⟩
 rw [hK] at HK ⊢
 clear hK hS2
 generalize Ln.S (trim s.data.toList)=st at *
 generalize decide (s.data.toList.head? = some 62)=t5 at *
 generalize define E0 s.data.toList=D at *
 generalize T2 s.data.toList=t2 at *
 generalize T3 s.data.toList=t3 at *
 generalize T4 s.data.toList=t4 at *
 generalize T6 s.data.toList=t6 at *
 generalize run 35 s.data.toList=n35 at *
 generalize run 45 s.data.toList=n45 at *
 generalize run 96 s.data.toList=n96 at *
 have HLo:=Lib.hid (HLo.out n96)
 generalize mx 96 (s.data.toList.drop n96)=m96 at *
 generalize S (s.data.toList.take 2)=s2 at *
 by_cases z1:trim s.data.toList=[]
 · rw [decide_eq_true z1] at ht1 HK
   clear hpos z1 H35 H45 H96 HLo HDf
   go_enter Tryz.func40,Tryz.ntmps40
   go_wp2_with fail
   refine HT.out.mono ?_
   rintro e w1 ⟨rfl,rfl⟩
   go_wp2_with fail
   go_ret
   exact ⟨by rw [HK.out];rfl,0,rfl⟩
 · have hp := hpos z1
   have h5':=Lib.hid (h5.out hp)
   rw [decide_eq_false z1] at ht1 HK
   have hpi:(0:Int) < (s.size:Int):=by omega
   clear hpos z1 h5
   obtain ⟨x0,hx0⟩:∃ x,s[0]=x:=⟨_,rfl⟩
   rw [hx0] at h5'
   go_enter Tryz.func40,Tryz.ntmps40
   go_wp2_with fail
   refine HT.out.mono ?_
   rintro e w1 ⟨rfl,rfl⟩
   clear HT
   go_wp2_with fail
   refine H35.out.mono ?_
   rintro e w1 ⟨rfl,rfl⟩
   clear H35
   go_upto_region 4 with fail
   go_cut [29] from 7 to 72 (fun c wx=>c = .bool t2∧w=wx)
   case first =>
     clear H45 H96 HLo HDf HK h3 h4 h5' h6 HS2 HS3 HP2
     by_cases a1:1≤n35
     · have g1a:decide ((n35:Int) ≥ 1)=true:=decide_eq_true (by omega)
       have g1b:decide ((1:Int)≤(n35:Int))=true:=decide_eq_true (by omega)
       have g1c:decide (1≤n35)=true:=decide_eq_true (by omega)
       have g1d:((1:Int)≤(n35:Int)):=by omega
       by_cases a2:n35≤6
       · have g2a:decide ((n35:Int)≤6)=true:=decide_eq_true (by omega)
         have g2c:decide (n35≤6)=true:=decide_eq_true (by omega)
         have g2d:((n35:Int)≤6):=by omega
         by_cases a3:s.size=n35
         · have e3:((s.size:Int) == (n35:Int))=true:=by rw [a3];simp
           have HR:Hid (t2=true):=Lib.hid (by rw [h2.out];exact decide_eq_true ⟨⟨a1,a2⟩,Or.inl a3⟩)
           clear a3 h2
           go_wp2_with fail
           go_meet
           exact ⟨by rw [HR.out],rfl⟩
         · have e3:((s.size:Int) == (n35:Int))=false:=by rw [beq_eq_false_iff_ne];omega
           have hn:n35 < s.size:=by omega
           have hni:(n35:Int) < (s.size:Int):=by omega
           have hg:=HG.out n35 hn
           by_cases a4:s[n35]=32
           · have e4:((s[n35].toNat:Int) == 32)=true:=eq8 (b:=32) a4
             have HR:Hid (t2=true):=Lib.hid (by rw [h2.out];exact decide_eq_true ⟨⟨a1,a2⟩,Or.inr (by rw [hg,a4])⟩)
             clear a4 a3 h2 hg
             go_wp2_with fail
             go_meet
             exact ⟨by rw [HR.out],rfl⟩
           · have e4:((s[n35].toNat:Int) == 32)=false:=ne8 (b:=32) a4
             have HR:Hid (t2=false):=Lib.hid (by rw [h2.out];exact decide_eq_false (fun h=>by
               rcases h.2 with h | h
               · exact a3 h
               · rw [hg] at h;exact a4 (Option.some.inj h)))
             clear a4 a3 h2 hg
             go_wp2_with fail
             go_meet
             exact ⟨by rw [HR.out],rfl⟩
       · have g2a:decide ((n35:Int)≤6)=false:=decide_eq_false (by omega)
         have g2c:decide (n35≤6)=false:=decide_eq_false (by omega)
         have g2d:¬ ((n35:Int)≤6):=by omega
         have HR:Hid (t2=false):=Lib.hid (by rw [h2.out];exact decide_eq_false (fun h=>a2 h.1.2))
         clear h2
         go_wp2_with fail
         go_meet
         exact ⟨by rw [HR.out],rfl⟩
     · have g1a:decide ((n35:Int) ≥ 1)=false:=decide_eq_false (by omega)
       have g1b:decide ((1:Int)≤(n35:Int))=false:=decide_eq_false (by omega)
       have g1c:decide (1≤n35)=false:=decide_eq_false (by omega)
       have g1d:¬ ((1:Int)≤(n35:Int)):=by omega
       have HR:Hid (t2=false):=Lib.hid (by rw [h2.out];exact decide_eq_false (fun h=>a1 h.1.1))
       clear h2
       go_wp2_with fail
       go_meet
       exact ⟨by rw [HR.out],rfl⟩
   case rest =>
     obtain ⟨rfl,rfl⟩:=hcut
     clear h2
     cases t2 with
     | true =>
       go_wp2_with fail
       go_ret
       exact ⟨by rw [HK.out];rfl,0,rfl⟩
     | false =>
       go_wp2_with fail
       refine H45.out.mono ?_
       rintro e w1 ⟨rfl,rfl⟩
       clear H45
       go_upto_region 7 with fail
       go_cut [39] from 7 to 72 (fun c wx=>c = .bool t3∧w=wx)
       case first =>
         clear H96 HLo HDf HK h4 h5' h6 HS2 HS3 HP2
         by_cases a1:3≤n45
         · have g1a:decide ((n45:Int) ≥ 3)=true:=decide_eq_true (by omega)
           have g1b:decide ((3:Int)≤(n45:Int))=true:=decide_eq_true (by omega)
           have g1c:decide (3≤n45)=true:=decide_eq_true (by omega)
           have g1d:((3:Int)≤(n45:Int)):=by omega
           by_cases a2:n45=s.size
           · have e2:((n45:Int) == (s.size:Int))=true:=by rw [a2];simp
             have HR:Hid (t3=true):=Lib.hid (by rw [h3.out];exact decide_eq_true ⟨a1,a2⟩)
             clear a2 h3
             go_wp2_with fail
             go_meet
             exact ⟨by rw [HR.out],rfl⟩
           · have e2:((n45:Int) == (s.size:Int))=false:=by rw [beq_eq_false_iff_ne];omega
             have HR:Hid (t3=false):=Lib.hid (by rw [h3.out];exact decide_eq_false (fun h=>a2 h.2))
             clear a2 h3
             go_wp2_with fail
             go_meet
             exact ⟨by rw [HR.out],rfl⟩
         · have g1a:decide ((n45:Int) ≥ 3)=false:=decide_eq_false (by omega)
           have g1b:decide ((3:Int)≤(n45:Int))=false:=decide_eq_false (by omega)
           have g1c:decide (3≤n45)=false:=decide_eq_false (by omega)
           have g1d:¬ ((3:Int)≤(n45:Int)):=by omega
           have HR:Hid (t3=false):=Lib.hid (by rw [h3.out];exact decide_eq_false (fun h=>a1 h.1))
           clear h3
           go_wp2_with fail
           go_meet
           exact ⟨by rw [HR.out],rfl⟩
       case rest =>
         obtain ⟨rfl,rfl⟩:=hcut
         clear h3
         cases t3 with
         | true =>
           go_wp2_with fail
           go_ret
           exact ⟨by rw [HK.out];rfl,0,rfl⟩
         | false =>
           go_wp2_with fail
           refine H96.out.mono ?_
           rintro e w1 ⟨rfl,rfl⟩
           clear H96
           go_upto_region 10 with fail
           go_cut [50] from 7 to 72 (fun c wx=>c = .bool t4∧w=wx)
           case first =>
             clear HDf HK h5' h6 HS2 HP2
             by_cases a1:3≤n96
             · have g1a:decide ((n96:Int) ≥ 3)=true:=decide_eq_true (by omega)
               have g1b:decide ((3:Int)≤(n96:Int))=true:=decide_eq_true (by omega)
               have g1c:decide (3≤n96)=true:=decide_eq_true (by omega)
               have g1d:((3:Int)≤(n96:Int)):=by omega
               have hsl:=HS3.out n96 l96
               clear HS3
               generalize s.extract n96 s.size=sx at *
               by_cases a2:m96=0
               · have e2:((m96:Int) == 0)=true:=by rw [a2];rfl
                 have HR:Hid (t4=true):=Lib.hid (by rw [h4.out];exact decide_eq_true ⟨a1,a2⟩)
                 clear a2 h4
                 go_wp2_with fail
                 refine HLo.out.mono ?_
                 rintro e w1 ⟨rfl,rfl⟩
                 go_wp2_with fail
                 go_meet
                 exact ⟨by rw [HR.out],rfl⟩
               · have e2:((m96:Int) == 0)=false:=by rw [beq_eq_false_iff_ne];omega
                 have HR:Hid (t4=false):=Lib.hid (by rw [h4.out];exact decide_eq_false (fun h=>a2 h.2))
                 clear a2 h4
                 go_wp2_with fail
                 refine HLo.out.mono ?_
                 rintro e w1 ⟨rfl,rfl⟩
                 go_wp2_with fail
                 go_meet
                 exact ⟨by rw [HR.out],rfl⟩
             · have g1a:decide ((n96:Int) ≥ 3)=false:=decide_eq_false (by omega)
               have g1b:decide ((3:Int)≤(n96:Int))=false:=decide_eq_false (by omega)
               have g1c:decide (3≤n96)=false:=decide_eq_false (by omega)
               have g1d:¬ ((3:Int)≤(n96:Int)):=by omega
               have HR:Hid (t4=false):=Lib.hid (by rw [h4.out];exact decide_eq_false (fun h=>a1 h.1))
               clear h4 HS3 HLo
               go_wp2_with fail
               go_meet
               exact ⟨by rw [HR.out],rfl⟩
           case rest =>
             obtain ⟨rfl,rfl⟩:=hcut
             clear h4 HLo HS3
             cases t4 with
             | true =>
               go_wp2_with fail
               go_ret
               exact ⟨by rw [HK.out];rfl,0,rfl⟩
             | false =>
               by_cases x62:x0=62
               · have e5:((x0.toNat:Int) == 62)=true:=eq8 (b:=62) x62
                 have HR:Hid (K=5):=Lib.hid (by rw [HK.out,h5'.out,decide_eq_true x62];rfl)
                 clear x62 h5' HDf HS2 HP2
                 go_wp2_with fail
                 go_ret
                 exact ⟨by rw [HR.out];rfl,0,rfl⟩
               · have e5:((x0.toNat:Int) == 62)=false:=ne8 (b:=62) x62
                 rw [h5'.out,decide_eq_false x62] at HK
                 clear x62 h5'
                 go_upto_region 14 with fail
                 go_cut [65] from 7 to 72 (fun c wx=>c = .bool t6∧w=wx)
                 case first =>
                   clear HDf HK
                   obtain ⟨q1,hq1⟩:∃ b,(s.toList == [45])=b:=⟨_,rfl⟩
                   obtain ⟨q2,hq2⟩:∃ b,(s2.toList == [45,32])=b:=⟨_,rfl⟩
                   rw [hq1,hq2] at h6
                   rw [hq2] at HP2
                   cases q1 with
                   | true =>
                     go_wp2_with fail
                     go_meet
                     exact ⟨by rw [h6.out];rfl,rfl⟩
                   | false =>
                     by_cases a1:1 < s.size
                     · have g1a:decide ((s.size:Int) > 1)=true:=decide_eq_true (by omega)
                       have g1b:decide ((1:Int) < (s.size:Int))=true:=decide_eq_true (by omega)
                       have g1c:decide (1 < s.size)=true:=decide_eq_true (by omega)
                       have g1d:((1:Int) < (s.size:Int)):=by omega
                       have hsl:=HS2.out (by omega)
                       have h2':((2:Nat):Int)=2:=rfl
                       rw [h2'] at hsl
                       go_wp2_with fail
                       go_meet
                       exact ⟨by rw [h6.out];rfl,rfl⟩
                     · have g1a:decide ((s.size:Int) > 1)=false:=decide_eq_false (by omega)
                       have g1b:decide ((1:Int) < (s.size:Int))=false:=decide_eq_false (by omega)
                       have g1c:decide (1 < s.size)=false:=decide_eq_false (by omega)
                       have g1d:¬ ((1:Int) < (s.size:Int)):=by omega
                       have HR:Hid (t6=false):=Lib.hid (by rw [h6.out,HP2.out (by omega)];rfl)
                       go_wp2_with fail
                       go_meet
                       exact ⟨by rw [HR.out],rfl⟩
                 case rest =>
                   obtain ⟨rfl,rfl⟩:=hcut
                   clear h6 HS2 HP2
                   cases t6 with
                   | true =>
                     go_wp2_with fail
                     go_ret
                     exact ⟨by rw [HK.out];rfl,0,rfl⟩
                   | false =>
                     go_wp2_with fail
                     refine HDf.out.mono ?_
                     rintro e w1 ⟨rfl,nq,hnq⟩
                     have HW:=Lib.hid hnq
                     clear HDf hnq
                     have HR:Hid (K=if D.isSome then 7 else 8):=Lib.hid (by rw [HK.out];rfl)
                     unfold dfV
                     generalize S (D.getD ([],[])).1=sa at *
                     generalize S (D.getD ([],[])).2=sb at *
                     clear HK
                     generalize D.isSome=dk at *
                     cases dk with
                     | true =>
                       go_wp2_with fail
                       go_ret
                       exact ⟨by rw [HR.out];rfl,nq,HW.out⟩
                     | false =>
                       go_wp2_with fail
                       go_ret
                       exact ⟨by rw [HR.out];rfl,nq,HW.out⟩
end Go.Proofs.YtihihgfcklkkhaaGreatDoor.Kd
namespace Go.Proofs.YtihihgfcklkkhaaGreatDoor.Kd
open Go.RowKit
open Go.Proofs.YtihihgfcklkkhaaGreatDoor.Tk (S S_of S_list S_size S_toList S_app ret_int eq8 ne8 at_data len_data Rd)
open Go.Proofs.YtihihgfcklkkhaaGreatDoor.Sp (Sp Tr ret_bool)
open Go.Proofs.YtihihgfcklkkhaaGreatDoor.Bt (TrB)
open Go.Proofs.YtihihgfcklkkhaaGreatDoor.Cm (alloc_new alloc_at cell_at frozen_at set_at lt_of_at)
open Go.Proofs.YtihihgfcklkkhaaGreatDoor.Bk (Tx Bk define kindOf inner unquote)
open Go.Proofs.YtihihgfcklkkhaaGreatDoor.Ln (run mx trim run_le rrun_any rlongest_any rtrim_any)
set_option linter.unusedVariables false
def hdN (l:Tx):Nat:=if kindOf E0 l=2 then run 35 l else 0
def hdT (l:Tx):Tx:=if kindOf E0 l=2 then trim (l.drop (run 35 l)) else []
def opN (l:Tx):Nat:=if kindOf E0 l=4 then run 96 l else 0
def opT (l:Tx):Tx:=if kindOf E0 l=4 then trim (l.drop (run 96 l)) else []
def clB (l:Tx) (n:Int):Bool:=decide (0 < l.length) && decide (n≤(l.length:Int)) && decide (run 96 l=l.length)
def uqT (l:Tx):Tx:=if kindOf E0 l=5 then unquote l else []
def uiT (l:Tx):Tx:=if kindOf E0 l=6 then l.drop 2 else []
def dfB (l:Tx):Bk:=if kindOf E0 l=7 then (match define E0 l with | some (a,d)=>.mk 8 0 a [d] [] [] | none=>.mk 0 0 [] [] [] []) else .mk 0 0 [] [] [] []
def LevAns (w:World) (n:Nat) (t:Tx) (e:Ending) (w':World):Prop:=e = .returned (.tuple #[.int .i64 (n:Nat),.string (S t)])∧∃ q,w'=w.drewN q
def StrD (w:World) (t:Tx) (e:Ending) (w':World):Prop:=e = .returned (.string (S t))∧∃ q,w'=w.drewN q
def BlkAns (w:World) (b:Bk) (e:Ending) (w':World):Prop:=∃ vl vs ao cap,e = .returned (.agg #[.int .i64 b.kind,.int .i64 b.level,.string (S b.info),vl,vs,.slice ao b.kids.length cap])∧Below w.heap.size w w'∧Rd w' vl b.lines∧b.lines.length≤9223372036854775807∧Tr w' vs b.spans∧TrB w' (.slice ao b.kids.length cap) b.kids
theorem nilRd (w:World):Rd w (.slice none 0 0) []:=⟨none,0,rfl,Nat.le_refl _,Or.inl rfl⟩
theorem nilTr (w:World):Tr w (.slice none 0 0) []:=⟨none,0,rfl,⟨Nat.le_refl _,by omega⟩,Or.inl rfl⟩
theorem nilTrB (w:World):TrB w (.slice none 0 0) []:=⟨none,0,rfl,⟨Nat.le_refl _,by omega⟩,Or.inl rfl⟩
set_option maxHeartbeats 1600000 in
theorem head_any (s:ByteArray) (hs:s.size≤140737488355328) (w:World) :
   Calls Tryz.prog 64 #[.string s] w (LevAns w (hdN s.data.toList) (hdT s.data.toList)):=by
 have HO:=Lib.hid (of_any s hs w)
 have HR:=Lib.hid (fun w'=>rrun_any s (by omega) 35 w')
 have l0:=run_le 35 s.data.toList
 rw [len_data] at l0
 have HT:=Lib.hid (fun k w'=>rtrim_any (s.extract k s.size) (by have:=ext_sz s k s.size;omega) w')
 simp only [ext_end,lnS] at HT
 have HS:=Lib.hid (fun k (h:k≤s.size) w'=>slice_end s k h w')
 have hN:Hid (hdN s.data.toList=if kindOf E0 s.data.toList=2 then run 35 s.data.toList else 0):=Lib.hid rfl
 have hT:Hid (hdT s.data.toList=if kindOf E0 s.data.toList=2 then trim (s.data.toList.drop (run 35 s.data.toList)) else []):=Lib.hid rfl
 generalize hdN s.data.toList=rn at *
 generalize hdT s.data.toList=rt at *
 generalize kindOf E0 s.data.toList=K at *
 by_cases hk:K=2
 · have e1:((K:Int) != 2)=false:=by rw [hk];rfl
   rw [if_pos hk] at hN hT
   have HTk:=Lib.hid (HT.out (run 35 s.data.toList))
   have hsl:=HS.out _ l0
   clear hk HT HS
   generalize trim (s.data.toList.drop (run 35 s.data.toList))=tt at *
   generalize run 35 s.data.toList=n at *
   generalize s.extract n s.size=sx at *
   go_enter Tryz.func64,Tryz.ntmps64
   go_wp2_with fail
   refine HO.out.mono ?_
   rintro e w1 ⟨rfl,q1,hq1⟩
   have HW:=Lib.hid hq1
   clear HO hq1
   go_wp2_with fail
   refine (HR.out _).mono ?_
   rintro e w2 ⟨rfl,rfl⟩
   go_wp2_with fail
   refine (HTk.out _).mono ?_
   rintro e w2 ⟨rfl,rfl⟩
   go_wp2_with fail
   go_ret2
   exact ⟨by rw [hN.out,hT.out];rfl,q1,HW.out⟩
 · have e1:((K:Int) != 2)=true:=by rw [bne_iff_ne];omega
   rw [if_neg hk] at hN hT
   clear hk HT HS HR
   go_enter Tryz.func64,Tryz.ntmps64
   go_wp2_with fail
   refine HO.out.mono ?_
   rintro e w1 ⟨rfl,q1,hq1⟩
   have HW:=Lib.hid hq1
   clear HO hq1
   go_wp2_with fail
   go_ret2
   exact ⟨by rw [hN.out,hT.out];rfl,q1,HW.out⟩
set_option maxHeartbeats 1600000 in
theorem open_any (s:ByteArray) (hs:s.size≤140737488355328) (w:World) :
   Calls Tryz.prog 66 #[.string s] w (LevAns w (opN s.data.toList) (opT s.data.toList)):=by
 have HO:=Lib.hid (of_any s hs w)
 have HR:=Lib.hid (fun w'=>rrun_any s (by omega) 96 w')
 have l0:=run_le 96 s.data.toList
 rw [len_data] at l0
 have HT:=Lib.hid (fun k w'=>rtrim_any (s.extract k s.size) (by have:=ext_sz s k s.size;omega) w')
 simp only [ext_end,lnS] at HT
 have HS:=Lib.hid (fun k (h:k≤s.size) w'=>slice_end s k h w')
 have hN:Hid (opN s.data.toList=if kindOf E0 s.data.toList=4 then run 96 s.data.toList else 0):=Lib.hid rfl
 have hT:Hid (opT s.data.toList=if kindOf E0 s.data.toList=4 then trim (s.data.toList.drop (run 96 s.data.toList)) else []):=Lib.hid rfl
 generalize opN s.data.toList=rn at *
 generalize opT s.data.toList=rt at *
 generalize kindOf E0 s.data.toList=K at *
 by_cases hk:K=4
 · have e1:((K:Int) != 4)=false:=by rw [hk];rfl
   rw [if_pos hk] at hN hT
   have HTk:=Lib.hid (HT.out (run 96 s.data.toList))
   have hsl:=HS.out _ l0
   clear hk HT HS
   generalize trim (s.data.toList.drop (run 96 s.data.toList))=tt at *
   generalize run 96 s.data.toList=n at *
   generalize s.extract n s.size=sx at *
   go_enter Tryz.func66,Tryz.ntmps66
   go_wp2_with fail
   refine HO.out.mono ?_
   rintro e w1 ⟨rfl,q1,hq1⟩
   have HW:=Lib.hid hq1
   clear HO hq1
   go_wp2_with fail
   refine (HR.out _).mono ?_
   rintro e w2 ⟨rfl,rfl⟩
   go_wp2_with fail
   refine (HTk.out _).mono ?_
   rintro e w2 ⟨rfl,rfl⟩
   go_wp2_with fail
   go_ret2
   exact ⟨by rw [hN.out,hT.out];rfl,q1,HW.out⟩
 · have e1:((K:Int) != 4)=true:=by rw [bne_iff_ne];omega
   rw [if_neg hk] at hN hT
   clear hk HT HS HR
   go_enter Tryz.func66,Tryz.ntmps66
   go_wp2_with fail
   refine HO.out.mono ?_
   rintro e w1 ⟨rfl,q1,hq1⟩
   have HW:=Lib.hid hq1
   clear HO hq1
   go_wp2_with fail
   go_ret2
   exact ⟨by rw [hN.out,hT.out];rfl,q1,HW.out⟩
theorem closes_any (s:ByteArray) (n:Int) (hs:s.size≤140737488355328) (w:World) :
   Calls Tryz.prog 104 #[.string s,.int .i64 n] w fun e w'=>e = .returned (.bool (clB s.data.toList n))∧w=w':=by
 have HR:=Lib.hid (rrun_any s (by omega) 96 w)
 have HX:Hid (clB s.data.toList n=(decide (0 < s.size) && decide (n≤(s.size:Int)) && decide (run 96 s.data.toList=s.size))):=Lib.hid (by unfold clB;rw [len_data])
 generalize clB s.data.toList n=X at *
 generalize run 96 s.data.toList=r at *
 by_cases h0:0 < s.size
 · have g1a:decide ((s.size:Int) > 0)=true:=decide_eq_true (by omega)
   have g1b:decide ((0:Int) < (s.size:Int))=true:=decide_eq_true (by omega)
   have g1c:decide (0 < s.size)=true:=decide_eq_true h0
   rw [decide_eq_true h0] at HX
   by_cases h1:n≤(s.size:Int)
   · have g2a:decide ((s.size:Int) ≥ n)=true:=decide_eq_true h1
     have g2b:decide (n≤(s.size:Int))=true:=decide_eq_true h1
     rw [decide_eq_true h1] at HX
     obtain ⟨y,hy⟩:∃ y,decide (r=s.size)=y:=⟨_,rfl⟩
     rw [hy] at HX
     have g3:((r:Int) == (s.size:Int))=y:=by rw [← hy,Bool.eq_iff_iff];simp;omega
     clear hy
     go_enter Tryz.func104,Tryz.ntmps104
     go_wp2_with fail
     refine HR.out.mono ?_
     rintro e w2 ⟨rfl,rfl⟩
     go_wp2_with fail
     go_ret
     exact ⟨by rw [HX.out];rfl,rfl⟩
   · have g2a:decide ((s.size:Int) ≥ n)=false:=decide_eq_false h1
     have g2b:decide (n≤(s.size:Int))=false:=decide_eq_false h1
     rw [decide_eq_false h1] at HX
     go_enter Tryz.func104,Tryz.ntmps104
     go_wp2_with fail
     go_ret
     exact ⟨by rw [HX.out];rfl,rfl⟩
 · have g1a:decide ((s.size:Int) > 0)=false:=decide_eq_false (by omega)
   have g1b:decide ((0:Int) < (s.size:Int))=false:=decide_eq_false (by omega)
   have g1c:decide (0 < s.size)=false:=decide_eq_false h0
   rw [decide_eq_false h0] at HX
   go_enter Tryz.func104,Tryz.ntmps104
   go_wp2_with fail
   go_ret
   exact ⟨by rw [HX.out];rfl,rfl⟩
theorem uqT_eq (l:Tx):uqT l=if kindOf E0 l=5 then (if l[1]? = some 32 then l.drop 2 else l.drop 1) else []:=rfl
set_option maxHeartbeats 1600000 in
theorem unquote_any (s:ByteArray) (hs:s.size≤140737488355328) (w:World) :
   Calls Tryz.prog 69 #[.string s] w (StrD w (uqT s.data.toList)):=by
 have HO:=Lib.hid (of_any s hs w)
 have HX:=Lib.hid (uqT_eq s.data.toList)
 have hk0:kindOf E0 s.data.toList=5→1≤s.size:=fun h=>by
   rcases Nat.eq_zero_or_pos s.size with h0 | h0
   · rw [List.eq_nil_of_length_eq_zero (show s.data.toList.length=0 by rw [len_data];exact h0)] at h
     cases h
   · exact h0
 have HG:=Lib.hid (fun i h=>data_get s i h)
 have HGn:Hid (s.size≤1→s.data.toList[1]? = none):=Lib.hid (fun h=>List.getElem?_eq_none (by rw [len_data];exact h))
 have hS1:=Lib.hid (fun (h:1≤s.size) w'=>slice_end s 1 h w')
 have hS2:=Lib.hid (fun (h:2≤s.size) w'=>slice_end s 2 h w')
 simp only [end_S] at hS1 hS2
 generalize uqT s.data.toList=rt at *
 generalize kindOf E0 s.data.toList=K at *
 by_cases hk:K=5
 · have e1:((K:Int) != 5)=false:=by rw [hk];rfl
   have h1:=hk0 hk
   rw [if_pos hk] at HX
   have hsl1:=hS1.out h1
   have hone:((1:Nat):Int)=1:=rfl
   have htwo:((2:Nat):Int)=2:=rfl
   rw [hone] at hsl1
   clear hk hk0 hS1
   by_cases h2:1 < s.size
   · have hsl2:=hS2.out h2
     rw [htwo] at hsl2
     have hg:=HG.out 1 h2
     clear HG HGn hS2 hone htwo
     have g1a:decide ((s.size:Int) > 1)=true:=decide_eq_true (by omega)
     have g1b:decide ((1:Int) < (s.size:Int))=true:=decide_eq_true (by omega)
     have g1c:decide (1 < s.size)=true:=decide_eq_true (by omega)
     have g1d:((1:Int) < (s.size:Int)):=by omega
     obtain ⟨x1,hx1⟩:∃ x,s[1]=x:=⟨_,rfl⟩
     rw [hx1] at hg
     by_cases x32:x1=32
     · have e2:((x1.toNat:Int) == 32)=true:=eq8 (b:=32) x32
       have HR:Hid (rt=s.data.toList.drop 2):=Lib.hid (by rw [HX.out,if_pos (by rw [hg,x32])])
       clear x32 HX hg
       generalize s.data.toList.drop 2=d2 at *
       generalize s.data.toList.drop 1=d1 at *
       go_enter Tryz.func69,Tryz.ntmps69
       go_wp2_with fail
       refine HO.out.mono ?_
       rintro e w1 ⟨rfl,q1,hq1⟩
       have HW:=Lib.hid hq1
       clear HO hq1
       go_wp2_with fail
       go_ret
       exact ⟨by rw [HR.out];rfl,q1,HW.out⟩
     · have e2:((x1.toNat:Int) == 32)=false:=ne8 (b:=32) x32
       have HR:Hid (rt=s.data.toList.drop 1):=Lib.hid (by rw [HX.out,if_neg (by rw [hg];exact fun h=>x32 (Option.some.inj h))])
       clear x32 HX hg
       generalize s.data.toList.drop 2=d2 at *
       generalize s.data.toList.drop 1=d1 at *
       go_enter Tryz.func69,Tryz.ntmps69
       go_wp2_with fail
       refine HO.out.mono ?_
       rintro e w1 ⟨rfl,q1,hq1⟩
       have HW:=Lib.hid hq1
       clear HO hq1
       go_wp2_with fail
       go_ret
       exact ⟨by rw [HR.out];rfl,q1,HW.out⟩
   · have HR:Hid (rt=s.data.toList.drop 1):=Lib.hid (by rw [HX.out,if_neg (by rw [HGn.out (by omega)];simp)])
     clear HX HG HGn hS2 hone htwo
     have g1a:decide ((s.size:Int) > 1)=false:=decide_eq_false (by omega)
     have g1b:decide ((1:Int) < (s.size:Int))=false:=decide_eq_false (by omega)
     have g1c:decide (1 < s.size)=false:=decide_eq_false (by omega)
     have g1d:¬ ((1:Int) < (s.size:Int)):=by omega
     generalize s.data.toList.drop 1=d1 at *
     go_enter Tryz.func69,Tryz.ntmps69
     go_wp2_with fail
     refine HO.out.mono ?_
     rintro e w1 ⟨rfl,q1,hq1⟩
     have HW:=Lib.hid hq1
     clear HO hq1
     go_wp2_with fail
     go_ret
     exact ⟨by rw [HR.out];rfl,q1,HW.out⟩
 · have e1:((K:Int) != 5)=true:=by rw [bne_iff_ne];omega
   rw [if_neg hk] at HX
   clear hk hk0 hS1 hS2 HG HGn
   go_enter Tryz.func69,Tryz.ntmps69
   go_wp2_with fail
   refine HO.out.mono ?_
   rintro e w1 ⟨rfl,q1,hq1⟩
   have HW:=Lib.hid hq1
   clear HO hq1
   go_wp2_with fail
   go_ret
   exact ⟨by rw [HX.out];rfl,q1,HW.out⟩
set_option maxHeartbeats 1600000 in
theorem unitem_any (s:ByteArray) (hs:s.size≤140737488355328) (w:World) :
   Calls Tryz.prog 135 #[.string s] w (StrD w (uiT s.data.toList)):=by
 have HO:=Lib.hid (of_any s hs w)
 have HX:Hid (uiT s.data.toList=if kindOf E0 s.data.toList=6 then s.data.toList.drop 2 else []):=Lib.hid rfl
 have HD:Hid (s.size < 2→s.data.toList.drop 2=[]):=Lib.hid (fun h=>List.drop_eq_nil_of_le (by rw [len_data];omega))
 have hS2:=Lib.hid (fun (h:2≤s.size) w'=>slice_end s 2 h w')
 simp only [end_S] at hS2
 generalize uiT s.data.toList=rt at *
 generalize kindOf E0 s.data.toList=K at *
 generalize s.data.toList.drop 2=d2 at *
 by_cases hk:K=6
 · have e1:((K:Int) != 6)=false:=by rw [hk];rfl
   rw [if_pos hk] at HX
   clear hk
   by_cases h2:s.size < 2
   · have g1:decide ((s.size:Int) < 2)=true:=decide_eq_true (by omega)
     have g2:decide (s.size < 2)=true:=decide_eq_true h2
     have g3:(s.size:Int) < 2:=by omega
     have HR:Hid (rt=[]):=Lib.hid (by rw [HX.out,HD.out h2])
     clear HX HD hS2 h2
     go_enter Tryz.func135,Tryz.ntmps135
     go_wp2_with fail
     refine HO.out.mono ?_
     rintro e w1 ⟨rfl,q1,hq1⟩
     have HW:=Lib.hid hq1
     clear HO hq1
     go_wp2_with fail
     go_ret
     exact ⟨by rw [HR.out];rfl,q1,HW.out⟩
   · have g1:decide ((s.size:Int) < 2)=false:=decide_eq_false (by omega)
     have g2:decide (s.size < 2)=false:=decide_eq_false h2
     have g3:¬ (s.size:Int) < 2:=by omega
     have hsl2:=hS2.out (by omega)
     have htwo:((2:Nat):Int)=2:=rfl
     rw [htwo] at hsl2
     clear hS2 HD htwo
     go_enter Tryz.func135,Tryz.ntmps135
     go_wp2_with fail
     refine HO.out.mono ?_
     rintro e w1 ⟨rfl,q1,hq1⟩
     have HW:=Lib.hid hq1
     clear HO hq1
     go_wp2_with fail
     go_ret
     exact ⟨by rw [HX.out];rfl,q1,HW.out⟩
 · have e1:((K:Int) != 6)=true:=by rw [bne_iff_ne];omega
   rw [if_neg hk] at HX
   clear hk hS2 HD
   go_enter Tryz.func135,Tryz.ntmps135
   go_wp2_with fail
   refine HO.out.mono ?_
   rintro e w1 ⟨rfl,q1,hq1⟩
   have HW:=Lib.hid hq1
   clear HO hq1
   go_wp2_with fail
   go_ret
   exact ⟨by rw [HX.out];rfl,q1,HW.out⟩
def inV (o:Option Tx):Value:=.tuple #[.string (S (o.getD [])),.bool o.isSome]
set_option maxHeartbeats 1600000 in
theorem inner_any (s:ByteArray) (hs:s.size≤140737488355328) (w:World) :
   Calls Tryz.prog 136 #[.string s] w fun e w'=>e = .returned (inV (inner s.data.toList))∧w=w':=by
 have HT:=Lib.hid (rtrim_any s (by omega) w)
 have HX:Hid (inner s.data.toList=if s.data.toList.take 2=[32,32] then some (s.data.toList.drop 2) else if trim s.data.toList=[] then some [] else none):=Lib.hid rfl
 have ht1:((Ln.S (trim s.data.toList)).toList == ([]:List UInt8))=decide (trim s.data.toList=[]):=by rw [Ln.S_toList,Bool.eq_iff_iff];simp
 have hs2:((S (s.data.toList.take 2)).toList == [32,32])=decide (s.data.toList.take 2=[32,32]):=by rw [S_toList,Bool.eq_iff_iff];simp
 have HP2:Hid (s.size≤1→s.data.toList.take 2≠[32,32]):=Lib.hid (fun h e=>by
   have e2:=congrArg List.length e
   rw [List.length_take,len_data] at e2
   simp at e2
   omega)
 have hA:=Lib.hid (fun (h:2≤s.size) w'=>slice_to s 2 h w')
 have hS2:s.extract 0 2=S (s.data.toList.take 2):=by rw [mid_S];rfl
 rw [hS2] at hA
 have hB:=Lib.hid (fun (h:2≤s.size) w'=>slice_end s 2 h w')
 simp only [end_S] at hB
 clear hS2
 obtain ⟨X,hX⟩:∃ X,inner s.data.toList=X:=⟨_,rfl⟩
 rw [hX] at HX ⊢
 clear hX
 generalize Ln.S (trim s.data.toList)=st at *
 generalize S (s.data.toList.take 2)=s2 at *
 generalize s.data.toList.drop 2=d2 at *
 by_cases h2:s.data.toList.take 2=[32,32]
 · have h1:1 < s.size:=by
     rcases Nat.lt_or_ge 1 s.size with h | h
     · exact h
     · exact absurd h2 (HP2.out h)
   rw [if_pos h2] at HX
   rw [decide_eq_true h2] at hs2
   have hsa:=hA.out h1
   have hsb:=hB.out h1
   have htwo:((2:Nat):Int)=2:=rfl
   rw [htwo] at hsa hsb
   clear h2 HP2 hA hB HT htwo
   have g1a:decide ((s.size:Int) > 1)=true:=decide_eq_true (by omega)
   have g1b:decide ((1:Int) < (s.size:Int))=true:=decide_eq_true (by omega)
   have g1c:decide (1 < s.size)=true:=decide_eq_true (by omega)
   have g1d:((1:Int) < (s.size:Int)):=by omega
   go_enter Tryz.func136,Tryz.ntmps136
   go_wp2_with fail
   go_ret2
   exact ⟨by rw [HX.out];rfl,rfl⟩
 · rw [if_neg h2] at HX
   rw [decide_eq_false h2] at hs2
   have HR:Hid (inV X = .tuple #[.string ⟨#[]⟩,.bool (decide (trim s.data.toList=[]))]):=Lib.hid (by
     rw [HX.out]
     by_cases h:trim s.data.toList=[]
     · rw [if_pos h,decide_eq_true h];rfl
     · rw [if_neg h,decide_eq_false h];rfl)
   clear h2 HP2 hB HX
   generalize decide (trim s.data.toList=[])=y at *
   by_cases h1:1 < s.size
   · have hsa:=hA.out h1
     have htwo:((2:Nat):Int)=2:=rfl
     rw [htwo] at hsa
     clear hA htwo
     have g1a:decide ((s.size:Int) > 1)=true:=decide_eq_true (by omega)
     have g1b:decide ((1:Int) < (s.size:Int))=true:=decide_eq_true (by omega)
     have g1c:decide (1 < s.size)=true:=decide_eq_true (by omega)
     have g1d:((1:Int) < (s.size:Int)):=by omega
     go_enter Tryz.func136,Tryz.ntmps136
     go_wp2_with fail
     refine HT.out.mono ?_
     rintro e w1 ⟨rfl,rfl⟩
     go_wp2_with fail
     go_ret2
     exact ⟨by rw [HR.out];rfl,rfl⟩
   · clear hA
     have g1a:decide ((s.size:Int) > 1)=false:=decide_eq_false (by omega)
     have g1b:decide ((1:Int) < (s.size:Int))=false:=decide_eq_false (by omega)
     have g1c:decide (1 < s.size)=false:=decide_eq_false (by omega)
     have g1d:¬ ((1:Int) < (s.size:Int)):=by omega
     go_enter Tryz.func136,Tryz.ntmps136
     go_wp2_with fail
     refine HT.out.mono ?_
     rintro e w1 ⟨rfl,rfl⟩
     go_wp2_with fail
     go_ret2
     exact ⟨by rw [HR.out];rfl,rfl⟩
theorem set6 {w:World} {b:Nat} {v0 v1 v2 v3 v4 v5 u0 u1 u2 u3 u4 u5:Value} {T:TypeId} {fr:Nat × Nat} (h:w.heap[b]? = some (Obj.cells #[v0,v1,v2,v3,v4,v5] T fr)) :
   ((((((w.setCell ⟨b,0,none⟩ u0).setCell ⟨b,1,none⟩ u1).setCell ⟨b,2,none⟩ u2).setCell ⟨b,3,none⟩ u3).setCell ⟨b,4,none⟩ u4).setCell ⟨b,5,none⟩ u5).heap[b]? = some (Obj.cells #[u0,u1,u2,u3,u4,u5] T fr) :=
 set_at (set_at (set_at (set_at (set_at (set_at h 0 u0) 1 u1) 2 u2) 3 u3) 4 u4) 5 u5
theorem set6_other {w:World} {b k:Nat} (hne:k≠b) (u0 u1 u2 u3 u4 u5:Value) :
   ((((((w.setCell ⟨b,0,none⟩ u0).setCell ⟨b,1,none⟩ u1).setCell ⟨b,2,none⟩ u2).setCell ⟨b,3,none⟩ u3).setCell ⟨b,4,none⟩ u4).setCell ⟨b,5,none⟩ u5).heap[k]? = w.heap[k]?:=by
 have h:∀ (w:World) (i:Nat) (v:Value),(w.setCell ⟨b,i,none⟩ v).heap[k]? = w.heap[k]?:=fun w i v=>Below.heap_setCell _ _ _ _ hne
 rw [h,h,h,h,h,h]
theorem set6_below {w0 w:World} {B b:Nat} (h:Below B w0 w) (hb:B≤b) (u0 u1 u2 u3 u4 u5:Value) :
   Below B w0 ((((((w.setCell ⟨b,0,none⟩ u0).setCell ⟨b,1,none⟩ u1).setCell ⟨b,2,none⟩ u2).setCell ⟨b,3,none⟩ u3).setCell ⟨b,4,none⟩ u4).setCell ⟨b,5,none⟩ u5) :=
 (((((h.setCell (p:=⟨b,0,none⟩) hb u0).setCell (p:=⟨b,1,none⟩) hb u1).setCell (p:=⟨b,2,none⟩) hb u2).setCell (p:=⟨b,3,none⟩) hb u3).setCell (p:=⟨b,4,none⟩) hb u4).setCell (p:=⟨b,5,none⟩) hb u5
theorem blk_zero {w w5:World} {X:Bk} (HB:Below w.heap.size w w5) (HR:X = .mk 0 0 [] [] [] []) :
   BlkAns w X (.returned (.agg #[.int .i64 0,.int .i64 0,.string ⟨#[]⟩,.slice none 0 0,.slice none 0 0,.slice none 0 0])) w5:=by
 subst HR
 exact ⟨_,_,none,0,rfl,HB,nilRd _,by simp [Bk.lines],nilTr _,nilTrB _⟩
theorem blk_one {w w5:World} {X:Bk} {a d:Tx} {sa:ByteArray} {k:Nat} {T:TypeId} {fr:Nat × Nat} (HSa:S a=sa) (HB:Below w.heap.size w w5) (HA:w5.heap[k]? = some (Obj.cells #[.string (S d)] T fr)) (HR:X = .mk 8 0 a [d] [] []) :
   BlkAns w X (.returned (.agg #[.int .i64 8,.int .i64 0,.string sa,.slice (some ⟨k,0,none⟩) 1 1,.slice none 0 0,.slice none 0 0])) w5:=by
 subst HR;subst HSa
 refine ⟨.slice (some ⟨k,0,none⟩) 1 1,_,none,0,rfl,HB,⟨_,1,rfl,Nat.le_refl _,Or.inr ⟨k,0,rfl,lt_of_at HA,fun j x hj=>?_⟩⟩,by simp [Bk.lines],nilTr _,nilTrB _⟩
 have h0:=cell_at HA 0
 cases j with
 | zero =>
   have:x=d:=by simpa [Bk.lines] using hj.symm
   subst this
   exact h0
 | succ j=>simp [Bk.lines] at hj
end Go.Proofs.YtihihgfcklkkhaaGreatDoor.Kd
