import Derived.Test.YtihihgfcklkkhaaGreatDoorPkAD
import Derived.Test.YtihihgfcklkkhaaGreatDoorPkL
import Derived.Test.YtihihgfcklkkhaaGreatDoorPkAB
import Derived.Test.YtihihgfcklkkhaaGreatDoorPkU
import Derived.Test.YtihihgfcklkkhaaGreatDoorPkV
import Derived.Test.YtihihgfcklkkhaaGreatDoorPkC
import Derived.BigQuiet
import Derived.Deep.QuietTactic
namespace Go.Proofs.YtihihgfcklkkhaaGreatDoor.Pa
open Go.Proofs.YtihihgfcklkkhaaGreatDoor.Bk (Tx Bk Env fenceL spanK itemL dropBlank listL items kindOf closes unquote unitem inner define parse joinLF)
open Go.Proofs.YtihihgfcklkkhaaGreatDoor.Ln (run mx trim)
open Go.Proofs.YtihihgfcklkkhaaGreatDoor.Kd (E0)
set_option linter.unusedVariables false
structure Tl (T:List Tx):Prop where
 hd:T=[]∨∃ t r,T=t :: r∧kindOf E0 t=1
 it:itemL E0 T=([],T)
 nx:dropBlank E0 T=[]∨∃ t r,dropBlank E0 T=t :: r∧kindOf E0 t≠6
variable {T:List Tx}
end Go.Proofs.YtihihgfcklkkhaaGreatDoor.Pa
namespace Go.Proofs.YtihihgfcklkkhaaGreatDoor.Pa
open Go.Proofs.YtihihgfcklkkhaaGreatDoor.Bk (Tx Bk Env fenceL spanK itemL dropBlank listL items kindOf closes unquote unitem inner define parse joinLF)
open Go.Proofs.YtihihgfcklkkhaaGreatDoor.Ln (run mx trim)
open Go.Proofs.YtihihgfcklkkhaaGreatDoor.Kd (E0)
set_option linter.unusedVariables false
end Go.Proofs.YtihihgfcklkkhaaGreatDoor.Pa
namespace Go.Proofs.YtihihgfcklkkhaaGreatDoor.Pa
open Go.Proofs.YtihihgfcklkkhaaGreatDoor.Bk (Tx Bk Env fenceL spanK itemL dropBlank listL items kindOf closes unquote unitem inner define parse joinLF)
open Go.Proofs.YtihihgfcklkkhaaGreatDoor.Ln (run mx trim run_no)
open Go.Proofs.YtihihgfcklkkhaaGreatDoor.Kd (E0)
set_option linter.unusedVariables false
end Go.Proofs.YtihihgfcklkkhaaGreatDoor.Pa
namespace Go.Proofs.YtihihgfcklkkhaaGreatDoor.Pa
open Go.RowKit
open Go.Proofs.YtihihgfcklkkhaaGreatDoor.Tk (S S_size S_list S_app get_lt Rd)
open Go.Proofs.YtihihgfcklkkhaaGreatDoor.Ln (jn jn_cons2)
open Go.Proofs.YtihihgfcklkkhaaGreatDoor.Sp (V Wt)
open Go.Proofs.YtihihgfcklkkhaaGreatDoor.Bk (Tx Bk)
open Go.Proofs.YtihihgfcklkkhaaGreatDoor.Utf (chk)
set_option linter.unusedVariables false
end Go.Proofs.YtihihgfcklkkhaaGreatDoor.Pa
namespace Go.Proofs.YtihihgfcklkkhaaGreatDoor.Pa
open Go.RowKit
open Go.Proofs.YtihihgfcklkkhaaGreatDoor.Tk (S S_of S_list S_size S_toList S_app ret_int eq8 ne8 at_data len_data Rd)
open Go.Proofs.YtihihgfcklkkhaaGreatDoor.Sp (ret_bool)
open Go.Proofs.YtihihgfcklkkhaaGreatDoor.Bk (Tx Bk kindOf)
open Go.Proofs.YtihihgfcklkkhaaGreatDoor.Ln (mx mx_le rlongest_any)
open Go.Proofs.YtihihgfcklkkhaaGreatDoor.Utf (chk rcheck_any)
set_option linter.unusedVariables false
def lnB (s:Tx):Bool:=decide (chk (S s)=0) && decide (mx 10 s+mx 13 s=0)
def fitsB (xs:List Tx) (most:Nat):Bool:=xs.all lnB && decide (tot xs≤most)
set_option maxHeartbeats 1600000 in
theorem fits_any (v:Value) (xs:List Tx) (w:World) (hr:Rd w v xs) (ht:tot xs≤100000000) (most:Nat) (hm:most≤1000000) :
   Calls Tryz.prog 18 #[v,.int .i64 (most:Nat)] w fun e w'=>e = .returned (.bool (fitsB xs most))∧Below w.heap.size w w':=by
 obtain ⟨ao,ca,rfl⟩:=hr.len
 have hlen:xs.length≤100000000:=Nat.le_trans (tot_len xs) ht
 have HRd:=Lib.hid (fun w' (h:Below w.heap.size w w')=>Bt.Rd.at (hr.below h))
 have hsz:=fun j (hj:j < xs.length)=>tot_mem xs xs[j] (List.getElem_mem hj)
 have HC:=Lib.hid (fun j (hj:j < xs.length) w'=>rcheck_any (S xs[j]) (by rw [S_size];have:=hsz j hj;omega) w')
 have HLo:=Lib.hid (fun j (hj:j < xs.length) (c:UInt8) w'=>rlongest_any (S xs[j]) (by rw [S_size];have:=hsz j hj;omega) c w')
 simp only [S_list] at HLo
 obtain ⟨X,hX⟩:∃ X,fitsB xs most=X:=⟨_,rfl⟩
 have H0:Hid (X=((xs.drop 0).all lnB && decide (0+tot (xs.drop 0)≤most))):=Lib.hid (by rw [← hX,List.drop_zero,Nat.zero_add];rfl)
 have Hsum:Hid (∀ j,tot (xs.take j)+tot (xs.drop j)=tot xs):=Lib.hid (fun j=>by rw [← tot_app,List.take_append_drop])
 rw [hX]
 have Hmx:=Lib.hid (fun j (hj:j < xs.length) (c:UInt8)=>mx_le c xs[j])
 have Hsz:=Lib.hid hsz
 have Htl:=Lib.hid ht
 clear hX hr hsz
 have h10:((10:UInt8).toNat:Int)=10:=rfl
 have h13:((13:UInt8).toNat:Int)=13:=rfl
 go_enter Tryz.func18,Tryz.ntmps18
 go_wp2_with fail
 go_loopw [5,9] (fun nv iv wr=>∃ (j n:Nat),j≤xs.length∧iv = .int .i64 j∧nv = .int .i64 n∧n+tot (xs.drop j)≤100000000∧Hid (Below w.heap.size w wr)∧Hid (X=((xs.drop j).all lnB && decide (n+tot (xs.drop j)≤most)))) (fun _ iv _=>xs.length - (intOf iv).toNat)
 case atStart=>exact ⟨0,0,Nat.zero_le _,rfl,rfl,by rw [List.drop_zero,Nat.zero_add];exact Htl.out,Lib.hid (Below.refl _ _),H0⟩
 case round =>
   clear H0
   obtain ⟨j,n,hj,rfl,rfl,hn,HB,HN⟩:=hrel
   by_cases hlt:j < xs.length
   · have hji:(j:Int) < (xs.length:Int):=by omega
     obtain ⟨b,of,hbo,c0⟩:=HRd.out wr HB.out j hlt
     subst hbo
     have hdr:xs.drop j=xs[j] :: xs.drop (j+1):=List.drop_eq_getElem_cons hlt
     have hz:(S xs[j]).size=xs[j].length:=S_size _
     have HCj:=Lib.hid (fun w'=>HC.out j hlt w')
     have HLs:Hid (∀ (x:Int) (w':World),x=10∨x=13→Calls Tryz.prog 35 #[.string (S xs[j]),.int .u8 x] w' fun e w''=>e = .returned (.int .i64 (if x=10 then (mx 10 xs[j]:Int) else (mx 13 xs[j]:Int)))∧w''=w'):=Lib.hid (fun x w' hx=>by
       rcases hx with rfl | rfl
       · have h:=HLo.out j hlt 10 w'
         rw [h10] at h
         rw [if_pos rfl]
         exact h.mono (fun _ _ h=>⟨h.1,h.2.symm⟩)
       · have h:=HLo.out j hlt 13 w'
         rw [h13] at h
         rw [if_neg (by decide)]
         exact h.mono (fun _ _ h=>⟨h.1,h.2.symm⟩))
     have m10:=Hmx.out j hlt 10
     have m13:=Hmx.out j hlt 13
     have hsj:=Hsz.out j hlt
     have htl:=Htl.out
     rw [hdr] at hn HN
     rw [tot] at hn
     have HX:Hid (X=(lnB xs[j] && ((xs.drop (j+1)).all lnB && decide (n+1+xs[j].length+tot (xs.drop (j+1))≤most)))):=Lib.hid (by
       have hd:decide (n+(1+xs[j].length+tot (xs.drop (j+1)))≤most)=decide (n+1+xs[j].length+tot (xs.drop (j+1))≤most):=by rw [decide_eq_decide];omega
       rw [HN.out,List.all_cons,tot,hd,Bool.and_assoc])
     have HLn:Hid (lnB xs[j]=(decide (chk (S xs[j])=0) && decide (mx 10 xs[j]+mx 13 xs[j]=0))):=Lib.hid rfl
     clear HN hdr
     generalize lnB xs[j]=lb at *
     generalize chk (S xs[j])=c at *
     generalize mx 10 xs[j]=a10 at *
     generalize mx 13 xs[j]=a13 at *
     obtain ⟨z,hzz⟩:∃ z,xs[j].length=z:=⟨_,rfl⟩
     rw [hzz] at hz hsj hn HX m10 m13
     clear hzz
     obtain ⟨sx,hsx⟩:∃ x,S xs[j]=x:=⟨_,rfl⟩
     rw [hsx] at hz c0
     simp only [hsx] at HCj HLs
     clear hsx HC HLo Hmx Hsz
     have w1:IntKind.i64.wrap ((n:Int)+1)=((n+1:Nat):Int):=by rw [IntKind.wrap_i64];omega
     obtain ⟨n1,hn1⟩:∃ q,q=n+1:=⟨_,rfl⟩
     rw [← hn1] at w1
     have w2:IntKind.i64.wrap ((n1:Int)+(z:Int))=((n1+z:Nat):Int):=by rw [IntKind.wrap_i64];omega
     obtain ⟨n2,hn2⟩:∃ q,q=n1+z:=⟨_,rfl⟩
     rw [← hn2] at w2
     have hszi:((sx.size:Nat):Int)=(z:Int):=by rw [hz]
     have w3:IntKind.i64.wrap ((a10:Int)+(a13:Int))=((a10+a13:Nat):Int):=by rw [IntKind.wrap_i64];omega
     obtain ⟨a,ha⟩:∃ q,q=a10+a13:=⟨_,rfl⟩
     rw [← ha] at w3 HLn
     have HX2:Hid (X=(lb && ((xs.drop (j+1)).all lnB && decide (n2+tot (xs.drop (j+1))≤most)))):=Lib.hid (by rw [HX.out,hn2,hn1])
     have hn3:n2+tot (xs.drop (j+1))≤100000000:=by omega
     have Hn3:=Lib.hid hn3
     clear HX hn hsj hn1 hn2 ha hn3 m10 m13 htl
     by_cases hc:c=0
     · rw [decide_eq_true hc,Bool.true_and] at HLn
       subst hc
       by_cases h0:a=0
       · have ea:decide ((a:Int) > 0)=false:=decide_eq_false (by omega)
         have ea2:decide ((0:Int) < (a:Int))=false:=decide_eq_false (by omega)
         have ea3:decide (0 < a)=false:=decide_eq_false (by omega)
         have HN2:Hid (X=((xs.drop (j+1)).all lnB && decide (n2+tot (xs.drop (j+1))≤most))):=Lib.hid (by rw [HX2.out,HLn.out,decide_eq_true h0,Bool.true_and])
         clear h0 HX2 HLn
         go_wp2_with fail
         go_quiet (first | (go_at_call 28;exact Calls.quiet_of_same ((HCj.out _).mono (fun _ _ h=>⟨h.1,h.2.symm⟩))) | (go_at_call 35;exact Calls.quiet_of_same (HLs.out _ _ (by decide))))
         go_wp2_with fail
         go_roundw
         case rel=>exact ⟨j+1,n2,by omega,by go_num,rfl,Hn3.out,Lib.hid (below_drewN HB.out _),HN2⟩
         case measure=>simp [intOf] <;> omega
       · have ea:decide ((a:Int) > 0)=true:=decide_eq_true (by omega)
         have ea2:decide ((0:Int) < (a:Int))=true:=decide_eq_true (by omega)
         have ea3:decide (0 < a)=true:=decide_eq_true (by omega)
         have HR:Hid (X=false):=Lib.hid (by rw [HX2.out,HLn.out,decide_eq_false h0,Bool.false_and])
         clear h0 HX2 HLn
         go_wp2_with fail
         go_quiet (first | (go_at_call 28;exact Calls.quiet_of_same ((HCj.out _).mono (fun _ _ h=>⟨h.1,h.2.symm⟩))) | (go_at_call 35;exact Calls.quiet_of_same (HLs.out _ _ (by decide))))
         go_wp2_with fail
         go_ret
         exact ⟨ret_bool HR.out.symm,below_drewN HB.out _⟩
     · have ec:(c != 0)=true:=by rw [bne_iff_ne];exact hc
       have ec2:(c == 0)=false:=by rw [beq_eq_false_iff_ne];exact hc
       have HR:Hid (X=false):=Lib.hid (by rw [HX2.out,HLn.out,decide_eq_false hc,Bool.false_and,Bool.false_and])
       clear hc HX2 HLn
       go_wp2_with fail
       go_quiet (first | (go_at_call 28;exact Calls.quiet_of_same ((HCj.out _).mono (fun _ _ h=>⟨h.1,h.2.symm⟩))) | (go_at_call 35;exact Calls.quiet_of_same (HLs.out _ _ (by decide))))
       go_wp2_with fail
       go_ret
       exact ⟨ret_bool HR.out.symm,below_drewN HB.out _⟩
   · obtain rfl:j=xs.length:=by omega
     have HR:Hid (X=decide (n≤most)):=Lib.hid (by
       rw [HN.out,List.drop_length]
       show (true && decide (n+0≤most))=_
       rw [Bool.true_and]
       rfl)
     have e1:decide ((n:Int)≤(most:Int))=decide (n≤most):=by rw [decide_eq_decide];omega
     clear HN hlt
     obtain ⟨y,hy⟩:∃ y,decide (n≤most)=y:=⟨_,rfl⟩
     rw [hy] at HR
     have Hy:=Lib.hid hy
     clear e1 hy
     go_wp2_with fail
     go_ret
     exact ⟨by rw [HR.out];exact ret_bool Hy.out,HB.out⟩
end Go.Proofs.YtihihgfcklkkhaaGreatDoor.Pa
