import Derived.Test.YtihihgfcklkkhaaGreatDoorPkAB
namespace Go.Proofs.YtihihgfcklkkhaaGreatDoor.Pa
open Go.RowKit
open Go.Proofs.YtihihgfcklkkhaaGreatDoor.Tk (S S_of S_list S_size S_toList S_app ret_int eq8 ne8 at_data len_data Rd)
open Go.Proofs.YtihihgfcklkkhaaGreatDoor.Sp (ret_bool OkAns)
open Go.Proofs.YtihihgfcklkkhaaGreatDoor.Bt (TrB smB smB_iff rsameB_any szAll)
open Go.Proofs.YtihihgfcklkkhaaGreatDoor.Bk (Tx Bk kindOf)
set_option linter.unusedVariables false
set_option maxHeartbeats 1600000 in
theorem parseReads_walk (K:Told12) (w:World) (s:ByteArray) (hs:s.size≤maxLen) (hr:s.size≤reachBytes) :
   Calls Tryz.prog 3 #[.string s] w (OkAns w true):=by
 have HA:=Lib.hid (awake12_any K)
 by_cases h7:s.size≤700
 · have g1:decide ((s.size:Int) > 700)=false:=decide_eq_false (by omega)
   have g2:decide ((700:Int) < (s.size:Int))=false:=decide_eq_false (by omega)
   have g3:decide (700 < s.size)=false:=decide_eq_false (by omega)
   have HD:=Lib.hid (fun w'=>K.doc s w' (by omega))
   have HR:=Lib.hid (fun w'=>docR_any s (by omega) w')
   unfold LnsAns at HD HR
   generalize docB s.data.toList=X at *
   obtain ⟨l,e⟩:=X
   simp only at HD HR
   have HS:=Lib.hid (fun va vb w' ta tb=>rsameB_any (szAll l) l l va vb w' (Nat.le_refl _) ta tb)
   have hsm:smB l l=true:=(smB_iff l l).2 rfl
   simp only [hsm] at HS
   clear K hs hr h7 hsm
   go_enter Tryz.func3,Tryz.ntmps3
   go_wp2_with fail
   refine (HA.out _).mono ?_
   rintro e w2 ⟨rfl,b2⟩
   have HB2:=Lib.hid b2
   clear b2 HA
   go_wp2_with fail
   refine (HD.out _).mono ?_
   rintro e w3 ⟨u,rfl,ht,b3⟩
   have HT:=Lib.hid ht
   have HB3:=Lib.hid (HB2.out.trans (b3.mono HB2.out.size))
   clear ht b3 HD
   go_wp2_with fail
   refine (HR.out _).mono ?_
   rintro e w4 ⟨u2,rfl,ht2,b4⟩
   have HT1:=Lib.hid (HT.out.below b4)
   have HT2:=Lib.hid ht2
   have HB4:=Lib.hid (HB3.out.trans (b4.mono HB3.out.size))
   clear ht2 b4 HR HT
   go_wp2_with fail
   refine (HS.out _ _ _ HT1.out HT2.out).mono ?_
   rintro e w5 ⟨rfl,b5⟩
   have HB5:=Lib.hid (HB4.out.trans (b5.mono HB4.out.size))
   clear b5 HS
   go_wp2_with fail
   go_ret
   exact ⟨ret_bool (by simp),HB5.out⟩
 · have g1:decide ((s.size:Int) > 700)=true:=decide_eq_true (by omega)
   have g2:decide ((700:Int) < (s.size:Int))=true:=decide_eq_true (by omega)
   have g3:decide (700 < s.size)=true:=decide_eq_true (by omega)
   clear K h7
   go_enter Tryz.func3,Tryz.ntmps3
   go_wp2_with fail
   refine (HA.out _).mono ?_
   rintro e w2 ⟨rfl,b2⟩
   have HB2:=Lib.hid b2
   clear b2
   go_wp2_with fail
   refine (HA.out _).mono ?_
   rintro e w3 ⟨rfl,b3⟩
   have HB3:=Lib.hid (HB2.out.trans (b3.mono HB2.out.size))
   clear b3
   go_wp2_with fail
   go_ret
   exact ⟨rfl,HB3.out⟩
end Go.Proofs.YtihihgfcklkkhaaGreatDoor.Pa
