import Derived.Test.YtpakjdgddomdjabGreatDoorPkAV
set_option linter.unusedVariables false
namespace Go.Proofs.YtpakjdgddomdjabGreatDoor
namespace Wr
open Go.RowKit
open Tk (S)
open Sp (OkAns)
open Bt (TrB fitAll ttAll rgB szAll rrightB_any rsameB_any smB_iff fit47)
open Bk (Bk wl)
open Pa (LnsAns)
set_option maxHeartbeats 1600000 in
theorem writeBack_walk (w:World) (va:Value) (a:List Bk) (ra:TrB w va a) (fa:fitAll reachBytes a) (ta:ttAll a≤1048576):
  Calls Tryz.prog 3 #[va] w (OkAns w true):=by
 obtain⟨aa,ca,rfl⟩:=ra.len;have HA:=Lib.hid awake13_any;have FA:=Lib.hid (fun w' (h:Below w.heap.size w w')=>small_any a _ w' (ra.below h) fa);have fs:=Bt.fitAll_tt a fa ta;cases hs:smallB a with
 |false=>
  rw[hs]at FA;clear ra fs fa ta hs;go_enter Tryz.func3,Tryz.ntmps3;go_wp2_with fail;refine(HA.out _).mono ?_;rintro e w2 ⟨rfl,b2⟩;have H2:=Lib.hid b2;clear b2;go_wp2_with fail;refine(FA.out _ H2.out).mono ?_;rintro e w3 ⟨rfl,b3⟩;have H3:=Lib.hid (H2.out.trans (b3.mono H2.out.size));clear FA b3;go_wp2_with fail;refine(HA.out _).mono ?_;rintro e w4 ⟨rfl,b4⟩;have H4:=Lib.hid (H3.out.trans (b4.mono H3.out.size));clear b4;go_wp2_with fail;go_ret;exact⟨rfl,H4.out⟩
 |true=>
  rw[hs]at FA;have htt:=small_tt hs ta;have HD:=Lib.hid (fun w' (h:Below w.heap.size w w')=>documentW_any _ a w' (ra.below h) fs (by omega));have HR:=Lib.hid (fun w' (h:Below w.heap.size w w')=>rrightB_any a _ w' (fit47 fa) (by omega) (ra.below h));have HS:=Lib.hid (fun vb w' (tb:TrB w' vb a) (h:Below w.heap.size w w')=>rsameB_any (szAll a) a a vb _ w' (Nat.le_refl _) tb (ra.below h));rw[(smB_iff a a).2 rfl]at HS;have HB:=Lib.hid (fun(hr:rgB a=true) w'=>parse_back hr (by omega) w');unfold WrDoc at HD;unfold LnsAns at HB;clear ra fs fa ta hs htt;cases hr:rgB a with
  |false=>
   rw[wrL_no hr,wrE_no hr]at HD;rw[hr]at HR;clear HB HS hr;generalize S (Ln.jn [] true)=y at *;go_enter Tryz.func3,Tryz.ntmps3;go_wp2_with fail;refine(HA.out _).mono ?_;rintro e w2 ⟨rfl,b2⟩;have H2:=Lib.hid b2;clear b2;go_wp2_with fail;refine(FA.out _ H2.out).mono ?_;rintro e w3 ⟨rfl,b3⟩;have H3:=Lib.hid (H2.out.trans (b3.mono H2.out.size));clear FA b3;go_wp2_with fail;refine(HD.out _ H3.out).mono ?_;rintro e w4 ⟨rfl,b4⟩;have H4:=Lib.hid (H3.out.trans (b4.mono H3.out.size));clear HD b4;go_wp2_with fail;refine(HR.out _ H4.out).mono ?_;rintro e w5 ⟨rfl,b5⟩;have H5:=Lib.hid (H4.out.trans (b5.mono H4.out.size));clear HR b5;go_wp2_with fail;go_ret;exact⟨rfl,H5.out⟩
  |true=>
   rw[wrL_yes hr,wrE_yes hr]at HD;have HB2:=Lib.hid (HB.out hr);clear HB HR hr;generalize S (Ln.jn (wl a) true)=y at *;go_enter Tryz.func3,Tryz.ntmps3;go_wp2_with fail;refine(HA.out _).mono ?_;rintro e w2 ⟨rfl,b2⟩;have H2:=Lib.hid b2;clear b2;go_wp2_with fail;refine(FA.out _ H2.out).mono ?_;rintro e w3 ⟨rfl,b3⟩;have H3:=Lib.hid (H2.out.trans (b3.mono H2.out.size));clear FA b3;go_wp2_with fail;refine(HD.out _ H3.out).mono ?_;rintro e w4 ⟨rfl,b4⟩;have H4:=Lib.hid (H3.out.trans (b4.mono H3.out.size));clear HD b4;go_wp2_with fail;refine(HB2.out _).mono ?_;rintro e w5 ⟨u,rfl,hu,b5⟩;have H5:=Lib.hid (H4.out.trans (b5.mono H4.out.size));have HS5:=Lib.hid (HS.out u w5 hu H5.out);clear HB2 HS b5 hu;go_wp2_with fail;refine HS5.out.mono ?_;rintro e w6 ⟨rfl,b6⟩;have H6:=Lib.hid (H5.out.trans (b6.mono H5.out.size));clear HS5 b6;go_wp2_with fail;go_ret;exact⟨rfl,H6.out⟩
end Wr
end Go.Proofs.YtpakjdgddomdjabGreatDoor
