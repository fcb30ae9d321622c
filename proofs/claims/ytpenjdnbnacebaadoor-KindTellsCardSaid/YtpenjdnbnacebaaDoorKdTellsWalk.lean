/-
  THE WALK of the statement KindTells.
-/
import Derived.Test.YtpenjdnbnacebaaDoorKd11Told
import Derived.Test.YtpenjdnbnacebaaDoorBt10Told
namespace Go.Proofs.YtpenjdnbnacebaaDoor.Kd
open Go.RowKit
open Go.Proofs.YtpenjdnbnacebaaDoor.Tk (S S_of S_list S_size S_toList S_app ret_int eq8 ne8 at_data len_data Rd)
open Go.Proofs.YtpenjdnbnacebaaDoor.Cm (calls_at)
open Go.Proofs.YtpenjdnbnacebaaDoor.Sp (Sp Tr ret_bool OkAns)
open Go.Proofs.YtpenjdnbnacebaaDoor.Bt (TrB litB smB smB_iff szAll rsameB_any)
open Go.Proofs.YtpenjdnbnacebaaDoor.Bk (Tx Bk define kindOf inner unquote)
set_option linter.unusedVariables false

set_option maxHeartbeats 6400000 in
set_option maxRecDepth 100000 in
theorem kindTells_walk (K : Told11) (w : World) (s : ByteArray) (hs : s.size ≤ maxLen) (hr : s.size ≤ reachBytes) (n : Int) (hn : -9223372036854775808 ≤ n ∧ n ≤ 9223372036854775807) :
    Calls Tryd.prog 3 #[.string s, .int .i64 n] w (OkAns w true) := by
  have HA := Lib.hid (awake11_any K)
  have hrb : reachBytes ≤ 140737488355328 := by decide
  by_cases hl : s.size ≤ 1000
  · have g0 : ¬ 1000 < (s.size : Int) := by omega
    have g0b : decide ((s.size : Int) > 1000) = false := decide_eq_false (by omega)
    have hz : s.size ≤ 20000 := by omega
    have hz2 : s.size ≤ 140737488355328 := by omega
    have K1 := Lib.hid (fun w' => K.head s w' hz)
    have K2 := Lib.hid (fun w' => K.opens s w' hz)
    have K3 := Lib.hid (fun w' => K.inner s w' hz)
    have K4 := Lib.hid (fun w' => K.of s w' hz)
    have K5 := Lib.hid (fun w' => K.closes s n w' hz hn.1 hn.2)
    have K6 := Lib.hid (fun w' => K.unquote s w' hz)
    have K7 := Lib.hid (fun w' => K.unitem s w' hz)
    have K8 := Lib.hid (fun w' => K.defines s w' hz)
    have R1 := Lib.hid (fun w' => head_any s hz2 w')
    have R2 := Lib.hid (fun w' => open_any s hz2 w')
    have R3 := Lib.hid (fun w' => inner_any s hz2 w')
    have R4 := Lib.hid (fun w' => of_any s hz2 w')
    have R5 := Lib.hid (fun w' => closes_any s n hz2 w')
    have R6 := Lib.hid (fun w' => unquote_any s hz2 w')
    have R7 := Lib.hid (fun w' => unitem_any s hz2 w')
    have R8 := Lib.hid (fun w' => defineB_any s hz2 w')
    have RS := Lib.hid (fun (X : Bk) va vb w' (ta : TrB w' va [X]) (tb : TrB w' vb [X]) => by
      have h := rsameB_any (szAll [X]) [X] [X] va vb w' (Nat.le_refl _) ta tb
      rwa [(smB_iff [X] [X]).2 rfl] at h)
    unfold LevK at K1 K2
    unfold LevAns at R1 R2
    unfold InK at K3
    unfold inV at K3 R3
    clear K hs hr hrb hl
    generalize hdN s.data.toList = n1 at *
    generalize S (hdT s.data.toList) = t1 at *
    generalize opN s.data.toList = n2 at *
    generalize S (opT s.data.toList) = t2 at *
    generalize S ((Bk.inner s.data.toList).getD []) = t3 at *
    generalize (Bk.inner s.data.toList).isSome = b3 at *
    generalize kindOf E0 s.data.toList = k4 at *
    generalize clB s.data.toList n = b5 at *
    unfold StrK at K6 K7
    unfold StrD at R6 R7
    generalize S (uqT s.data.toList) = t6 at *
    generalize S (uiT s.data.toList) = t7 at *
    generalize dfB s.data.toList = X at *
    go_enter Tryd.func3, Tryd.ntmps3
    go_wp2_with fail
    refine (HA.out _).mono ?_
    rintro e w2 ⟨rfl, b2⟩
    have B2 := Lib.hid b2
    clear b2 HA
    go_wp2_with fail
    refine (K1.out _).mono ?_
    rintro e w3 ⟨rfl, b3⟩
    have B3 := Lib.hid (B2.out.trans (b3.mono B2.out.size))
    clear b3 K1 B2
    go_wp2_with fail
    refine (R1.out _).mono ?_
    rintro e w4 ⟨rfl, q4, hq4⟩
    have B4 : Hid (Below w.heap.size w w4) := Lib.hid (by rw [hq4]; exact below_drewN B3.out q4)
    clear hq4 R1 B3
    go_wp2_with fail
    refine (K2.out _).mono ?_
    rintro e w5 ⟨rfl, b5'⟩
    have B5 := Lib.hid (B4.out.trans (b5'.mono B4.out.size))
    clear b5' K2 B4
    go_wp2_with fail
    refine (R2.out _).mono ?_
    rintro e w6 ⟨rfl, q6, hq6⟩
    have B6 : Hid (Below w.heap.size w w6) := Lib.hid (by rw [hq6]; exact below_drewN B5.out q6)
    clear hq6 R2 B5
    go_wp2_with fail
    refine (K3.out _).mono ?_
    rintro e w7 ⟨rfl, b7⟩
    have B7 := Lib.hid (B6.out.trans (b7.mono B6.out.size))
    clear b7 K3 B6
    go_wp2_with fail
    refine (R3.out _).mono ?_
    rintro e w8 ⟨rfl, rfl⟩
    clear R3
    go_wp2_with fail
    refine (K4.out _).mono ?_
    rintro e w9 ⟨rfl, b9⟩
    have B9 := Lib.hid (B7.out.trans (b9.mono B7.out.size))
    clear b9 K4 B7
    go_wp2_with fail
    refine (R4.out _).mono ?_
    rintro e w10 ⟨rfl, q10, hq10⟩
    have B10 : Hid (Below w.heap.size w w10) := Lib.hid (by rw [hq10]; exact below_drewN B9.out q10)
    clear hq10 R4 B9
    go_wp2_with fail
    refine (K5.out _).mono ?_
    rintro e w11 ⟨rfl, b11⟩
    have B11 := Lib.hid (B10.out.trans (b11.mono B10.out.size))
    clear b11 K5 B10
    go_wp2_with fail
    refine (R5.out _).mono ?_
    rintro e w12 ⟨rfl, rfl⟩
    clear R5
    go_wp2_with fail
    refine (K6.out _).mono ?_
    rintro e w13 ⟨rfl, b13⟩
    have B13 := Lib.hid (B11.out.trans (b13.mono B11.out.size))
    clear b13 K6 B11
    go_wp2_with fail
    refine (R6.out _).mono ?_
    rintro e w14 ⟨rfl, q14, hq14⟩
    have B14 : Hid (Below w.heap.size w w14) := Lib.hid (by rw [hq14]; exact below_drewN B13.out q14)
    clear hq14 R6 B13
    go_wp2_with fail
    refine (K7.out _).mono ?_
    rintro e w15 ⟨rfl, b15⟩
    have B15 := Lib.hid (B14.out.trans (b15.mono B14.out.size))
    clear b15 K7 B14
    go_wp2_with fail
    refine (R7.out _).mono ?_
    rintro e w16 ⟨rfl, q16, hq16⟩
    have B16 : Hid (Below w.heap.size w w16) := Lib.hid (by rw [hq16]; exact below_drewN B15.out q16)
    clear hq16 R7 B15
    go_wp2_with fail
    refine (K8.out _).mono ?_
    rintro e w17 ⟨vl, vs, ao, cap, rfl, b17, rd17, sh17, sp17, tr17⟩
    obtain ⟨al, cl, rfl⟩ := rd17.len
    obtain ⟨as', cs, rfl⟩ := sp17.len
    have B17 := Lib.hid (B16.out.trans (b17.mono B16.out.size))
    have T17 := Lib.hid (litB (k := X.kind) (lv := X.level) (i := X.info) rd17 sh17 sp17 tr17 35)
    have B18 := Lib.hid (B17.out.alloc B17.out.size (.cells #[.int .i64 X.kind, .int .i64 X.level, .string (S X.info), .slice al X.lines.length cl, .slice as' X.spans.length cs, .slice ao X.kids.length cap] 35))
    clear b17 rd17 sh17 sp17 tr17 K8 B16
    go_wp2_with fail
    refine (R8.out _).mono ?_
    rintro e w19 ⟨vl2, vs2, ao2, cap2, rfl, b19, rd19, sh19, sp19, tr19⟩
    obtain ⟨al2, cl2, rfl⟩ := rd19.len
    obtain ⟨as2, cs2, rfl⟩ := sp19.len
    have B19 := Lib.hid (B18.out.trans (b19.mono B18.out.size))
    have T19 := Lib.hid (T17.out.below b19)
    have U19 := Lib.hid (litB (k := X.kind) (lv := X.level) (i := X.info) rd19 sh19 sp19 tr19 35)
    have Bz := (Below.refl w19.heap.size w19).alloc (Nat.le_refl _) (.cells #[.int .i64 X.kind, .int .i64 X.level, .string (S X.info), .slice al2 X.lines.length cl2, .slice as2 X.spans.length cs2, .slice ao2 X.kids.length cap2] 35)
    have T20 := Lib.hid (T19.out.below Bz)
    have B20 := Lib.hid (B19.out.trans (Bz.mono B19.out.size))
    have RS2 := Lib.hid (RS.out _ _ _ _ T20.out U19.out)
    clear Bz T17 T19 U19 T20 RS R8 B18 B19
    generalize X.lines.length = ln at *
    generalize X.spans.length = sn at *
    generalize X.kids.length = kn at *
    generalize X.kind = xk at *
    generalize X.level = xl at *
    generalize S X.info = xi at *
    go_wp2_with fail
    refine RS2.out.mono ?_
    rintro e w21 ⟨rfl, b21⟩
    have B21 := Lib.hid (B20.out.trans (b21.mono B20.out.size))
    clear b21 RS2
    go_wp2_with fail
    go_ret
    exact ⟨by simp, B21.out⟩
  · have g0 : 1000 < (s.size : Int) := by omega
    have g0b : decide ((s.size : Int) > 1000) = true := decide_eq_true (by omega)
    clear K hs hr hrb hl
    go_enter Tryd.func3, Tryd.ntmps3
    go_wp2_with fail
    refine (HA.out _).mono ?_
    rintro e w2 ⟨rfl, b2⟩
    have B2 := Lib.hid b2
    clear b2
    go_wp2_with fail
    refine (HA.out _).mono ?_
    rintro e w3 ⟨rfl, b3⟩
    have B3 := Lib.hid (B2.out.trans (b3.mono B2.out.size))
    clear b3
    go_wp2_with fail
    go_ret
    exact ⟨rfl, B3.out⟩

end Go.Proofs.YtpenjdnbnacebaaDoor.Kd
