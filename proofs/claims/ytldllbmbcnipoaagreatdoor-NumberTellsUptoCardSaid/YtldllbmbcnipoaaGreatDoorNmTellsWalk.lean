/-
  THE WALK of the statement NumberTells (gen_tells.py writes it).
-/
import Derived.Test.YtldllbmbcnipoaaGreatDoorPkTN
import Derived.Test.YtldllbmbcnipoaaGreatDoorNmMore
import Derived.Lib.QuietBelow
namespace Go.Proofs.YtldllbmbcnipoaaGreatDoor.Nm
open Go.RowKit
open Go.Proofs.YtldllbmbcnipoaaGreatDoor.Tk (S S_of S_list S_size S_toList S_app Rd RdI ret_int)
open Go.Proofs.YtldllbmbcnipoaaGreatDoor.Cm (cell_at alloc_new Keep Keep.of_below calls_at)
open Go.Proofs.YtldllbmbcnipoaaGreatDoor.Sp (Sp Tr totAll OkAns)
open Go.Proofs.YtldllbmbcnipoaaGreatDoor.Bt (TrB ttAll ttOne lnTot szAll szOne smB spAll ttAll_mem)
open Go.Proofs.YtldllbmbcnipoaaGreatDoor.Bk (Bk Tx)
open Go.Proofs.YtldllbmbcnipoaaGreatDoor.Pa (OutS OutG)
set_option linter.unusedVariables false

theorem keys_at (a : List Bk) (i : Nat) (hi : i < a.length) : (keys a)[i]'(by rw [keys_len]; exact hi) = bk1 a[i] := List.getElem_map ..
set_option maxHeartbeats 6400000 in
set_option maxRecDepth 100000 in
theorem numberTells_walk (K : Told15) (w : World) (hT : Tab w) (va : Value) (a : List Bk) (ra : TrB w va a) (fa : Bt.fitAll reachBytes a) (ta : ttAll a ≤ 1048576) (vb : Value) (b : List Bk) (rb : TrB w vb b) (fb : Bt.fitAll reachBytes b) (tb : ttAll b ≤ 1048576) :
    Calls Tryz.prog 3 #[va, vb] w (OkAns w true) := by
  have HTb := Lib.hid (fun w' (h : Below w.heap.size w w') => hT.below h)
  have HA := Lib.hid (fun w' (h : Below w.heap.size w w') => awake15_any K w' (hT.below h))
  have FA := Lib.hid (fun w' (h : Below w.heap.size w w') => few15_any a va w' (ra.below h) fa)
  have FB := Lib.hid (fun w' (h : Below w.heap.size w w') => few15_any b vb w' (rb.below h) fb)
  have fa' := Bt.fitAll_wide (R' := 140737488355328) (by decide) _ fa
  have fb' := Bt.fitAll_wide (R' := 140737488355328) (by decide) _ fb
  have K2 := Lib.hid (fun (h : fewN a = true) (g : fewN b = true) v w' (r : LsB w' v [a, b]) (t : Tab w') => K.ids v [a, b] w' r t (by simp) (fun l hl => by
    have h1 := (fewN_tt h ta).2
    have h2 := (fewN_tt g tb).2
    rcases List.mem_cons.1 hl with rfl | hl
    · exact ⟨by omega, fa'⟩
    · rw [List.mem_singleton.1 hl]; exact ⟨by omega, fb'⟩))
  have KA := Lib.hid (fun (h : fewN a = true) w' (hb : Below w.heap.size w w') => rkeys_any a va w' (by have := (fewN_tt h ta).2; omega) fa' (ra.below hb))
  have KB := Lib.hid (fun (h : fewN b = true) w' (hb : Below w.heap.size w w') => rkeys_any b vb w' (by have := (fewN_tt h tb).2; omega) fb' (rb.below hb))
  have HE := Lib.hid (fun (h : fewN a = true) i (hi : i < a.length) v w' (r : BkV w' a[i] v) (t : Tab w') => K.key a[i] v w' r t (by have := (fewN_tt h ta).2; have := ttAll_mem (List.getElem_mem hi); omega) (Bt.fitAll_at fa' _ (List.getElem_mem hi)))
  have HX := Lib.hid (fun (h : fewN a = true) (g : fewN b = true) i (hi : i < a.length) (hj : i < b.length) v u w' (r : BkV w' a[i] v) (s : BkV w' b[i] u) (t : Tab w') => K.alike a[i] b[i] v u w' r s t (by have := (fewN_tt h ta).2; have := ttAll_mem (List.getElem_mem hi); omega) (by have := (fewN_tt g tb).2; have := ttAll_mem (List.getElem_mem hj); omega) (Bt.fitAll_at fa' _ (List.getElem_mem hi)) (Bt.fitAll_at fb' _ (List.getElem_mem hj)))
  have HY := Lib.hid (fun (h : fewN a = true) (g : fewN b = true) i (hi : i < a.length) (hj : i < b.length) v u w' (r : BkV w' a[i] v) (s : BkV w' b[i] u) => ralike_any a[i] b[i] v u w' r s (by have := (fewN_tt h ta).2; have := ttAll_mem (List.getElem_mem hi); omega) (by have := (fewN_tt g tb).2; have := ttAll_mem (List.getElem_mem hj); omega) (Bt.fitAll_at fa' _ (List.getElem_mem hi)) (Bt.fitAll_at fb' _ (List.getElem_mem hj)))
  have LA : Hid (fewN a = true → a.length ≤ 20) := Lib.hid (fun h => (fewN_tt h ta).1)
  have LB : Hid (fewN b = true → b.length ≤ 20) := Lib.hid (fun h => (fewN_tt h tb).1)
  have I1 := Lib.hid (fun (h : a.length ≤ 20) (g : b.length ≤ 20) u v w' (r : Rd w' u (keys a)) (s : Rd w' v (keys b)) => Tk.rids_any u v (keys a) (keys b) w' r s (by rw [keys_len]; omega) (by rw [keys_len]; omega))
  have I2 := Lib.hid (fun (h : a.length ≤ 20) (g : b.length ≤ 20) u v w' (r : Rd w' u (keys b)) (s : Rd w' v (keys a)) => Tk.rids_any u v (keys b) (keys a) w' r s (by rw [keys_len]; omega) (by rw [keys_len]; omega))
  rw [rk_same (all' := keys a ++ keys b) (fun y => by rw [List.mem_append, List.mem_append]; exact Or.comm)] at I2
  have X1 : Hid ((Tk.rk (keys a ++ keys b) (keys a)).length = a.length) := Lib.hid (by rw [rk_len, keys_len])
  have X2 : Hid ((Tk.rk (keys a ++ keys b) (keys b)).length = b.length) := Lib.hid (by rw [rk_len, keys_len])
  have RA := Lib.hid ra
  have RB := Lib.hid rb
  obtain ⟨aa, ca, rfl⟩ := ra.len
  obtain ⟨ab, cb, rfl⟩ := rb.len
  rw [idL_two] at K2
  clear ra fa ta rb fb tb K fa' fb' hT
  unfold StrsA at KA KB
  unfold BoolA at HA FA FB
  unfold StrA at HE
  unfold IntA at HX HY
  unfold OkAns
  generalize Tk.rk (keys a ++ keys b) (keys a) = x at *
  generalize Tk.rk (keys a ++ keys b) (keys b) = y at *
  generalize fewN a = f1 at *
  generalize fewN b = f2 at *
  go_enter Tryz.func3, Tryz.ntmps3
  go_wp2_with fail
  refine (HA.out _ (Below.refl _ _)).mono ?_
  rintro e w1 ⟨rfl, b1⟩
  have B1 := Lib.hid b1
  clear b1
  go_wp2_with fail
  refine (FA.out _ B1.out).mono ?_
  rintro e w2 ⟨rfl, b2⟩
  have B2 := Lib.hid (B1.out.trans (b2.mono B1.out.size))
  clear b2 B1 FA
  cases f1 with
  | false =>
    go_wp2_with fail
    refine (HA.out _ B2.out).mono ?_
    rintro e w4 ⟨rfl, b4⟩
    have B4 := Lib.hid (B2.out.trans (b4.mono B2.out.size))
    clear b4
    go_wp2_with fail
    go_ret
    exact ⟨rfl, B4.out⟩
  | true =>
    go_wp2_with fail
    refine (FB.out _ B2.out).mono ?_
    rintro e w3 ⟨rfl, b3⟩
    have B3 := Lib.hid (B2.out.trans (b3.mono B2.out.size))
    clear b3 B2 FB
    cases f2 with
    | false =>
      go_wp2_with fail
      refine (HA.out _ B3.out).mono ?_
      rintro e w4 ⟨rfl, b4⟩
      have B4 := Lib.hid (B3.out.trans (b4.mono B3.out.size))
      clear b4
      go_wp2_with fail
      go_ret
      exact ⟨rfl, B4.out⟩
    | true =>
      have la := Lib.hid (LA.out (by trivial))
      have lb := Lib.hid (LB.out (by trivial))
      have H2 := Lib.hid (K2.out (by trivial) (by trivial) _ _ (lsb2 (t := 22) (RA.out.below B3.out) (RB.out.below B3.out)) (HTb.out _ (B3.out.alloc B3.out.size _)))
      clear K2 LA LB HA
      go_wp2_with fail
      refine H2.out.mono ?_
      rintro e w4 ⟨v4, rfl, r4, b4⟩
      obtain ⟨bx, ox, cx, p0, q0, p1, q1, rfl, hx, k0, s0, k1, s1⟩ := rdj_two r4
      have B4 := Lib.hid ((B3.out.alloc B3.out.size _).trans (b4.mono (by simp; have := B3.out.size; omega)))
      clear r4 b4 B3 H2
      go_wp2_with fail
      refine (KA.out (by trivial) _ B4.out).mono ?_
      rintro e w5 ⟨v5, rfl, r5, b5⟩
      have B5 := Lib.hid (B4.out.trans (b5.mono B4.out.size))
      go_wp2_with fail
      refine (KB.out (by trivial) _ B5.out).mono ?_
      rintro e w6 ⟨v6, rfl, r6, b6⟩
      have B6 := Lib.hid (B5.out.trans (b6.mono B5.out.size))
      have b46 := b5.trans (b6.mono b5.size)
      have k0' := (b46.cell (by exact hx)).trans k0
      have k1' := (b46.cell (by exact hx)).trans k1
      have R0 := Lib.hid (s0.below b46)
      have R1 := Lib.hid (s1.below b46)
      have hx6 := Nat.lt_of_lt_of_le hx b46.size
      have Y1 := Lib.hid ((OutS.rd r5).below b6)
      have Y2 := Lib.hid (OutS.rd r6)
      obtain ⟨a5, c5, h5⟩ := Y1.out.len
      obtain ⟨a6, c6, h6⟩ := Y2.out.len
      rw [keys_len] at h5 h6
      subst h5
      subst h6
      clear k0 k1 s0 s1 r5 r6 b5 b6 b46 B4 B5 KA KB hx
      have LX : Hid (x.length ≤ 1000000) := Lib.hid (by have := X1.out; have := la.out; omega)
      have LY : Hid (y.length ≤ 1000000) := Lib.hid (by have := X2.out; have := lb.out; omega)
      have J1 := Lib.hid (fun w' (h : Below w6.heap.size w6 w') => I1.out la.out lb.out _ _ w' (Y1.out.below h) (Y2.out.below h))
      have J2 := Lib.hid (fun w' (h : Below w6.heap.size w6 w') => I2.out la.out lb.out _ _ w' (Y2.out.below h) (Y1.out.below h))
      clear I1 I2
      go_upto_region 5 with fail
      go_region_held3 (fun w' => w'.cell? ⟨bx, ox, none⟩ = some (.slice p0 x.length q0) ∧ w'.cell? ⟨bx, ox + 1, none⟩ = some (.slice p1 y.length q1))
        (first | exact ⟨k0', k1'⟩ | exact ⟨k70, k71⟩ | exact ⟨k90, k91⟩)
        (first
          | (go_at_call 9
             refine calls_at (args := #[.slice a5 a.length c5, .slice a6 b.length c6]) rfl (J1.out _ ?_) ?_
             (first | exact Below.refl _ _ | exact below_drewN (Below.refl _ _) _)
             rintro e w7 ⟨v7, rfl, r7, b7q⟩
             have b7 : Below w6.heap.size w6 w7 := (by first | exact of_drewN b7q | exact of_drew b7q | exact b7q)
             have k70 := (b7.cell (by exact hx6)).trans k0'
             have k71 := (b7.cell (by exact hx6)).trans k1'
             have R70 := Lib.hid (R0.out.below b7)
             have R71 := Lib.hid (R1.out.below b7)
             have R7 := Lib.hid r7
             have B7 := Lib.hid b7
             have hx7 := Nat.lt_of_lt_of_le hx6 b7.size
             clear r7 b7 b7q)
          | (go_at_call 9
             refine calls_at (args := #[.slice a6 b.length c6, .slice a5 a.length c5]) rfl (J2.out _ ?_) ?_
             (first | exact B7.out | exact below_drewN B7.out _)
             rintro e w9 ⟨v9, rfl, r9, b9q⟩
             have b9 : Below w7.heap.size w7 w9 := (by first | exact of_drewN b9q | exact of_drew b9q | exact b9q)
             have k90 := (b9.cell (by exact hx7)).trans k70
             have k91 := (b9.cell (by exact hx7)).trans k71
             have R91 := Lib.hid (R71.out.below b9)
             have R9 := Lib.hid r9
             have B9 := Lib.hid (B7.out.trans (b9.mono B7.out.size))
             clear r9 b9 b9q)
          | (go_at_call 8
             refine calls_at (args := #[.slice p0 x.length q0, v7]) rfl (rsame_eq _ _ x w7 R70.out R7.out LX.out) ?_
             rintro e w8 ⟨rfl, n8, rfl⟩)
          | (go_at_call 8
             refine calls_at (args := #[.slice p1 y.length q1, v9]) rfl (rsame_eq _ _ y w9 R91.out R9.out LY.out) ?_
             rintro e w10 ⟨rfl, n10, rfl⟩))
      all_goals (
        have B0 := Lib.hid B9.out
        clear k70 k71 k90 k91 R70 R71 R7 R91 R9 B7 B9 R0 R1 J1 J2 LX LY k0' k1' hx6
        go_wp2_with fail
        go_loopw [55] (fun i wr => ∃ k : Nat, k ≤ a.length ∧ i = .int .i64 k ∧ Hid (Below w6.heap.size w6 wr)) (fun i _ => a.length - (intOf i).toNat)
        case atStart => exact ⟨0, Nat.zero_le _, rfl, Lib.hid (by first | exact below_drewN B0.out _ | exact B0.out)⟩
        case round =>
          clear B0
          obtain ⟨k, hk, rfl, HB⟩ := hrel
          by_cases hlt : k < a.length
          · have hi1 : (k : Int) < (a.length : Int) := by omega
            have lla := la.out
            have BW := B6.out.trans (HB.out.mono B6.out.size)
            obtain ⟨ba, oa, vl, vs, ak1, ck1, haa, hba, hC⟩ := (RA.out.below BW).at k hlt
            subst haa
            obtain ⟨al1, cl1, rfl⟩ := hC.rd.len
            obtain ⟨as1, cs1, rfl⟩ := hC.sp.len
            have VA := Lib.hid (bkv_of hC)
            have c0 := hC.kind
            have c1 := hC.level
            have c2 := hC.info
            have c3 := hC.lines
            have c4 := hC.spans
            have c5' := hC.kids
            obtain ⟨bk', ok', hak, hbk, kx0⟩ := rd_at Y1.out k (by rw [keys_len]; exact hlt)
            rw [keys_at a k hlt] at kx0
            subst hak
            have kx := (HB.out.cell (by exact hbk)).trans kx0
            have hbk' : bk' < wr.heap.size := Nat.lt_of_lt_of_le hbk HB.out.size
            have TW := Lib.hid (HTb.out _ BW)
            have HE' := Lib.hid (fun v w' (r : BkV w' a[k] v) (t : Tab w') => HE.out (by trivial) k hlt v w' r t)
            clear hC kx0
            by_cases hib : k < b.length
            · have hj1 : (k : Int) < (b.length : Int) := by omega
              have g1 : decide ((k : Int) < (b.length : Int)) = true := decide_eq_true hj1
              obtain ⟨bb, ob, vl2, vs2, ak2, ck2, hbb, hbb', hD⟩ := (RB.out.below BW).at k hib
              subst hbb
              obtain ⟨al2, cl2, rfl⟩ := hD.rd.len
              obtain ⟨as2, cs2, rfl⟩ := hD.sp.len
              have VB := Lib.hid (bkv_of hD)
              have d0 := hD.kind
              have d1 := hD.level
              have d2 := hD.info
              have d3 := hD.lines
              have d4 := hD.spans
              have d5 := hD.kids
              have HX' := Lib.hid (fun v u w' (r : BkV w' a[k] v) (s : BkV w' b[k] u) (t : Tab w') => HX.out (by trivial) (by trivial) k hlt hib v u w' r s t)
              have HY' := Lib.hid (fun v u w' (r : BkV w' a[k] v) (s : BkV w' b[k] u) => HY.out (by trivial) (by trivial) k hlt hib v u w' r s)
              clear hD
              clear BW HE HX HY RA RB Y1 Y2
              generalize a[k] = xa at *
              generalize b[k] = xb at *
              generalize al xa xb = A at *
              generalize S (bk1 xa) = sx at *
              generalize xa.kids.length = kn1 at *
              generalize xa.spans.length = sn1 at *
              generalize xa.lines.length = ln1 at *
              generalize S xa.info = si1 at *
              generalize xa.level = lv1 at *
              generalize xa.kind = q1 at *
              generalize xb.kids.length = kn2 at *
              generalize xb.spans.length = sn2 at *
              generalize xb.lines.length = ln2 at *
              generalize S xb.info = si2 at *
              generalize xb.level = lv2 at *
              generalize xb.kind = q2 at *
              have J1 := Lib.hid (fun d os => Calls.regrown_of (HE'.out _ (Go.Sort.grow (redrawn wr d) os) (VA.out.below (below_regrown wr d os)) (TW.out.below (below_regrown wr d os))))
              have J2 := Lib.hid (fun d os => Calls.regrown_of (HX'.out _ _ (Go.Sort.grow (redrawn wr d) os) (VA.out.below (below_regrown wr d os)) (VB.out.below (below_regrown wr d os)) (TW.out.below (below_regrown wr d os))))
              have J3 := Lib.hid (fun d os => Calls.regrown_of (HY'.out _ _ (Go.Sort.grow (redrawn wr d) os) (VA.out.below (below_regrown wr d os)) (VB.out.below (below_regrown wr d os))))
              clear HE' VA HX' HY' VB TW
              have m0 := fun d os => cell_regrown (w := wr) c0 d os
              have m1 := fun d os => cell_regrown (w := wr) c1 d os
              have m2 := fun d os => cell_regrown (w := wr) c2 d os
              have m3 := fun d os => cell_regrown (w := wr) c3 d os
              have m4 := fun d os => cell_regrown (w := wr) c4 d os
              have m5 := fun d os => cell_regrown (w := wr) c5' d os
              have m6 := fun d os => cell_regrown (w := wr) kx d os
              have m7 := fun d os => cell_regrown (w := wr) d0 d os
              have m8 := fun d os => cell_regrown (w := wr) d1 d os
              have m9 := fun d os => cell_regrown (w := wr) d2 d os
              have m10 := fun d os => cell_regrown (w := wr) d3 d os
              have m11 := fun d os => cell_regrown (w := wr) d4 d os
              have m12 := fun d os => cell_regrown (w := wr) d5 d os
              go_wp2_with fail
              go_upto_region 10 with fail
              refine wp_region_quiet_below (by kernel_rfl) (by kernel_rfl) ?_
              repeat (go_big_quiet_step (first | (go_at_call 10; with_reducible exact J1.out _ _) | (go_at_call 11; with_reducible exact J2.out _ _) | (go_at_call 12; with_reducible exact J3.out _ _)))
              refine wpQuiet_nil ?_
              intro wz hwz
              obtain ⟨⟨dq, osq⟩, hwz'⟩ := hwz
              subst hwz'
              have hbz := below_regrown wr dq osq
              have HBZ := Lib.hid (HB.out.trans (hbz.mono HB.out.size))
              clear J1 J2 J3 m0 m1 m2 m3 m4 m5 m6 m7 m8 m9 m10 m11 m12 c0 c1 c2 c3 c4 c5' kx d0 d1 d2 d3 d4 d5 hbz HB
              dsimp only
              generalize Go.Sort.grow (redrawn wr dq) osq = wz at *
              go_wp2_with fail
              go_roundw
              case rel => exact ⟨k + 1, by omega, by go_num, HBZ⟩
              case measure => simp [intOf] <;> omega
            · have hn1 : True := trivial
              clear BW HE HX HY RA RB Y1 Y2
              generalize a[k] = xa at *
              generalize S (bk1 xa) = sx at *
              generalize xa.kids.length = kn1 at *
              generalize xa.spans.length = sn1 at *
              generalize xa.lines.length = ln1 at *
              generalize S xa.info = si1 at *
              generalize xa.level = lv1 at *
              generalize xa.kind = q1 at *
              have J1 := Lib.hid (fun d os => Calls.regrown_of (HE'.out _ (Go.Sort.grow (redrawn wr d) os) (VA.out.below (below_regrown wr d os)) (TW.out.below (below_regrown wr d os))))
              clear HE' VA TW
              have m0 := fun d os => cell_regrown (w := wr) c0 d os
              have m1 := fun d os => cell_regrown (w := wr) c1 d os
              have m2 := fun d os => cell_regrown (w := wr) c2 d os
              have m3 := fun d os => cell_regrown (w := wr) c3 d os
              have m4 := fun d os => cell_regrown (w := wr) c4 d os
              have m5 := fun d os => cell_regrown (w := wr) c5' d os
              have m6 := fun d os => cell_regrown (w := wr) kx d os
              go_wp2_with fail
              go_upto_region 10 with fail
              have hj1 : ¬ (k : Int) < (b.length : Int) := by omega
              have g2 : decide ((k : Int) < (b.length : Int)) = false := decide_eq_false hj1
              refine wp_region_quiet_below (by kernel_rfl) (by kernel_rfl) ?_
              repeat (go_big_quiet_step (first | (go_at_call 10; with_reducible exact J1.out _ _)))
              refine wpQuiet_nil ?_
              intro wz hwz
              obtain ⟨⟨dq, osq⟩, hwz'⟩ := hwz
              subst hwz'
              have hbz := below_regrown wr dq osq
              have HBZ := Lib.hid (HB.out.trans (hbz.mono HB.out.size))
              clear J1  m0 m1 m2 m3 m4 m5 m6 c0 c1 c2 c3 c4 c5' kx hbz HB
              dsimp only
              generalize Go.Sort.grow (redrawn wr dq) osq = wz at *
              go_wp2_with fail
              go_roundw
              case rel => exact ⟨k + 1, by omega, by go_num, HBZ⟩
              case measure => simp [intOf] <;> omega
          · obtain rfl : k = a.length := by omega
            have hi1 : ¬ (a.length : Int) < (a.length : Int) := by omega
            have HR := Lib.hid (B6.out.trans (HB.out.mono B6.out.size))
            clear HE HX HY RA RB Y1 Y2 HB B6
            go_wp2_with fail
            go_ret
            exact ⟨rfl, HR.out⟩)
end Go.Proofs.YtldllbmbcnipoaaGreatDoor.Nm
