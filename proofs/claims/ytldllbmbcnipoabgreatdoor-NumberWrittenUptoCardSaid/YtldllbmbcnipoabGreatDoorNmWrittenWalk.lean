import Derived.Test.YtldllbmbcnipoabGreatDoorPkWM
import Derived.Test.YtldllbmbcnipoabGreatDoorPkWAC
import Derived.Test.YtldllbmbcnipoabGreatDoorWrSize
import Derived.Lib.QuietBelow
namespace Go.Proofs.YtldllbmbcnipoabGreatDoor.Nm
open Go.RowKit
open Go.Proofs.YtldllbmbcnipoabGreatDoor.Tk (S S_of S_list S_size S_toList S_app Rd RdI ret_int)
open Go.Proofs.YtldllbmbcnipoabGreatDoor.Cm (cell_at alloc_new Keep Keep.of_below calls_at)
open Go.Proofs.YtldllbmbcnipoabGreatDoor.Sp (Sp Tr totAll OkAns)
open Go.Proofs.YtldllbmbcnipoabGreatDoor.Bt (TrB ttAll ttOne lnTot szAll szOne spAll ttAll_mem rgB)
open Go.Proofs.YtldllbmbcnipoabGreatDoor.Bk (Bk Tx wl)
open Go.Proofs.YtldllbmbcnipoabGreatDoor.Wr (documentW_any WrDoc wrE wrL)
set_option linter.unusedVariables false
theorem fit1w {R : Nat} {x : Bk} (h : Bt.fitOne R x) : Bt.fitAll R [x] := by unfold Bt.fitAll; exact ⟨h, by unfold Bt.fitAll; trivial⟩
theorem tt1w (x : Bk) : ttAll [x] = ttOne x := by rw [Bt.ttAll_cons]; simp [ttAll]
theorem wr_key (x y : Bk) (tx' : ttOne x ≤ 9000000) (ty' : ttOne y ≤ 9000000) (h1 : wrE [x] = 0) (h2 : wrE [y] = 0) :
    ((S (Ln.jn (wrL [x]) true)).toList == (S (Ln.jn (wrL [y]) true)).toList) = ((S (bk1 x)).toList == (S (bk1 y)).toList) := by
  have h6 : ∀ l : List Bk, wrE l = 0 → rgB l = true ∧ wrL l = wl l := fun l h => by
    unfold wrE at h
    unfold wrL
    by_cases g : rgB l = true
    · rw [if_pos g]; exact ⟨g, rfl⟩
    · rw [if_neg g] at h; cases h
  obtain ⟨g1, e1⟩ := h6 _ h1
  obtain ⟨g2, e2⟩ := h6 _ h2
  have hl := Wr.like g1 g2 (by rw [tt1w]; exact tx') (by rw [tt1w]; exact ty')
  rw [e1, e2, S_toList, S_toList, S_toList, S_toList, Bool.eq_iff_iff, beq_iff_eq, beq_iff_eq, hl]
  constructor
  · intro h; simp at h; rw [h]
  · intro h; rw [key_inj h]
theorem wr_e (l : List Bk) : wrE l = 6 ∨ wrE l = 0 := by
  unfold wrE
  split
  · exact Or.inr rfl
  · exact Or.inl rfl
set_option maxHeartbeats 6400000 in
set_option maxRecDepth 100000 in
theorem numberWritten_walk (K : Told15) (w : World) (hT : Tab w) (va : Value) (a : List Bk) (ra : TrB w va a) (fa : Bt.fitAll reachBytes a) (ta : ttAll a ≤ 1048576) (vb : Value) (b : List Bk) (rb : TrB w vb b) (fb : Bt.fitAll reachBytes b) (tb : ttAll b ≤ 1048576) :
    Calls Tryz.prog 3 #[va, vb] w (OkAns w true) := by
  have HTb := Lib.hid (fun w' (h : Below w.heap.size w w') => hT.below h)
  have HA := Lib.hid (fun w' (h : Below w.heap.size w w') => awake15_any K w' (hT.below h))
  have FA := Lib.hid (fun w' (h : Below w.heap.size w w') => few15_any a va w' (ra.below h) fa)
  have FB := Lib.hid (fun w' (h : Below w.heap.size w w') => few15_any b vb w' (rb.below h) fb)
  have fa' := Bt.fitAll_wide (R' := 140737488355328) (by decide) _ fa
  have fb' := Bt.fitAll_wide (R' := 140737488355328) (by decide) _ fb
  have HEb := Lib.hid (fun (h : fewN b = true) i (hi : i < b.length) v w' (r : BkV w' b[i] v) (t : Tab w') => K.key b[i] v w' r t (by have := (fewN_tt h tb).2; have := ttAll_mem (List.getElem_mem hi); omega) (Bt.fitAll_at fb' _ (List.getElem_mem hi)))
  have HE := Lib.hid (fun (h : fewN a = true) i (hi : i < a.length) v w' (r : BkV w' a[i] v) (t : Tab w') => K.key a[i] v w' r t (by have := (fewN_tt h ta).2; have := ttAll_mem (List.getElem_mem hi); omega) (Bt.fitAll_at fa' _ (List.getElem_mem hi)))
  have LA : Hid (fewN a = true → a.length ≤ 20) := Lib.hid (fun h => (fewN_tt h ta).1)
  have LB : Hid (fewN b = true → b.length ≤ 20) := Lib.hid (fun h => (fewN_tt h tb).1)
  have fsa := Bt.fitAll_tt a fa ta
  have fsb := Bt.fitAll_tt b fb tb
  have HDa := Lib.hid (fun (h : fewN a = true) i (hi : i < a.length) v w' (r : TrB w' v [a[i]]) => documentW_any v [a[i]] w' r (fit1w (Bt.fitAll_at fsa _ (List.getElem_mem hi))) (by have := (fewN_tt h ta).2; have := ttAll_mem (List.getElem_mem hi); rw [tt1w]; omega))
  have HDb := Lib.hid (fun (h : fewN b = true) i (hi : i < b.length) v w' (r : TrB w' v [b[i]]) => documentW_any v [b[i]] w' r (fit1w (Bt.fitAll_at fsb _ (List.getElem_mem hi))) (by have := (fewN_tt h tb).2; have := ttAll_mem (List.getElem_mem hi); rw [tt1w]; omega))
  have HQk := Lib.hid (fun i (hi : i < a.length) j (hj : j < b.length) => wr_key a[i] b[j] (by have := ttAll_mem (List.getElem_mem hi); omega) (by have := ttAll_mem (List.getElem_mem hj); omega))
  have RA := Lib.hid ra
  have RB := Lib.hid rb
  obtain ⟨aa, ca, rfl⟩ := ra.len
  obtain ⟨ab, cb, rfl⟩ := rb.len
  clear ra fa ta rb fb tb K fa' fb' hT fsa fsb
  unfold BoolA at HA FA FB
  unfold StrA at HE HEb
  unfold WrDoc at HDa HDb
  unfold OkAns
  generalize fewN a = f1 at *
  generalize fewN b = f2 at *
  go_enter Tryz.func3, Tryz.ntmps3
  go_wp2_with fail
  refine (HA.out _ (Below.refl _ _)).mono ?_
  rintro e w1 ⟨rfl, b1⟩
  have B1 := Lib.hid b1
  clear b1
  go_wp2_with fail
  refine (FA.out _ B1.out).mono ?_
  rintro e w2 ⟨rfl, b2⟩
  have B2 := Lib.hid (B1.out.trans (b2.mono B1.out.size))
  clear b2 B1 FA
  cases f1 with
  | false =>
    go_wp2_with fail
    refine (HA.out _ B2.out).mono ?_
    rintro e w4 ⟨rfl, b4⟩
    have B4 := Lib.hid (B2.out.trans (b4.mono B2.out.size))
    clear b4
    go_wp2_with fail
    go_ret
    exact ⟨rfl, B4.out⟩
  | true =>
    go_wp2_with fail
    refine (FB.out _ B2.out).mono ?_
    rintro e w3 ⟨rfl, b3⟩
    have B3 := Lib.hid (B2.out.trans (b3.mono B2.out.size))
    clear b3 B2 FB
    cases f2 with
    | false =>
      go_wp2_with fail
      refine (HA.out _ B3.out).mono ?_
      rintro e w4 ⟨rfl, b4⟩
      have B4 := Lib.hid (B3.out.trans (b4.mono B3.out.size))
      clear b4
      go_wp2_with fail
      go_ret
      exact ⟨rfl, B4.out⟩
    | true =>
      have la := Lib.hid (LA.out (by trivial))
      have lb := Lib.hid (LB.out (by trivial))
      clear LA LB HA
      have lla := la.out
      have llb := lb.out
      go_wp2_with fail
      go_loopw [26] (fun i wr => ∃ k : Nat, k ≤ a.length ∧ i = .int .i64 k ∧ Hid (Below w3.heap.size w3 wr)) (fun i _ => a.length - (intOf i).toNat)
      case atStart => exact ⟨0, Nat.zero_le _, rfl, Lib.hid (Below.refl _ _)⟩
      case round =>
        obtain ⟨i, hi, rfl, HB0⟩ := hrel
        by_cases hil : i < a.length
        · have hi1 : (i : Int) < (a.length : Int) := by omega
          go_wp2_with fail
          go_loopw [31] (fun t wr => ∃ k : Nat, k ≤ b.length ∧ t = .int .i64 k ∧ Hid (Below w3.heap.size w3 wr)) (fun t _ => b.length - (intOf t).toNat)
          case atStart => exact ⟨0, Nat.zero_le _, rfl, HB0⟩
          case round =>
            clear HB0
            obtain ⟨j, hj, rfl, HB⟩ := hrel
            by_cases hjl : j < b.length
            · have hj1 : (j : Int) < (b.length : Int) := by omega
              have BW := B3.out.trans (HB.out.mono B3.out.size)
              have hTa := RA.out.below BW
              have hTb := RB.out.below BW
              obtain ⟨ba, oa, vl, vs, ak1, ck1, haa, hba, hC⟩ := hTa.at i hil
              subst haa
              obtain ⟨bb, ob, vl2, vs2, ak2, ck2, hbb, hbb', hD⟩ := hTb.at j hjl
              subst hbb
              obtain ⟨hS, hcap⟩ := Bt.sliceB hTa i hil
              obtain ⟨hS2, hcap2⟩ := Bt.sliceB hTb j hjl
              have hs1 : (i : Int) + 1 ≤ (ca : Int) := by omega
              have hs2 : IntKind.i64.wrap ((i : Int) + 1) = (i : Int) + 1 := by rw [IntKind.wrap_i64]; omega
              have hkc : i < ca := by omega
              have hs3 : (j : Int) + 1 ≤ (cb : Int) := by omega
              have hs4 : IntKind.i64.wrap ((j : Int) + 1) = (j : Int) + 1 := by rw [IntKind.wrap_i64]; omega
              have hkc2 : j < cb := by omega
              have JD1 := Lib.hid (HDa.out (by trivial) i hil _ wr hS)
              have JD2 := Lib.hid (fun w' (h : Below wr.heap.size wr w') => HDb.out (by trivial) j hjl _ w' (hS2.below h))
              obtain ⟨al1, cl1, rfl⟩ := hC.rd.len
              obtain ⟨as1, cs1, rfl⟩ := hC.sp.len
              obtain ⟨al2, cl2, rfl⟩ := hD.rd.len
              obtain ⟨as2, cs2, rfl⟩ := hD.sp.len
              have VA := Lib.hid (bkv_of hC)
              have VB := Lib.hid (bkv_of hD)
              have TW := Lib.hid (HTb.out _ BW)
              have HE' := Lib.hid (fun v w' (r : BkV w' a[i] v) (t : Tab w') => HE.out (by trivial) i hil v w' r t)
              have HEb' := Lib.hid (fun v w' (r : BkV w' b[j] v) (t : Tab w') => HEb.out (by trivial) j hjl v w' r t)
              have HQ := Lib.hid (HQk.out i hil j hjl)
              have c0 := hC.kind
              have c1 := hC.level
              have c2 := hC.info
              have c3 := hC.lines
              have c4 := hC.spans
              have c5' := hC.kids
              have d0 := hD.kind
              have d1 := hD.level
              have d2 := hD.info
              have d3 := hD.lines
              have d4 := hD.spans
              have d5 := hD.kids
              have hea := wr_e [a[i]]
              have heb := wr_e [b[j]]
              clear hC hD hTa hTb hS hS2 BW RA RB HE HEb HDa HDb HQk
              generalize Ln.jn (wrL [a[i]]) true = ja at *
              generalize Ln.jn (wrL [b[j]]) true = jb at *
              generalize wrE [a[i]] = ea at *
              generalize wrE [b[j]] = eb at *
              go_upto_region 9 with fail
              go_wp2_with fail
              refine JD1.out.mono ?_
              rintro e w6 ⟨rfl, b6⟩
              have B6 := Lib.hid b6
              have JD2' := Lib.hid (JD2.out w6 b6)
              clear b6 JD1 JD2
              go_wp2_with fail
              refine JD2'.out.mono ?_
              rintro e wz ⟨rfl, b7⟩
              have hbz := B6.out.trans (b7.mono B6.out.size)
              have HBZ := Lib.hid (HB.out.trans (hbz.mono HB.out.size))
              have VA' := Lib.hid (VA.out.below hbz)
              have VB' := Lib.hid (VB.out.below hbz)
              have TW' := Lib.hid (TW.out.below hbz)
              have e0 := (hbz.cell (by exact hba)).trans c0
              have e1 := (hbz.cell (by exact hba)).trans c1
              have e2 := (hbz.cell (by exact hba)).trans c2
              have e3 := (hbz.cell (by exact hba)).trans c3
              have e4 := (hbz.cell (by exact hba)).trans c4
              have e5 := (hbz.cell (by exact hba)).trans c5'
              have e6 := (hbz.cell (by exact hbb')).trans d0
              have e7 := (hbz.cell (by exact hbb')).trans d1
              have e8 := (hbz.cell (by exact hbb')).trans d2
              have e9 := (hbz.cell (by exact hbb')).trans d3
              have e10 := (hbz.cell (by exact hbb')).trans d4
              have e11 := (hbz.cell (by exact hbb')).trans d5
              clear B6 b7 JD2' hbz HB VA VB TW c0 c1 c2 c3 c4 c5' d0 d1 d2 d3 d4 d5 hs1 hs2 hs3 hs4 hkc hkc2 hcap hcap2
              have J1 := Lib.hid (fun d os => Calls.regrown_of (HE'.out _ (Go.Sort.grow (redrawn wz d) os) (VA'.out.below (below_regrown wz d os)) (TW'.out.below (below_regrown wz d os))))
              have J2 := Lib.hid (fun d os => Calls.regrown_of (HEb'.out _ (Go.Sort.grow (redrawn wz d) os) (VB'.out.below (below_regrown wz d os)) (TW'.out.below (below_regrown wz d os))))
              have m0 := fun d os => cell_regrown (w := wz) e0 d os
              have m1 := fun d os => cell_regrown (w := wz) e1 d os
              have m2 := fun d os => cell_regrown (w := wz) e2 d os
              have m3 := fun d os => cell_regrown (w := wz) e3 d os
              have m4 := fun d os => cell_regrown (w := wz) e4 d os
              have m5 := fun d os => cell_regrown (w := wz) e5 d os
              have m6 := fun d os => cell_regrown (w := wz) e6 d os
              have m7 := fun d os => cell_regrown (w := wz) e7 d os
              have m8 := fun d os => cell_regrown (w := wz) e8 d os
              have m9 := fun d os => cell_regrown (w := wz) e9 d os
              have m10 := fun d os => cell_regrown (w := wz) e10 d os
              have m11 := fun d os => cell_regrown (w := wz) e11 d os
              clear HE' HEb' VA' VB' TW'
              generalize S (bk1 a[i]) = sx at *
              generalize S (bk1 b[j]) = sy at *
              generalize S ja = xa at *
              generalize S jb = xb at *
              generalize a[i].kids.length = kn1 at *
              generalize a[i].spans.length = sn1 at *
              generalize a[i].lines.length = ln1 at *
              generalize S a[i].info = si1 at *
              generalize a[i].level = lv1 at *
              generalize a[i].kind = k1 at *
              generalize b[j].kids.length = kn2 at *
              generalize b[j].spans.length = sn2 at *
              generalize b[j].lines.length = ln2 at *
              generalize S b[j].info = si2 at *
              generalize b[j].level = lv2 at *
              generalize b[j].kind = k2 at *
              rcases hea with h | h
              · subst h
                clear HQ heb
                go_wp2_with fail
                go_upto_region 11 with fail
                refine wp_region_quiet_below (by kernel_rfl) (by kernel_rfl) ?_
                repeat (go_big_quiet_step (first | (go_at_call 7; first | with_reducible exact J1.out _ _ | with_reducible exact J2.out _ _)))
                refine wpQuiet_nil ?_
                intro wy hwy
                obtain ⟨⟨dq2, osq2⟩, hwy'⟩ := hwy
                subst hwy'
                have hby := below_regrown wz dq2 osq2
                have HBY := Lib.hid (HBZ.out.trans (hby.mono HBZ.out.size))
                clear J1 J2 m0 m1 m2 m3 m4 m5 m6 m7 m8 m9 m10 m11 e0 e1 e2 e3 e4 e5 e6 e7 e8 e9 e10 e11 hby HBZ
                dsimp only
                generalize Go.Sort.grow (redrawn wz dq2) osq2 = wy at *
                go_wp2_with fail
                go_roundw
                case rel => exact ⟨j + 1, by omega, by go_num, HBY⟩
                case measure => simp [intOf] <;> omega
              · subst h
                rcases heb with h | h
                · subst h
                  clear HQ
                  go_wp2_with fail
                  go_upto_region 11 with fail
                  refine wp_region_quiet_below (by kernel_rfl) (by kernel_rfl) ?_
                  repeat (go_big_quiet_step (first | (go_at_call 7; first | with_reducible exact J1.out _ _ | with_reducible exact J2.out _ _)))
                  refine wpQuiet_nil ?_
                  intro wy hwy
                  obtain ⟨⟨dq2, osq2⟩, hwy'⟩ := hwy
                  subst hwy'
                  have hby := below_regrown wz dq2 osq2
                  have HBY := Lib.hid (HBZ.out.trans (hby.mono HBZ.out.size))
                  clear J1 J2 m0 m1 m2 m3 m4 m5 m6 m7 m8 m9 m10 m11 e0 e1 e2 e3 e4 e5 e6 e7 e8 e9 e10 e11 hby HBZ
                  dsimp only
                  generalize Go.Sort.grow (redrawn wz dq2) osq2 = wy at *
                  go_wp2_with fail
                  go_roundw
                  case rel => exact ⟨j + 1, by omega, by go_num, HBY⟩
                  case measure => simp [intOf] <;> omega
                · subst h
                  have hQ := HQ.out rfl rfl
                  clear HQ
                  obtain ⟨d, hd⟩ : ∃ d, (sx.toList == sy.toList) = d := ⟨_, rfl⟩
                  rw [hd] at hQ
                  have HQ1 := Lib.hid hQ
                  have HQ2 := Lib.hid hd
                  clear hQ hd
                  cases d with
                  | true =>
                    go_wp2_with fail
                    go_upto_region 11 with fail
                    have hq1 := HQ1.out
                    have hq2 := HQ2.out
                    refine wp_region_quiet_below (by kernel_rfl) (by kernel_rfl) ?_
                    repeat (go_big_quiet_step (first | (go_at_call 7; first | with_reducible exact J1.out _ _ | with_reducible exact J2.out _ _)))
                    refine wpQuiet_nil ?_
                    intro wy hwy
                    obtain ⟨⟨dq2, osq2⟩, hwy'⟩ := hwy
                    subst hwy'
                    have hby := below_regrown wz dq2 osq2
                    have HBY := Lib.hid (HBZ.out.trans (hby.mono HBZ.out.size))
                    clear J1 J2 m0 m1 m2 m3 m4 m5 m6 m7 m8 m9 m10 m11 e0 e1 e2 e3 e4 e5 e6 e7 e8 e9 e10 e11 hby HBZ hq1 hq2 HQ1 HQ2
                    dsimp only
                    generalize Go.Sort.grow (redrawn wz dq2) osq2 = wy at *
                    go_wp2_with fail
                    go_roundw
                    case rel => exact ⟨j + 1, by omega, by go_num, HBY⟩
                    case measure => simp [intOf] <;> omega
                  | false =>
                    go_wp2_with fail
                    go_upto_region 11 with fail
                    have hq1 := HQ1.out
                    have hq2 := HQ2.out
                    refine wp_region_quiet_below (by kernel_rfl) (by kernel_rfl) ?_
                    repeat (go_big_quiet_step (first | (go_at_call 7; first | with_reducible exact J1.out _ _ | with_reducible exact J2.out _ _)))
                    refine wpQuiet_nil ?_
                    intro wy hwy
                    obtain ⟨⟨dq2, osq2⟩, hwy'⟩ := hwy
                    subst hwy'
                    have hby := below_regrown wz dq2 osq2
                    have HBY := Lib.hid (HBZ.out.trans (hby.mono HBZ.out.size))
                    clear J1 J2 m0 m1 m2 m3 m4 m5 m6 m7 m8 m9 m10 m11 e0 e1 e2 e3 e4 e5 e6 e7 e8 e9 e10 e11 hby HBZ hq1 hq2 HQ1 HQ2
                    dsimp only
                    generalize Go.Sort.grow (redrawn wz dq2) osq2 = wy at *
                    go_wp2_with fail
                    go_roundw
                    case rel => exact ⟨j + 1, by omega, by go_num, HBY⟩
                    case measure => simp [intOf] <;> omega
            · obtain rfl : j = b.length := by omega
              have hj1 : ¬ (b.length : Int) < (b.length : Int) := by omega
              clear hjl
              go_wp2_with fail
              go_roundw
              case rel => exact ⟨i + 1, by omega, by go_num, HB⟩
              case measure => simp [intOf] <;> omega
        · obtain rfl : i = a.length := by omega
          have hi1 : ¬ (a.length : Int) < (a.length : Int) := by omega
          have HR := Lib.hid (B3.out.trans (HB0.out.mono B3.out.size))
          clear RA RB HE HEb HDa HDb HQk HB0 hil
          go_wp2_with fail
          go_ret
          exact ⟨rfl, HR.out⟩
end Go.Proofs.YtldllbmbcnipoabGreatDoor.Nm
