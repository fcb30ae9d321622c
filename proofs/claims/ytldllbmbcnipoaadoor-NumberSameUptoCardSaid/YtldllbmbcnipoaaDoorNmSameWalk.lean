/-
  THE WALK of the statement NumberSame (gen_tells.py writes it).
-/
import Derived.Test.YtldllbmbcnipoaaDoorPkNQ
import Derived.Test.YtldllbmbcnipoaaDoorNmMore
import Derived.Lib.QuietBelow
import Derived.Test.YtldllbmbcnipoaaDoorBtParts
namespace Go.Proofs.YtldllbmbcnipoaaDoor.Nm
open Go.RowKit
open Go.Proofs.YtldllbmbcnipoaaDoor.Tk (S S_of S_list S_size S_toList S_app Rd RdI ret_int)
open Go.Proofs.YtldllbmbcnipoaaDoor.Cm (cell_at alloc_new Keep Keep.of_below calls_at)
open Go.Proofs.YtldllbmbcnipoaaDoor.Sp (Sp Tr totAll OkAns)
open Go.Proofs.YtldllbmbcnipoaaDoor.Bt (TrB ttAll ttOne lnTot szAll szOne smB spAll ttAll_mem)
open Go.Proofs.YtldllbmbcnipoaaDoor.Bk (Bk Tx)
open Go.Proofs.YtldllbmbcnipoaaDoor.Pa (OutS OutG)
set_option linter.unusedVariables false

theorem sm_iff (x y : Bk) : smB [x] [y] = true ↔ x = y := by
  rw [Bt.smB_iff]; simp
theorem key_sm (x y : Bk) : ((S (bk1 x)).toList == (S (bk1 y)).toList) = smB [x] [y] := by
  rw [S_toList, S_toList]
  by_cases h : x = y
  · rw [(sm_iff x y).2 h, h]; simp
  · have h1 : smB [x] [y] = false := by
      cases h2 : smB [x] [y] with
      | true => exact absurd ((sm_iff x y).1 h2) h
      | false => rfl
    rw [h1]
    exact beq_eq_false_iff_ne.2 (fun e => h (key_inj e))
theorem ids_sm (a b : List Bk) (i : Nat) (hi : i < a.length) (j : Nat) (hj : j < b.length) (h1 : i < (Tk.rk (keys a ++ keys b) (keys a)).length) (h2 : j < (Tk.rk (keys a ++ keys b) (keys b)).length) :
    ((Tk.rk (keys a ++ keys b) (keys a))[i] == (Tk.rk (keys a ++ keys b) (keys b))[j]) = smB [a[i]] [b[j]] := by
  have e1 : (Tk.rk (keys a ++ keys b) (keys a))[i] = (Tk.rank (keys a ++ keys b) (bk1 a[i]) : Int) := by simp [Tk.rk, keys]
  have e2 : (Tk.rk (keys a ++ keys b) (keys b))[j] = (Tk.rank (keys a ++ keys b) (bk1 b[j]) : Int) := by simp [Tk.rk, keys]
  rw [e1, e2]
  have m1 : bk1 a[i] ∈ keys a ++ keys b := List.mem_append_left _ (List.mem_map.2 ⟨_, List.getElem_mem hi, rfl⟩)
  have m2 : bk1 b[j] ∈ keys a ++ keys b := List.mem_append_right _ (List.mem_map.2 ⟨_, List.getElem_mem hj, rfl⟩)
  by_cases h : a[i] = b[j]
  · rw [(sm_iff _ _).2 h, h]; simp
  · have h3 : smB [a[i]] [b[j]] = false := by
      cases h2 : smB [a[i]] [b[j]] with
      | true => exact absurd ((sm_iff _ _).1 h2) h
      | false => rfl
    rw [h3]
    refine beq_eq_false_iff_ne.2 (fun e => h (key_inj ((Tk.rank_eq m1 m2).2 (by omega))))
theorem rdi_at {w : World} {ao : Option Addr} {n c : Nat} {x : List Int} (h : RdI 0 w (.slice ao n c) x) : ∀ i (hi : i < x.length), ∃ b, ao = some ⟨b, 0, none⟩ ∧ b < w.heap.size ∧ w.cell? ⟨b, i, none⟩ = some (.int .i64 x[i]) := by
  intro i hi
  obtain ⟨ao', c', hv, _, hx⟩ := h
  simp only [Value.slice.injEq] at hv
  obtain ⟨rfl, _, _⟩ := hv
  rcases hx with hx | ⟨b, rfl, _, hlt, hcell⟩
  · rw [hx] at hi; exact absurd hi (Nat.not_lt_zero _)
  · exact ⟨b, rfl, hlt, hcell i _ (List.getElem?_eq_getElem hi)⟩
theorem keys_at (a : List Bk) (i : Nat) (hi : i < a.length) : (keys a)[i]'(by rw [keys_len]; exact hi) = bk1 a[i] := List.getElem_map ..
set_option maxHeartbeats 6400000 in
set_option maxRecDepth 100000 in
theorem numberSame_walk (K : Told15) (w : World) (hT : Tab w) (va : Value) (a : List Bk) (ra : TrB w va a) (fa : Bt.fitAll reachBytes a) (ta : ttAll a ≤ 1048576) (vb : Value) (b : List Bk) (rb : TrB w vb b) (fb : Bt.fitAll reachBytes b) (tb : ttAll b ≤ 1048576) :
    Calls Tryd.prog 3 #[va, vb] w (OkAns w true) := by
  have HTb := Lib.hid (fun w' (h : Below w.heap.size w w') => hT.below h)
  have HA := Lib.hid (fun w' (h : Below w.heap.size w w') => awake15_any K w' (hT.below h))
  have FA := Lib.hid (fun w' (h : Below w.heap.size w w') => few15_any a va w' (ra.below h) fa)
  have FB := Lib.hid (fun w' (h : Below w.heap.size w w') => few15_any b vb w' (rb.below h) fb)
  have fa' := Bt.fitAll_wide (R' := 140737488355328) (by decide) _ fa
  have fb' := Bt.fitAll_wide (R' := 140737488355328) (by decide) _ fb
  have K2 := Lib.hid (fun (h : fewN a = true) (g : fewN b = true) v w' (r : LsB w' v [a, b]) (t : Tab w') => K.ids v [a, b] w' r t (by simp) (fun l hl => by
    have h1 := (fewN_tt h ta).2
    have h2 := (fewN_tt g tb).2
    rcases List.mem_cons.1 hl with rfl | hl
    · exact ⟨by omega, fa'⟩
    · rw [List.mem_singleton.1 hl]; exact ⟨by omega, fb'⟩))
  have HEb := Lib.hid (fun (h : fewN b = true) i (hi : i < b.length) v w' (r : BkV w' b[i] v) (t : Tab w') => K.key b[i] v w' r t (by have := (fewN_tt h tb).2; have := ttAll_mem (List.getElem_mem hi); omega) (Bt.fitAll_at fb' _ (List.getElem_mem hi)))
  have HE := Lib.hid (fun (h : fewN a = true) i (hi : i < a.length) v w' (r : BkV w' a[i] v) (t : Tab w') => K.key a[i] v w' r t (by have := (fewN_tt h ta).2; have := ttAll_mem (List.getElem_mem hi); omega) (Bt.fitAll_at fa' _ (List.getElem_mem hi)))
  have LA : Hid (fewN a = true → a.length ≤ 20) := Lib.hid (fun h => (fewN_tt h ta).1)
  have LB : Hid (fewN b = true → b.length ≤ 20) := Lib.hid (fun h => (fewN_tt h tb).1)
  have X1 : Hid ((Tk.rk (keys a ++ keys b) (keys a)).length = a.length) := Lib.hid (by rw [rk_len, keys_len])
  have X2 : Hid ((Tk.rk (keys a ++ keys b) (keys b)).length = b.length) := Lib.hid (by rw [rk_len, keys_len])
  have HSm := Lib.hid (fun i (hi : i < a.length) j (hj : j < b.length) va vb w' (h1 : TrB w' va [a[i]]) (h2 : TrB w' vb [b[j]]) => Bt.rsameB_any (szAll [a[i]]) [a[i]] [b[j]] va vb w' (Nat.le_refl _) h1 h2)
  have HKy := Lib.hid (fun i (hi : i < a.length) j (hj : j < b.length) => key_sm a[i] b[j])
  have HId := Lib.hid (ids_sm a b)
  unfold OkAns at HSm
  have RA := Lib.hid ra
  have RB := Lib.hid rb
  obtain ⟨aa, ca, rfl⟩ := ra.len
  obtain ⟨ab, cb, rfl⟩ := rb.len
  rw [idL_two] at K2
  clear ra fa ta rb fb tb K fa' fb' hT
  unfold BoolA at HA FA FB
  unfold StrA at HE HEb
  unfold OkAns
  generalize Tk.rk (keys a ++ keys b) (keys a) = x at *
  generalize Tk.rk (keys a ++ keys b) (keys b) = y at *
  generalize fewN a = f1 at *
  generalize fewN b = f2 at *
  go_enter Tryd.func3, Tryd.ntmps3
  go_wp2_with fail
  refine (HA.out _ (Below.refl _ _)).mono ?_
  rintro e w1 ⟨rfl, b1⟩
  have B1 := Lib.hid b1
  clear b1
  go_wp2_with fail
  refine (FA.out _ B1.out).mono ?_
  rintro e w2 ⟨rfl, b2⟩
  have B2 := Lib.hid (B1.out.trans (b2.mono B1.out.size))
  clear b2 B1 FA
  cases f1 with
  | false =>
    go_wp2_with fail
    refine (HA.out _ B2.out).mono ?_
    rintro e w4 ⟨rfl, b4⟩
    have B4 := Lib.hid (B2.out.trans (b4.mono B2.out.size))
    clear b4
    go_wp2_with fail
    go_ret
    exact ⟨rfl, B4.out⟩
  | true =>
    go_wp2_with fail
    refine (FB.out _ B2.out).mono ?_
    rintro e w3 ⟨rfl, b3⟩
    have B3 := Lib.hid (B2.out.trans (b3.mono B2.out.size))
    clear b3 B2 FB
    cases f2 with
    | false =>
      go_wp2_with fail
      refine (HA.out _ B3.out).mono ?_
      rintro e w4 ⟨rfl, b4⟩
      have B4 := Lib.hid (B3.out.trans (b4.mono B3.out.size))
      clear b4
      go_wp2_with fail
      go_ret
      exact ⟨rfl, B4.out⟩
    | true =>
      have la := Lib.hid (LA.out (by trivial))
      have lb := Lib.hid (LB.out (by trivial))
      have H2 := Lib.hid (K2.out (by trivial) (by trivial) _ _ (lsb2 (t := 22) (RA.out.below B3.out) (RB.out.below B3.out)) (HTb.out _ (B3.out.alloc B3.out.size _)))
      clear K2 LA LB HA
      go_wp2_with fail
      refine H2.out.mono ?_
      rintro e w4 ⟨v4, rfl, r4, b4⟩
      obtain ⟨bx, ox, cx, p0, q0, p1, q1, rfl, hx, k0, s0, k1, s1⟩ := rdj_two r4
      have B4 := Lib.hid ((B3.out.alloc B3.out.size _).trans (b4.mono (by simp; have := B3.out.size; omega)))
      have x1 := X1.out
      have x2 := X2.out
      rw [x1] at k0 s0
      rw [x2] at k1 s1
      have R0 := Lib.hid s0
      have R1 := Lib.hid s1
      have K0 := Lib.hid k0
      have K1 := Lib.hid k1
      clear r4 b4 B3 H2 s0 s1 x1 x2
      have lla := la.out
      have llb := lb.out
      go_wp2_with fail
      clear k0 k1
      go_loopw [49] (fun i wr => ∃ k : Nat, k ≤ a.length ∧ i = .int .i64 k ∧ Hid (Below w4.heap.size w4 wr)) (fun i _ => a.length - (intOf i).toNat)
      case atStart => exact ⟨0, Nat.zero_le _, rfl, Lib.hid (Below.refl _ _)⟩
      case round =>
        obtain ⟨i, hi, rfl, HB0⟩ := hrel
        by_cases hil : i < a.length
        · have hi1 : (i : Int) < (a.length : Int) := by omega
          go_wp2_with fail
          go_loopw [54] (fun t wr => ∃ k : Nat, k ≤ b.length ∧ t = .int .i64 k ∧ Hid (Below w4.heap.size w4 wr)) (fun t _ => b.length - (intOf t).toNat)
          case atStart => exact ⟨0, Nat.zero_le _, rfl, HB0⟩
          case round =>
            clear HB0
            obtain ⟨j, hj, rfl, HB⟩ := hrel
            by_cases hjl : j < b.length
            · have hj1 : (j : Int) < (b.length : Int) := by omega
              have BW := B4.out.trans (HB.out.mono B4.out.size)
              have hT := RA.out.below BW
              have hU := RB.out.below BW
              obtain ⟨ba, oa, vl, vs, ak1, ck1, haa, hba, hC⟩ := hT.at i hil
              subst haa
              obtain ⟨bb, ob, vl2, vs2, ak2, ck2, hbb, hbb', hD⟩ := hU.at j hjl
              subst hbb
              obtain ⟨hS, hcap⟩ := Bt.sliceB hT i hil
              obtain ⟨hS2, hcap2⟩ := Bt.sliceB hU j hjl
              have hs1 : (i : Int) + 1 ≤ (ca : Int) := by omega
              have hs2 : IntKind.i64.wrap ((i : Int) + 1) = (i : Int) + 1 := by rw [IntKind.wrap_i64]; omega
              have hkc : i < ca := by omega
              have hs3 : (j : Int) + 1 ≤ (cb : Int) := by omega
              have hs4 : IntKind.i64.wrap ((j : Int) + 1) = (j : Int) + 1 := by rw [IntKind.wrap_i64]; omega
              have hkc2 : j < cb := by omega
              have JS := Lib.hid (fun d os => Calls.regrown_of (HSm.out i hil j hjl _ _ (Go.Sort.grow (redrawn wr d) os) (hS.below (below_regrown wr d os)) (hS2.below (below_regrown wr d os))))
              obtain ⟨al1, cl1, rfl⟩ := hC.rd.len
              obtain ⟨as1, cs1, rfl⟩ := hC.sp.len
              obtain ⟨al2, cl2, rfl⟩ := hD.rd.len
              obtain ⟨as2, cs2, rfl⟩ := hD.sp.len
              have VA := Lib.hid (bkv_of hC)
              have VB := Lib.hid (bkv_of hD)
              have TW := Lib.hid (HTb.out _ BW)
              have HE' := Lib.hid (fun v w' (r : BkV w' a[i] v) (t : Tab w') => HE.out (by trivial) i hil v w' r t)
              have HEb' := Lib.hid (fun v w' (r : BkV w' b[j] v) (t : Tab w') => HEb.out (by trivial) j hjl v w' r t)
              obtain ⟨bi, hbi, hli, ci0⟩ := rdi_at R0.out i (by rw [X1.out]; exact hil)
              obtain ⟨bj, hbj, hlj, cj0⟩ := rdi_at R1.out j (by rw [X2.out]; exact hjl)
              subst hbi
              subst hbj
              have HQ := HKy.out i hil j hjl
              have HN := HId.out i hil j hjl (by rw [X1.out]; exact hil) (by rw [X2.out]; exact hjl)
              have ci := (HB.out.cell (by exact hli)).trans ci0
              have cj := (HB.out.cell (by exact hlj)).trans cj0
              have ck0 := (HB.out.cell (by exact hx)).trans K0.out
              have ck1' := (HB.out.cell (by exact hx)).trans K1.out
              have c0 := hC.kind
              have c1 := hC.level
              have c2 := hC.info
              have c3 := hC.lines
              have c4 := hC.spans
              have c5' := hC.kids
              have d0 := hD.kind
              have d1 := hD.level
              have d2 := hD.info
              have d3 := hD.lines
              have d4 := hD.spans
              have d5 := hD.kids
              have HC := Lib.hid hC
              have HD := Lib.hid hD
              clear hC hD hT hU hS hS2 BW ci0 cj0 RA RB R0 R1 HE HEb HSm HKy HId
              generalize x[i]'_ = xi at *
              generalize y[j]'_ = yj at *
              go_upto_region 12 with fail
              refine wp_region_quiet_below (by kernel_rfl) (by kernel_rfl) ?_
              repeat (go_big_quiet_step (first | (go_at_call 10; with_reducible exact JS.out _ _)))
              refine wpQuiet_nil ?_
              intro wz hwz
              obtain ⟨⟨dq, osq⟩, hwz'⟩ := hwz
              subst hwz'
              have hbz := below_regrown wr dq osq
              have HBZ := Lib.hid (HB.out.trans (hbz.mono HB.out.size))
              have VA' := Lib.hid (VA.out.below hbz)
              have VB' := Lib.hid (VB.out.below hbz)
              have TW' := Lib.hid (TW.out.below hbz)
              have zi := Nat.lt_of_lt_of_le hli HB.out.size
              have zj := Nat.lt_of_lt_of_le hlj HB.out.size
              have zx := Nat.lt_of_lt_of_le hx HB.out.size
              have e0 := (hbz.cell (by exact hba)).trans c0
              have e1 := (hbz.cell (by exact hba)).trans c1
              have e2 := (hbz.cell (by exact hba)).trans c2
              have e3 := (hbz.cell (by exact hba)).trans c3
              have e4 := (hbz.cell (by exact hba)).trans c4
              have e5 := (hbz.cell (by exact hba)).trans c5'
              have e6 := (hbz.cell (by exact hbb')).trans d0
              have e7 := (hbz.cell (by exact hbb')).trans d1
              have e8 := (hbz.cell (by exact hbb')).trans d2
              have e9 := (hbz.cell (by exact hbb')).trans d3
              have e10 := (hbz.cell (by exact hbb')).trans d4
              have e11 := (hbz.cell (by exact hbb')).trans d5
              have e12 := (hbz.cell (by exact zi)).trans ci
              have e13 := (hbz.cell (by exact zj)).trans cj
              have e14 := (hbz.cell (by exact zx)).trans ck0
              have e15 := (hbz.cell (by exact zx)).trans ck1'
              clear JS hbz HB VA VB TW zi zj zx c0 c1 c2 c3 c4 c5' d0 d1 d2 d3 d4 d5 ci cj ck0 ck1'
              dsimp only
              generalize Go.Sort.grow (redrawn wr dq) osq = wz at *
              have J1 := Lib.hid (fun d os => Calls.regrown_of (HE'.out _ (Go.Sort.grow (redrawn wz d) os) (VA'.out.below (below_regrown wz d os)) (TW'.out.below (below_regrown wz d os))))
              have J2 := Lib.hid (fun d os => Calls.regrown_of (HEb'.out _ (Go.Sort.grow (redrawn wz d) os) (VB'.out.below (below_regrown wz d os)) (TW'.out.below (below_regrown wz d os))))
              have m0 := fun d os => cell_regrown (w := wz) e0 d os
              have m1 := fun d os => cell_regrown (w := wz) e1 d os
              have m2 := fun d os => cell_regrown (w := wz) e2 d os
              have m3 := fun d os => cell_regrown (w := wz) e3 d os
              have m4 := fun d os => cell_regrown (w := wz) e4 d os
              have m5 := fun d os => cell_regrown (w := wz) e5 d os
              have m6 := fun d os => cell_regrown (w := wz) e6 d os
              have m7 := fun d os => cell_regrown (w := wz) e7 d os
              have m8 := fun d os => cell_regrown (w := wz) e8 d os
              have m9 := fun d os => cell_regrown (w := wz) e9 d os
              have m10 := fun d os => cell_regrown (w := wz) e10 d os
              have m11 := fun d os => cell_regrown (w := wz) e11 d os
              have m12 := fun d os => cell_regrown (w := wz) e12 d os
              have m13 := fun d os => cell_regrown (w := wz) e13 d os
              have m14 := fun d os => cell_regrown (w := wz) e14 d os
              have m15 := fun d os => cell_regrown (w := wz) e15 d os
              clear HE' HEb' VA' VB' HC HD
              generalize smB [a[i]] [b[j]] = sm at *
              generalize S (bk1 a[i]) = sx at *
              generalize S (bk1 b[j]) = sy at *
              generalize a[i].kids.length = kn1 at *
              generalize a[i].spans.length = sn1 at *
              generalize a[i].lines.length = ln1 at *
              generalize S a[i].info = si1 at *
              generalize a[i].level = lv1 at *
              generalize a[i].kind = k1 at *
              generalize b[j].kids.length = kn2 at *
              generalize b[j].spans.length = sn2 at *
              generalize b[j].lines.length = ln2 at *
              generalize S b[j].info = si2 at *
              generalize b[j].level = lv2 at *
              generalize b[j].kind = k2 at *
              have HQ' := Lib.hid HQ
              have HN' := Lib.hid HN
              clear HQ HN
              cases sm with
              | true =>
                go_upto_region 13 with fail
                have HQ := HQ'.out
                have HN := HN'.out
                refine wp_region_quiet_below (by kernel_rfl) (by kernel_rfl) ?_
                repeat (go_big_quiet_step (first | (go_at_call 11; first | with_reducible exact J1.out _ _ | with_reducible exact J2.out _ _)))
                refine wpQuiet_nil ?_
                intro wy hwy
                obtain ⟨⟨dq2, osq2⟩, hwy'⟩ := hwy
                subst hwy'
                have hby := below_regrown wz dq2 osq2
                have HBY := Lib.hid (HBZ.out.trans (hby.mono HBZ.out.size))
                clear J1 J2 m0 m1 m2 m3 m4 m5 m6 m7 m8 m9 m10 m11 m12 m13 m14 m15 e0 e1 e2 e3 e4 e5 e6 e7 e8 e9 e10 e11 e12 e13 e14 e15 hby HBZ HQ HN HQ' HN'
                dsimp only
                generalize Go.Sort.grow (redrawn wz dq2) osq2 = wy at *
                go_wp2_with fail
                go_roundw
                case rel => exact ⟨j + 1, by omega, by go_num, HBY⟩
                case measure => simp [intOf] <;> omega
              | false =>
                go_upto_region 13 with fail
                have HQ := HQ'.out
                have HN := HN'.out
                refine wp_region_quiet_below (by kernel_rfl) (by kernel_rfl) ?_
                repeat (go_big_quiet_step (first | (go_at_call 11; first | with_reducible exact J1.out _ _ | with_reducible exact J2.out _ _)))
                refine wpQuiet_nil ?_
                intro wy hwy
                obtain ⟨⟨dq2, osq2⟩, hwy'⟩ := hwy
                subst hwy'
                have hby := below_regrown wz dq2 osq2
                have HBY := Lib.hid (HBZ.out.trans (hby.mono HBZ.out.size))
                clear J1 J2 m0 m1 m2 m3 m4 m5 m6 m7 m8 m9 m10 m11 m12 m13 m14 m15 e0 e1 e2 e3 e4 e5 e6 e7 e8 e9 e10 e11 e12 e13 e14 e15 hby HBZ HQ HN HQ' HN'
                dsimp only
                generalize Go.Sort.grow (redrawn wz dq2) osq2 = wy at *
                go_wp2_with fail
                go_roundw
                case rel => exact ⟨j + 1, by omega, by go_num, HBY⟩
                case measure => simp [intOf] <;> omega
            · obtain rfl : j = b.length := by omega
              have hj1 : ¬ (b.length : Int) < (b.length : Int) := by omega
              clear hjl
              go_wp2_with fail
              go_roundw
              case rel => exact ⟨i + 1, by omega, by go_num, HB⟩
              case measure => simp [intOf] <;> omega
        · obtain rfl : i = a.length := by omega
          have hi1 : ¬ (a.length : Int) < (a.length : Int) := by omega
          have HR := Lib.hid (B4.out.trans (HB0.out.mono B4.out.size))
          clear RA RB R0 R1 HE HEb HSm HKy HId HB0 hil
          go_wp2_with fail
          go_ret
          exact ⟨rfl, HR.out⟩
end Go.Proofs.YtldllbmbcnipoaaDoor.Nm
