/-
  CONTRACTS of the program's and of the document's Merge, upon their Chunks and Clean.
-/
import Derived.Test.YtbfclmhcoelplaaWvClean
import Derived.Test.YtbfclmhcoelplaaWvChunks
import Derived.Lib.AppendZeros
namespace Go.Proofs.Ytbfclmhcoelplaa.Wv
open Go.RowKit Go.Proofs.Ytbfclmhcoelplaa.Cm Go.Proofs.Ytbfclmhcoelplaa.Lc
set_option linter.unusedVariables false

theorem merge_yes {B O T : List Int} (h : cleanB (chunks B O T) = true) : merge B O T = (mg O T (chunks B O T), true) := by unfold merge; rw [if_pos h]
theorem merge_no {B O T : List Int} (h : cleanB (chunks B O T) = false) : merge B O T = ([], false) := by unfold merge; rw [if_neg (by simp [h])]
theorem clean_at {l : List Ch} (h : cleanB l = true) {i : Nat} (hi : i < l.length) : l[i].out ≠ 5 := by
  unfold cleanB at h
  rw [List.all_eq_true] at h
  simpa using h _ (List.getElem_mem hi)
theorem mg_zero (O T : List Int) (l : List Ch) : mg O T (l.take 0) = [] := by rw [List.take_zero]; rfl
/-- One more part. -/
theorem part_add (O T : List Int) (B : List Int) {i : Nat} (hi : i < (chunks B O T).length) : (mg O T ((chunks B O T).take i)).length + (mg1 O T (chunks B O T)[i]).length ≤ O.length + T.length := by
  have := mg_take_len B O T (i + 1)
  rw [mg_take hi, List.length_append] at this
  exact this

set_option maxHeartbeats 6400000 in
set_option maxRecDepth 100000 in
theorem wmerge_any (va vb vc : Value) (B O T : List Int) (w : World) (hB : Rz w va B) (hO : Rz w vb O) (hT : Rz w vc T) (lB : B.length ≤ 10000) (lO : O.length ≤ 10000) (lT : T.length ≤ 10000)
    (hch : Calls Try.prog 12 #[va, vb, vc] w fun e w' => ∃ v, e = .returned v ∧ Rk 7 encC w' v (chunks B O T) ∧ Below w.heap.size w w') :
    Calls Try.prog 14 #[va, vb, vc] w (MergeOk B O T w) := by
  have HO := Lib.hid hO
  have HT := Lib.hid hT
  have HCH := Lib.hid (hch)
  have hcl := chunks_len B O T
  obtain ⟨aoB, cB, rfl⟩ := hB.len
  obtain ⟨aoO, cO, rfl⟩ := hO.len
  obtain ⟨aoT, cT, rfl⟩ := hT.len
  clear hB hO hT
  go_enter Try.func14, Try.ntmps14
  go_wp2_with fail
  refine HCH.out.mono ?_
  rintro e w1 ⟨v, rfl, hrk, b1⟩
  have B1 := Lib.hid b1
  have RK := Lib.hid hrk
  have HCL := Lib.hid (wclean_any v _ w1 hrk (by omega))
  clear hrk b1 HCH
  obtain ⟨ao, ca, rfl⟩ := RK.out.len
  go_wp2_with fail
  refine HCL.out.mono ?_
  rintro e w2 ⟨rfl, b2⟩
  have B2 := Lib.hid (B1.out.trans (b2.mono B1.out.size))
  have F := Lib.hid (Rk.seven (RK.out.below (b2)))
  clear HCL RK B1 b2
  cases hc : cleanB (chunks B O T) with
  | false =>
    have HM := Lib.hid (merge_no hc)
    clear hc F
    go_wp2_with fail
    go_ret2
    exact ⟨_, by rw [HM.out]; rfl, by rw [HM.out]; exact ⟨none, 0, rfl, Nat.le_refl _, Or.inl rfl⟩, B2.out⟩
  | true =>
    have HM := Lib.hid (merge_yes hc)
    have HC := Lib.hid (fun i hi => clean_at hc (i := i) hi)
    have HLS := Lib.hid (chunks_lies B O T)
    have HPA := Lib.hid (fun i hi => part_add O T B (i := i) hi)
    have HTK := Lib.hid (fun i hi => mg_take (O := O) (T := T) (l := chunks B O T) (i := i) hi)
    clear hc
    generalize chunks B O T = l at *
    go_wp2_with fail
    go_loopw [9, 21] (fun v s wr => ∃ i : Nat, i ≤ l.length ∧ s = .int .i64 i ∧ wr.ownsRow w2.heap.size 3 1 v (mg O T (l.take i)).length ((mg O T (l.take i)).map (Value.int .i64)) ∧ Below w2.heap.size w2 wr) (fun _ s _ => l.length - (intOf s).toNat)
    case atStart => exact ⟨0, Nat.zero_le _, rfl, by rw [mg_zero]; exact World.ownsRow_nil _ _ _ _, Below.refl _ _⟩
    case round =>
      obtain ⟨i, hil, rfl, hown, hbe⟩ := hrel
      have Ho := Lib.hid hown
      have Hb := Lib.hid hbe
      clear hown hbe
      by_cases hlt : i < l.length
      · obtain ⟨b, o, rfl, hb, f0, f1, f2, f3, f4, f5, f6⟩ := F.out i hlt
        have p0 : wr.cell? ⟨b, o + i * 7, none⟩ = some (.int .i64 l[i].b1) := (Hb.out.cell (by exact hb)).trans f0
        have p1 : wr.cell? ⟨b, o + i * 7 + 1, none⟩ = some (.int .i64 l[i].b2) := (Hb.out.cell (by exact hb)).trans f1
        have p2 : wr.cell? ⟨b, o + i * 7 + 2, none⟩ = some (.int .i64 l[i].o1) := (Hb.out.cell (by exact hb)).trans f2
        have p3 : wr.cell? ⟨b, o + i * 7 + 3, none⟩ = some (.int .i64 l[i].o2) := (Hb.out.cell (by exact hb)).trans f3
        have p4 : wr.cell? ⟨b, o + i * 7 + 4, none⟩ = some (.int .i64 l[i].t1) := (Hb.out.cell (by exact hb)).trans f4
        have p5 : wr.cell? ⟨b, o + i * 7 + 5, none⟩ = some (.int .i64 l[i].t2) := (Hb.out.cell (by exact hb)).trans f5
        have p6 : wr.cell? ⟨b, o + i * 7 + 6, none⟩ = some (.int .i64 l[i].out) := (Hb.out.cell (by exact hb)).trans f6
        have HPO := Lib.hid (fun w' (h : Below w2.heap.size w2 w') => wpart_any (.slice aoO O.length cO) O l[i].o1 l[i].o2 w' (HO.out.below (B2.out.trans (h.mono B2.out.size))) (HLS.out _ (List.getElem_mem hlt)).o (HLS.out _ (List.getElem_mem hlt)).o' (by omega))
        have HPT := Lib.hid (fun w' (h : Below w2.heap.size w2 w') => wpart_any (.slice aoT T.length cT) T l[i].t1 l[i].t2 w' (HT.out.below (B2.out.trans (h.mono B2.out.size))) (HLS.out _ (List.getElem_mem hlt)).t (HLS.out _ (List.getElem_mem hlt)).t' (by omega))
        have hout : l[i].out = 1 ∨ l[i].out = 2 ∨ l[i].out = 3 ∨ l[i].out = 4 := by
          have h1 := (HLS.out _ (List.getElem_mem hlt)).lo
          have h2 := (HLS.out _ (List.getElem_mem hlt)).hi
          have h3 := HC.out i hlt
          omega
        have HN := Lib.hid (HTK.out i hlt)
        have hlen := HPA.out i hlt
        unfold mg1 at HN hlen
        clear f0 f1 f2 f3 f4 f5 f6
        generalize (l[i].b1 : Int) = x0 at *
        generalize (l[i].b2 : Int) = x1 at *
        have tt : True := trivial
        rcases hout with ho | ho | ho | ho
        · rw [ho] at p6
          rw [ho] at HN hlen
          rw [if_pos (by omega)] at HN hlen
          replace p6 : wr.cell? ⟨b, o + i * 7 + 6, none⟩ = some (.int .i64 1) := p6
          have HL := Lib.hid hlen
          clear hlen ho
          generalize l[i].t1 = y1 at *
          generalize l[i].t2 = y2 at *
          generalize part T y1 y2 = ps at *
          go_wp2_with fail
          refine (HPT.out _ (Hb.out.alloc Hb.out.size _)).mono ?_
          rintro e w4 ⟨v4, rfl, r4, b4⟩
          have K4 : Keep (fun _ => False) wr w4 := ((Keep.refl (fun _ => False) wr).alloc _).trans (Keep.of_below b4)
          have hb4 : Below w2.heap.size w2 w4 := Hb.out.trans (K4.below (fun _ h => h.elim) Hb.out.size)
          obtain ⟨v5, w5, q5, o5, g5⟩ := run_append_rz (own_keep Ho.out K4 (fun _ _ h => h)) r4 hb4.size (by have := HL.out; omega)
          have HB5 := Lib.hid (hb4.grown g5 hb4.size (fun k hk => (Ho.out.lt k hk).1))
          rw [← HN.out] at o5
          have HO5 := Lib.hid o5
          clear r4 b4 K4 hb4 o5 g5 p0 p1 p2 p3 p4 p5 p6
          obtain ⟨a9, k9, rfl⟩ := own_len Ho.out
          obtain ⟨a5, k5, rfl⟩ := own_len HO5.out
          go_wp2_with (at_builtin; refine Lib.wpList_append_run _ rfl (.tmp 27) (.tmp 31) _ _ rfl _ _ rfl rfl _ _ (q5 _) ?_)
          go_roundw
          case rel => exact ⟨i + 1, by omega, by go_num, HO5.out, HB5.out⟩
          case measure => simp [intOf] <;> omega
        · rw [ho] at p6
          rw [ho] at HN hlen
          rw [if_neg (by omega)] at HN hlen
          replace p6 : wr.cell? ⟨b, o + i * 7 + 6, none⟩ = some (.int .i64 2) := p6
          have HL := Lib.hid hlen
          clear hlen ho
          generalize l[i].o1 = y1 at *
          generalize l[i].o2 = y2 at *
          generalize part O y1 y2 = ps at *
          go_wp2_with fail
          refine (HPO.out _ (Hb.out.alloc Hb.out.size _)).mono ?_
          rintro e w4 ⟨v4, rfl, r4, b4⟩
          have K4 : Keep (fun _ => False) wr w4 := ((Keep.refl (fun _ => False) wr).alloc _).trans (Keep.of_below b4)
          have hb4 : Below w2.heap.size w2 w4 := Hb.out.trans (K4.below (fun _ h => h.elim) Hb.out.size)
          obtain ⟨v5, w5, q5, o5, g5⟩ := run_append_rz (own_keep Ho.out K4 (fun _ _ h => h)) r4 hb4.size (by have := HL.out; omega)
          have HB5 := Lib.hid (hb4.grown g5 hb4.size (fun k hk => (Ho.out.lt k hk).1))
          rw [← HN.out] at o5
          have HO5 := Lib.hid o5
          clear r4 b4 K4 hb4 o5 g5 p0 p1 p2 p3 p4 p5 p6
          obtain ⟨a9, k9, rfl⟩ := own_len Ho.out
          obtain ⟨a5, k5, rfl⟩ := own_len HO5.out
          go_wp2_with (at_builtin; refine Lib.wpList_append_run _ rfl (.tmp 36) (.tmp 40) _ _ rfl _ _ rfl rfl _ _ (q5 _) ?_)
          go_roundw
          case rel => exact ⟨i + 1, by omega, by go_num, HO5.out, HB5.out⟩
          case measure => simp [intOf] <;> omega
        · rw [ho] at p6
          rw [ho] at HN hlen
          rw [if_pos (by omega)] at HN hlen
          replace p6 : wr.cell? ⟨b, o + i * 7 + 6, none⟩ = some (.int .i64 3) := p6
          have HL := Lib.hid hlen
          clear hlen ho
          generalize l[i].t1 = y1 at *
          generalize l[i].t2 = y2 at *
          generalize part T y1 y2 = ps at *
          go_wp2_with fail
          refine (HPT.out _ (Hb.out.alloc Hb.out.size _)).mono ?_
          rintro e w4 ⟨v4, rfl, r4, b4⟩
          have K4 : Keep (fun _ => False) wr w4 := ((Keep.refl (fun _ => False) wr).alloc _).trans (Keep.of_below b4)
          have hb4 : Below w2.heap.size w2 w4 := Hb.out.trans (K4.below (fun _ h => h.elim) Hb.out.size)
          obtain ⟨v5, w5, q5, o5, g5⟩ := run_append_rz (own_keep Ho.out K4 (fun _ _ h => h)) r4 hb4.size (by have := HL.out; omega)
          have HB5 := Lib.hid (hb4.grown g5 hb4.size (fun k hk => (Ho.out.lt k hk).1))
          rw [← HN.out] at o5
          have HO5 := Lib.hid o5
          clear r4 b4 K4 hb4 o5 g5 p0 p1 p2 p3 p4 p5 p6
          obtain ⟨a9, k9, rfl⟩ := own_len Ho.out
          obtain ⟨a5, k5, rfl⟩ := own_len HO5.out
          go_wp2_with (at_builtin; refine Lib.wpList_append_run _ rfl (.tmp 27) (.tmp 31) _ _ rfl _ _ rfl rfl _ _ (q5 _) ?_)
          go_roundw
          case rel => exact ⟨i + 1, by omega, by go_num, HO5.out, HB5.out⟩
          case measure => simp [intOf] <;> omega
        · rw [ho] at p6
          rw [ho] at HN hlen
          rw [if_neg (by omega)] at HN hlen
          replace p6 : wr.cell? ⟨b, o + i * 7 + 6, none⟩ = some (.int .i64 4) := p6
          have HL := Lib.hid hlen
          clear hlen ho
          generalize l[i].o1 = y1 at *
          generalize l[i].o2 = y2 at *
          generalize part O y1 y2 = ps at *
          go_wp2_with fail
          refine (HPO.out _ (Hb.out.alloc Hb.out.size _)).mono ?_
          rintro e w4 ⟨v4, rfl, r4, b4⟩
          have K4 : Keep (fun _ => False) wr w4 := ((Keep.refl (fun _ => False) wr).alloc _).trans (Keep.of_below b4)
          have hb4 : Below w2.heap.size w2 w4 := Hb.out.trans (K4.below (fun _ h => h.elim) Hb.out.size)
          obtain ⟨v5, w5, q5, o5, g5⟩ := run_append_rz (own_keep Ho.out K4 (fun _ _ h => h)) r4 hb4.size (by have := HL.out; omega)
          have HB5 := Lib.hid (hb4.grown g5 hb4.size (fun k hk => (Ho.out.lt k hk).1))
          rw [← HN.out] at o5
          have HO5 := Lib.hid o5
          clear r4 b4 K4 hb4 o5 g5 p0 p1 p2 p3 p4 p5 p6
          obtain ⟨a9, k9, rfl⟩ := own_len Ho.out
          obtain ⟨a5, k5, rfl⟩ := own_len HO5.out
          go_wp2_with (at_builtin; refine Lib.wpList_append_run _ rfl (.tmp 36) (.tmp 40) _ _ rfl _ _ rfl rfl _ _ (q5 _) ?_)
          go_roundw
          case rel => exact ⟨i + 1, by omega, by go_num, HO5.out, HB5.out⟩
          case measure => simp [intOf] <;> omega
      · obtain rfl : i = l.length := by omega
        have HR := Lib.hid (Rz.of_own Ho.out)
        have HX : Hid (mg O T (l.take l.length) = mg O T l) := Lib.hid (by rw [List.take_length])
        have HB9 := Lib.hid (B2.out.trans (Hb.out.mono B2.out.size))
        clear F HLS HPA HTK HC
        go_wp2_with fail
        go_ret2
        exact ⟨_, by rw [HM.out]; rfl, by rw [HM.out]; have := HR.out; rwa [HX.out] at this, HB9.out⟩

set_option maxHeartbeats 6400000 in
set_option maxRecDepth 100000 in
theorem rmerge_any (va vb vc : Value) (B O T : List Int) (w : World) (hB : Rz w va B) (hO : Rz w vb O) (hT : Rz w vc T) (lB : B.length ≤ 10000) (lO : O.length ≤ 10000) (lT : T.length ≤ 10000) :
    Calls Try.prog 15 #[va, vb, vc] w (MergeOk B O T w) := by
  have HO := Lib.hid hO
  have HT := Lib.hid hT
  have HCH := Lib.hid (rchunks_any va vb vc B O T w hB hO hT lB lO lT)
  have hcl := chunks_len B O T
  obtain ⟨aoB, cB, rfl⟩ := hB.len
  obtain ⟨aoO, cO, rfl⟩ := hO.len
  obtain ⟨aoT, cT, rfl⟩ := hT.len
  clear hB hO hT
  go_enter Try.func15, Try.ntmps15
  go_wp2_with fail
  refine HCH.out.mono ?_
  rintro e w1 ⟨v, rfl, hrk, b1⟩
  have B1 := Lib.hid b1
  have RK := Lib.hid hrk
  have HCL := Lib.hid (rclean_any v _ w1 hrk (by omega))
  clear hrk b1 HCH
  obtain ⟨ao, ca, rfl⟩ := RK.out.len
  go_wp2_with fail
  refine HCL.out.mono ?_
  rintro e w1 ⟨rfl, rfl⟩
  have B2 := Lib.hid (B1.out)
  have F := Lib.hid (Rk.seven (RK.out.below (Below.refl _ _)))
  clear HCL RK B1
  cases hc : cleanB (chunks B O T) with
  | false =>
    have HM := Lib.hid (merge_no hc)
    clear hc F
    go_wp2_with fail
    go_ret2
    exact ⟨_, by rw [HM.out]; rfl, by rw [HM.out]; exact ⟨none, 0, rfl, Nat.le_refl _, Or.inl rfl⟩, B2.out⟩
  | true =>
    have HM := Lib.hid (merge_yes hc)
    have HC := Lib.hid (fun i hi => clean_at hc (i := i) hi)
    have HLS := Lib.hid (chunks_lies B O T)
    have HPA := Lib.hid (fun i hi => part_add O T B (i := i) hi)
    have HTK := Lib.hid (fun i hi => mg_take (O := O) (T := T) (l := chunks B O T) (i := i) hi)
    clear hc
    generalize chunks B O T = l at *
    go_wp2_with fail
    go_loopw [9, 20] (fun v s wr => ∃ i : Nat, i ≤ l.length ∧ s = .int .i64 i ∧ wr.ownsRow w1.heap.size 3 1 v (mg O T (l.take i)).length ((mg O T (l.take i)).map (Value.int .i64)) ∧ Below w1.heap.size w1 wr) (fun _ s _ => l.length - (intOf s).toNat)
    case atStart => exact ⟨0, Nat.zero_le _, rfl, by rw [mg_zero]; exact World.ownsRow_nil _ _ _ _, Below.refl _ _⟩
    case round =>
      obtain ⟨i, hil, rfl, hown, hbe⟩ := hrel
      have Ho := Lib.hid hown
      have Hb := Lib.hid hbe
      clear hown hbe
      by_cases hlt : i < l.length
      · obtain ⟨b, o, rfl, hb, f0, f1, f2, f3, f4, f5, f6⟩ := F.out i hlt
        have p0 : wr.cell? ⟨b, o + i * 7, none⟩ = some (.int .i64 l[i].b1) := (Hb.out.cell (by exact hb)).trans f0
        have p1 : wr.cell? ⟨b, o + i * 7 + 1, none⟩ = some (.int .i64 l[i].b2) := (Hb.out.cell (by exact hb)).trans f1
        have p2 : wr.cell? ⟨b, o + i * 7 + 2, none⟩ = some (.int .i64 l[i].o1) := (Hb.out.cell (by exact hb)).trans f2
        have p3 : wr.cell? ⟨b, o + i * 7 + 3, none⟩ = some (.int .i64 l[i].o2) := (Hb.out.cell (by exact hb)).trans f3
        have p4 : wr.cell? ⟨b, o + i * 7 + 4, none⟩ = some (.int .i64 l[i].t1) := (Hb.out.cell (by exact hb)).trans f4
        have p5 : wr.cell? ⟨b, o + i * 7 + 5, none⟩ = some (.int .i64 l[i].t2) := (Hb.out.cell (by exact hb)).trans f5
        have p6 : wr.cell? ⟨b, o + i * 7 + 6, none⟩ = some (.int .i64 l[i].out) := (Hb.out.cell (by exact hb)).trans f6
        have HPO := Lib.hid (fun w' (h : Below w1.heap.size w1 w') => part_any (.slice aoO O.length cO) O l[i].o1 l[i].o2 w' (HO.out.below (B2.out.trans (h.mono B2.out.size))) (HLS.out _ (List.getElem_mem hlt)).o (HLS.out _ (List.getElem_mem hlt)).o' (by omega))
        have HPT := Lib.hid (fun w' (h : Below w1.heap.size w1 w') => part_any (.slice aoT T.length cT) T l[i].t1 l[i].t2 w' (HT.out.below (B2.out.trans (h.mono B2.out.size))) (HLS.out _ (List.getElem_mem hlt)).t (HLS.out _ (List.getElem_mem hlt)).t' (by omega))
        have hout : l[i].out = 1 ∨ l[i].out = 2 ∨ l[i].out = 3 ∨ l[i].out = 4 := by
          have h1 := (HLS.out _ (List.getElem_mem hlt)).lo
          have h2 := (HLS.out _ (List.getElem_mem hlt)).hi
          have h3 := HC.out i hlt
          omega
        have HN := Lib.hid (HTK.out i hlt)
        have hlen := HPA.out i hlt
        unfold mg1 at HN hlen
        clear f0 f1 f2 f3 f4 f5 f6
        generalize (l[i].b1 : Int) = x0 at *
        generalize (l[i].b2 : Int) = x1 at *
        have tt : True := trivial
        rcases hout with ho | ho | ho | ho
        · rw [ho] at p6
          rw [ho] at HN hlen
          rw [if_pos (by omega)] at HN hlen
          replace p6 : wr.cell? ⟨b, o + i * 7 + 6, none⟩ = some (.int .i64 1) := p6
          have HL := Lib.hid hlen
          clear hlen ho
          generalize l[i].t1 = y1 at *
          generalize l[i].t2 = y2 at *
          generalize part T y1 y2 = ps at *
          go_wp2_with fail
          refine (HPT.out _ Hb.out).mono ?_
          rintro e w4 ⟨v4, rfl, r4, b4⟩
          have K4 : Keep (fun _ => False) wr w4 := (Keep.of_below b4)
          have hb4 : Below w1.heap.size w1 w4 := Hb.out.trans (K4.below (fun _ h => h.elim) Hb.out.size)
          obtain ⟨v5, w5, q5, o5, g5⟩ := run_append_rz (own_keep Ho.out K4 (fun _ _ h => h)) r4 hb4.size (by have := HL.out; omega)
          have HB5 := Lib.hid (hb4.grown g5 hb4.size (fun k hk => (Ho.out.lt k hk).1))
          rw [← HN.out] at o5
          have HO5 := Lib.hid o5
          clear r4 b4 K4 hb4 o5 g5 p0 p1 p2 p3 p4 p5 p6
          obtain ⟨a9, k9, rfl⟩ := own_len Ho.out
          obtain ⟨a5, k5, rfl⟩ := own_len HO5.out
          go_wp2_with (at_builtin; refine Lib.wpList_append_run _ rfl (.tmp 37) (.tmp 44) _ _ rfl _ _ rfl rfl _ _ (q5 _) ?_)
          go_roundw
          case rel => exact ⟨i + 1, by omega, by go_num, HO5.out, HB5.out⟩
          case measure => simp [intOf] <;> omega
        · rw [ho] at p6
          rw [ho] at HN hlen
          rw [if_neg (by omega)] at HN hlen
          replace p6 : wr.cell? ⟨b, o + i * 7 + 6, none⟩ = some (.int .i64 2) := p6
          have HL := Lib.hid hlen
          clear hlen ho
          generalize l[i].o1 = y1 at *
          generalize l[i].o2 = y2 at *
          generalize part O y1 y2 = ps at *
          go_wp2_with fail
          refine (HPO.out _ Hb.out).mono ?_
          rintro e w4 ⟨v4, rfl, r4, b4⟩
          have K4 : Keep (fun _ => False) wr w4 := (Keep.of_below b4)
          have hb4 : Below w1.heap.size w1 w4 := Hb.out.trans (K4.below (fun _ h => h.elim) Hb.out.size)
          obtain ⟨v5, w5, q5, o5, g5⟩ := run_append_rz (own_keep Ho.out K4 (fun _ _ h => h)) r4 hb4.size (by have := HL.out; omega)
          have HB5 := Lib.hid (hb4.grown g5 hb4.size (fun k hk => (Ho.out.lt k hk).1))
          rw [← HN.out] at o5
          have HO5 := Lib.hid o5
          clear r4 b4 K4 hb4 o5 g5 p0 p1 p2 p3 p4 p5 p6
          obtain ⟨a9, k9, rfl⟩ := own_len Ho.out
          obtain ⟨a5, k5, rfl⟩ := own_len HO5.out
          go_wp2_with (at_builtin; refine Lib.wpList_append_run _ rfl (.tmp 46) (.tmp 53) _ _ rfl _ _ rfl rfl _ _ (q5 _) ?_)
          go_roundw
          case rel => exact ⟨i + 1, by omega, by go_num, HO5.out, HB5.out⟩
          case measure => simp [intOf] <;> omega
        · rw [ho] at p6
          rw [ho] at HN hlen
          rw [if_pos (by omega)] at HN hlen
          replace p6 : wr.cell? ⟨b, o + i * 7 + 6, none⟩ = some (.int .i64 3) := p6
          have HL := Lib.hid hlen
          clear hlen ho
          generalize l[i].t1 = y1 at *
          generalize l[i].t2 = y2 at *
          generalize part T y1 y2 = ps at *
          go_wp2_with fail
          refine (HPT.out _ Hb.out).mono ?_
          rintro e w4 ⟨v4, rfl, r4, b4⟩
          have K4 : Keep (fun _ => False) wr w4 := (Keep.of_below b4)
          have hb4 : Below w1.heap.size w1 w4 := Hb.out.trans (K4.below (fun _ h => h.elim) Hb.out.size)
          obtain ⟨v5, w5, q5, o5, g5⟩ := run_append_rz (own_keep Ho.out K4 (fun _ _ h => h)) r4 hb4.size (by have := HL.out; omega)
          have HB5 := Lib.hid (hb4.grown g5 hb4.size (fun k hk => (Ho.out.lt k hk).1))
          rw [← HN.out] at o5
          have HO5 := Lib.hid o5
          clear r4 b4 K4 hb4 o5 g5 p0 p1 p2 p3 p4 p5 p6
          obtain ⟨a9, k9, rfl⟩ := own_len Ho.out
          obtain ⟨a5, k5, rfl⟩ := own_len HO5.out
          go_wp2_with (at_builtin; refine Lib.wpList_append_run _ rfl (.tmp 37) (.tmp 44) _ _ rfl _ _ rfl rfl _ _ (q5 _) ?_)
          go_roundw
          case rel => exact ⟨i + 1, by omega, by go_num, HO5.out, HB5.out⟩
          case measure => simp [intOf] <;> omega
        · rw [ho] at p6
          rw [ho] at HN hlen
          rw [if_neg (by omega)] at HN hlen
          replace p6 : wr.cell? ⟨b, o + i * 7 + 6, none⟩ = some (.int .i64 4) := p6
          have HL := Lib.hid hlen
          clear hlen ho
          generalize l[i].o1 = y1 at *
          generalize l[i].o2 = y2 at *
          generalize part O y1 y2 = ps at *
          go_wp2_with fail
          refine (HPO.out _ Hb.out).mono ?_
          rintro e w4 ⟨v4, rfl, r4, b4⟩
          have K4 : Keep (fun _ => False) wr w4 := (Keep.of_below b4)
          have hb4 : Below w1.heap.size w1 w4 := Hb.out.trans (K4.below (fun _ h => h.elim) Hb.out.size)
          obtain ⟨v5, w5, q5, o5, g5⟩ := run_append_rz (own_keep Ho.out K4 (fun _ _ h => h)) r4 hb4.size (by have := HL.out; omega)
          have HB5 := Lib.hid (hb4.grown g5 hb4.size (fun k hk => (Ho.out.lt k hk).1))
          rw [← HN.out] at o5
          have HO5 := Lib.hid o5
          clear r4 b4 K4 hb4 o5 g5 p0 p1 p2 p3 p4 p5 p6
          obtain ⟨a9, k9, rfl⟩ := own_len Ho.out
          obtain ⟨a5, k5, rfl⟩ := own_len HO5.out
          go_wp2_with (at_builtin; refine Lib.wpList_append_run _ rfl (.tmp 46) (.tmp 53) _ _ rfl _ _ rfl rfl _ _ (q5 _) ?_)
          go_roundw
          case rel => exact ⟨i + 1, by omega, by go_num, HO5.out, HB5.out⟩
          case measure => simp [intOf] <;> omega
      · obtain rfl : i = l.length := by omega
        have HR := Lib.hid (Rz.of_own Ho.out)
        have HX : Hid (mg O T (l.take l.length) = mg O T l) := Lib.hid (by rw [List.take_length])
        have HB9 := Lib.hid (B2.out.trans (Hb.out.mono B2.out.size))
        clear F HLS HPA HTK HC
        go_wp2_with fail
        go_ret2
        exact ⟨_, by rw [HM.out]; rfl, by rw [HM.out]; have := HR.out; rwa [HX.out] at this, HB9.out⟩

end Go.Proofs.Ytbfclmhcoelplaa.Wv
