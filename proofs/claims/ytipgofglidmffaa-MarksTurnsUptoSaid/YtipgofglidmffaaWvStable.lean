/-
  CONTRACT of weave's stableSpots.
-/
import Derived.Test.YtipgofglidmffaaWvRow
namespace Go.Proofs.Ytipgofglidmffaa.Wv
open Go.RowKit Go.Proofs.Ytipgofglidmffaa.Cm Go.Proofs.Ytipgofglidmffaa.Lc
set_option linter.unusedVariables false

/-- A slice's length. -/
def lenV : Value → Nat
  | .slice _ n _ => n
  | _ => 0

theorem new_a (w : World) (o1 o2 : Obj) : ((w.alloc o1).alloc o2).drew.heap[w.heap.size]? = some o1 := alloc_at (alloc_new w o1) o2
theorem new_b (w : World) (o1 o2 : Obj) : ((w.alloc o1).alloc o2).drew.heap[w.heap.size + 1]? = some o2 := by
  have := alloc_new (w.alloc o1) o2
  rwa [World.size_alloc] at this
theorem keep_two (w : World) (o1 o2 : Obj) : Keep (fun _ => False) w ((w.alloc o1).alloc o2).drew := (((Keep.refl _ w).alloc o1).alloc o2).drew

set_option maxHeartbeats 6400000 in
set_option maxRecDepth 100000 in
theorem stable_any (va vb : Value) (P Q : List (Nat × Nat)) (w : World) (hP : Rk 2 encP w va P) (hQ : Rk 2 encP w vb Q) (lP : P.length ≤ 10000) (lQ : Q.length ≤ 10000) :
    Calls Try.prog 34 #[va, vb] w fun e w' => ∃ v, e = .returned v ∧ Rk 3 encS w' v (spots P Q) ∧ Below w.heap.size w w' := by
  obtain ⟨i0, hi, hz0, hz1, hz2⟩ := info_parts infoS
  have HP := Lib.hid hP
  have HQ := Lib.hid hQ
  clear hP hQ
  go_enter Try.func34, Try.ntmps34
  go_wp2_with fail
  go_loopw [0, 1, 5] (fun s t v wr => ∃ (P' Q' : List (Nat × Nat)) (o : List Spot), Rk 2 encP w s P' ∧ Rk 2 encP w t Q' ∧ P'.length ≤ 10000 ∧ Q'.length ≤ 10000 ∧ o.length + P'.length ≤ P.length ∧ wr.ownsRow w.heap.size 76 3 v o.length (o.flatMap encS) ∧ Below w.heap.size w wr ∧ Hid (spots P Q = o ++ spots P' Q')) (fun s t _ _ => lenV s + lenV t)
  case atStart => exact ⟨P, Q, [], HP.out, HQ.out, lP, lQ, by simp, World.ownsRow_nil _ _ _ _, Below.refl _ _, Lib.hid rfl⟩
  case round =>
    clear HP HQ
    obtain ⟨P', Q', o, hP, hQ, lP', lQ', hol, hown, hbe, HS⟩ := hrel
    have Ho := Lib.hid hown
    have Hb := Lib.hid hbe
    have HP := Lib.hid hP
    have HQ := Lib.hid hQ
    clear hown hbe
    obtain ⟨aoP, cP, rfl⟩ := hP.len
    obtain ⟨aoQ, cQ, rfl⟩ := hQ.len
    cases P' with
    | nil =>
      have HE : Hid (spots P Q = o) := Lib.hid (by rw [HS.out, spots_nil', List.append_nil])
      have HR := Lib.hid (Rk.of_own encS_len Ho.out)
      clear hP hQ HS HP HQ
      simp only [List.length_nil]
      go_wp2_with fail
      go_ret
      rw [HE.out]
      exact ⟨_, rfl, HR.out, Hb.out⟩
    | cons p P2 =>
    cases Q' with
    | nil =>
      have HE : Hid (spots P Q = o) := Lib.hid (by rw [HS.out, spots_nil, List.append_nil])
      have HR := Lib.hid (Rk.of_own encS_len Ho.out)
      have t1 : 0 < P2.length + 1 := by omega
      clear hP hQ HS HP HQ
      simp only [List.length_nil, List.length_cons]
      go_wp2_with fail
      go_ret
      rw [HE.out]
      exact ⟨_, rfl, HR.out, Hb.out⟩
    | cons q Q2 =>
    obtain ⟨b1, o1, rfl, hb1, c0, c1⟩ := Rk.two hP 0 (by simp)
    obtain ⟨b2, o2, rfl, hb2, d0, d1⟩ := Rk.two hQ 0 (by simp)
    simp only [List.getElem_cons_zero, Nat.zero_mul, Nat.add_zero] at c0 c1 d0 d1
    have c0' := (Hb.out.cell (by exact hb1)).trans c0
    have c1' := (Hb.out.cell (by exact hb1)).trans c1
    have d0' := (Hb.out.cell (by exact hb2)).trans d0
    have d1' := (Hb.out.cell (by exact hb2)).trans d1
    obtain ⟨vP, rP, kP⟩ := slice_fromP hP 1 (by simp) (by omega)
    obtain ⟨vQ, rQ, kQ⟩ := slice_fromP hQ 1 (by simp) (by omega)
    have hP2 := Lib.hid (kP w (Below.refl _ _))
    have hQ2 := Lib.hid (kQ w (Below.refl _ _))
    simp only [List.drop_one, List.tail_cons] at hP2 hQ2
    simp only [List.length_cons] at *
    clear kP kQ c0 c1 d0 d1 hP hQ
    obtain ⟨p1, p2⟩ := p
    obtain ⟨q1, q2⟩ := q
    simp only at c0' c1' d0' d1'
    have t1 : 0 < P2.length + 1 := by omega
    have t2 : 0 < Q2.length + 1 := by omega
    have hw1 : b1 < wr.heap.size := Nat.lt_of_lt_of_le hb1 Hb.out.size
    have hw2 : b2 < wr.heap.size := Nat.lt_of_lt_of_le hb2 Hb.out.size
    have rP' : ∀ w, (Instr.slice 73 (.slice (some ⟨b1, o1, none⟩) (P2.length + 1) cP) (some (.int .i64 1)) none none).run Try.prog w = .ok vP w := rP
    have rQ' : ∀ w, (Instr.slice 73 (.slice (some ⟨b2, o2, none⟩) (Q2.length + 1) cQ) (some (.int .i64 1)) none none).run Try.prog w = .ok vQ w := rQ
    clear rP rQ
    go_upto_region 3 with fail
    go_cut [6, 7] from 8 to 50 (fun s6 s7 wx => ∃ EA EB : Nat, s6 = .pointer (some ⟨EA, 0, none⟩) ∧ s7 = .pointer (some ⟨EB, 0, none⟩) ∧ Hid (wx.heap[EA]? = some (.cells #[.int .i64 (p1 : Int), .int .i64 (p2 : Int)] 90 (0, 0))) ∧ Hid (wx.heap[EB]? = some (.cells #[.int .i64 (q1 : Int), .int .i64 (q2 : Int)] 90 (0, 0))) ∧ Hid (Keep (fun _ => False) wr wx))
    case first =>
      go_wp2_with fail
      go_region
      all_goals (
        go_wp2_with fail
        go_meet
        exact ⟨_, _, rfl, rfl, Lib.hid (by first | exact new_a _ _ _ | exact new_b _ _ _), Lib.hid (by first | exact new_b _ _ _ | exact new_a _ _ _), Lib.hid (keep_two _ _ _)⟩)
    case rest =>
      obtain ⟨EA, EB, rfl, rfl, HA, HB, HK⟩ := hcut
      have a0 : wc.cell? ⟨EA, 0, none⟩ = some (.int .i64 (p1 : Int)) := cell_at HA.out 0
      have a1 : wc.cell? ⟨EA, 1, none⟩ = some (.int .i64 (p2 : Int)) := cell_at HA.out 1
      have a2 : wc.cell? ⟨EB, 0, none⟩ = some (.int .i64 (q1 : Int)) := cell_at HB.out 0
      have a3 : wc.cell? ⟨EB, 1, none⟩ = some (.int .i64 (q2 : Int)) := cell_at HB.out 1
      have hwc : w.heap.size ≤ wc.heap.size := Nat.le_trans Hb.out.size HK.out.size
      have Ho2 := Lib.hid (own_keep Ho.out HK.out (fun _ _ h => h))
      have Hb2 := Lib.hid (Hb.out.trans (HK.out.below (fun _ h => h.elim) Hb.out.size))
      clear c0' c1' d0' d1' hb1 hb2 hw1 hw2
      rcases Nat.lt_trichotomy p1 q1 with hlt | heq | hgt
      · have HS2 : Hid (spots P Q = o ++ spots P2 ((q1, q2) :: Q2)) := Lib.hid (by rw [HS.out, spots_lt (p := (p1, p2)) (q := (q1, q2)) P2 Q2 hlt])
        have e0 : ((p1 : Int) == (q1 : Int)) = false := by rw [beq_eq_false_iff_ne]; omega
        have e1 : decide ((p1 : Int) ≤ (q1 : Int)) = true := decide_eq_true (by omega)
        have e2 : decide ((q1 : Int) ≤ (p1 : Int)) = false := decide_eq_false (by omega)
        have n1 : decide (p1 ≤ q1) = true := decide_eq_true (by omega)
        have n2 : decide (q1 ≤ p1) = false := decide_eq_false (by omega)
        have HQ3 := Lib.hid HQ.out
        have hv := hP2.out.len
        obtain ⟨aV, cV, hv⟩ := hv
        subst hv
        clear hlt HS
        go_wp2_with fail
        go_roundw
        case rel => exact ⟨P2, (q1, q2) :: Q2, o, hP2.out, HQ.out, by omega, by simp; omega, by omega, Ho2.out, Hb2.out, HS2⟩
        case measure => simp [lenV]
      · subst heq
        have HS2 : Hid (spots P Q = (o ++ [⟨p1, p2, q2⟩]) ++ spots P2 Q2) := Lib.hid (by rw [HS.out, spots_eq (p := (p1, p2)) (q := (p1, q2)) P2 Q2 rfl, List.append_assoc]; rfl)
        have e1 : decide ((p1 : Int) ≤ (p1 : Int)) = true := decide_eq_true (by omega)
        obtain ⟨aV, cV, hv⟩ := hP2.out.len
        subst hv
        obtain ⟨aW, cW, hv⟩ := hQ2.out.len
        subst hv
        clear HS
        go_wp2_with (at_builtin; refine wpList_append_own _ rfl _ _ 71 rfl w.heap.size 76 i0 (.agg #[.int .i64 0, .int .i64 0, .int .i64 0]) 3 24 Try.underlying71 hi hz0 hz1 hz2 rfl (by decide) _ _ _ rfl (Ho2.out.alloc _) ⟨wc.heap.size, 0, none⟩ 1 1 (encS ⟨p1, p2, q2⟩) rfl rfl newsK (encS_one _) (by unfold maxLen; omega) (by omega) (by simp; omega) ?_)
        intro v' w4 hown' hgrow _
        have R := own_pushK (x := (⟨p1, p2, q2⟩ : Spot)) Ho2.out Hb2.out hwc hown' hgrow
        have HA4 : Hid (w4.heap[EA]? = some (.cells #[.int .i64 (p1 : Int), .int .i64 (p2 : Int)] 90 (0, 0))) := Lib.hid (by
          have h1 := alloc_at HA.out (.cells (encS ⟨p1, p2, q2⟩).toArray 76)
          refine (hgrow.block EA (lt_of_at h1) (fun e => ?_)).trans h1
          obtain ⟨cur, hc⟩ := own_obj Ho2.out e.symm
          rw [hc] at HA
          have := HA.out
          simp at this)
        have HB4 : Hid (w4.heap[EB]? = some (.cells #[.int .i64 (p1 : Int), .int .i64 (q2 : Int)] 90 (0, 0))) := Lib.hid (by
          have h1 := alloc_at HB.out (.cells (encS ⟨p1, p2, q2⟩).toArray 76)
          refine (hgrow.block EB (lt_of_at h1) (fun e => ?_)).trans h1
          obtain ⟨cur, hc⟩ := own_obj Ho2.out e.symm
          rw [hc] at HB
          have := HB.out
          simp at this)
        have R1 := Lib.hid R.1
        have R2 := Lib.hid R.2
        have g0 : w4.cell? ⟨EA, 0, none⟩ = some (.int .i64 (p1 : Int)) := cell_at HA4.out 0
        have g2 : w4.cell? ⟨EB, 0, none⟩ = some (.int .i64 (p1 : Int)) := cell_at HB4.out 0
        clear R hown' hgrow a0 a1 a2 a3
        go_wp2_with fail
        go_roundw
        case rel => exact ⟨P2, Q2, o ++ [⟨p1, p2, q2⟩], hP2.out, hQ2.out, by omega, by omega, by simp; omega, R1.out, R2.out, HS2⟩
        case measure => simp [lenV]; omega
      · have HS2 : Hid (spots P Q = o ++ spots ((p1, p2) :: P2) Q2) := Lib.hid (by rw [HS.out, spots_gt (p := (p1, p2)) (q := (q1, q2)) P2 Q2 hgt])
        have e0 : ((p1 : Int) == (q1 : Int)) = false := by rw [beq_eq_false_iff_ne]; omega
        have e1 : decide ((p1 : Int) ≤ (q1 : Int)) = false := decide_eq_false (by omega)
        have e2 : decide ((q1 : Int) ≤ (p1 : Int)) = true := decide_eq_true (by omega)
        have n1 : decide (p1 ≤ q1) = false := decide_eq_false (by omega)
        have n2 : decide (q1 ≤ p1) = true := decide_eq_true (by omega)
        obtain ⟨aW, cW, hv⟩ := hQ2.out.len
        subst hv
        clear hgt HS
        go_wp2_with fail
        go_roundw
        case rel => exact ⟨(p1, p2) :: P2, Q2, o, HP.out, hQ2.out, by simp; omega, by omega, by simp; omega, Ho2.out, Hb2.out, HS2⟩
        case measure => simp [lenV]

end Go.Proofs.Ytipgofglidmffaa.Wv
