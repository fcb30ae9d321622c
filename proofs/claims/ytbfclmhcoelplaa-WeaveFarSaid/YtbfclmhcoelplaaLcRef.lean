/-
  CONTRACTS of the document's Length, Dice, Pairs, Same (emendationref04).
-/
import Derived.Test.YtbfclmhcoelplaaLcTable
import Derived.Test.YtbfclmhcoelplaaCmRow
namespace Go.Proofs.Ytbfclmhcoelplaa.Lc
open Go.RowKit Go.Proofs.Ytbfclmhcoelplaa.Cm
set_option linter.unusedVariables false

/-- A pair, as it lies. -/
def encP (p : Nat × Nat) : List Value := [.int .i64 p.1, .int .i64 p.2]
theorem encP_len (p : Nat × Nat) : (encP p).length = 2 := rfl
theorem infoP : (Try.prog.info? 73).map (fun i => (i.zero, i.size, i.bytes)) = some (some (.agg #[.int .i64 0, .int .i64 0]), 2, 16) := by kernel_rfl
theorem encP_one (p : Nat × Nat) : ∀ u ∈ encP p, u.oneCell' = true := by
  intro u hu
  simp [encP] at hu
  rcases hu with rfl | rfl <;> rfl
theorem own_low {w : World} {B B' e z n : Nat} {v : Value} {xs : List Value} (h : w.ownsRow B' e z v n xs) (hB : B ≤ B') : w.ownsRow B e z v n xs := by
  refine ⟨h.1, ?_⟩
  rcases h.2 with hn | ⟨g, cap, cur, hv, hg, rest⟩
  · exact .inl hn
  · exact .inr ⟨g, cap, cur, hv, Nat.le_trans hB hg, rest⟩
/-- The pairs so far, and what is left. -/
def Pp (a b : List Int) (i k : Nat) (o : List (Nat × Nat)) : Prop := pairs a b = o ++ pp i k (a.drop i) (b.drop k)

set_option maxHeartbeats 3200000 in
set_option maxRecDepth 100000 in
theorem rpairs_any (va vb : Value) (a b : List Int) (w : World) (ha : Rz w va a) (hb : Rz w vb b) (hla : a.length ≤ 100000) (hlb : b.length ≤ 100000) :
    Calls Try.prog 31 #[va, vb] w fun e w' => ∃ v, e = .returned v ∧ w'.ownsRow w.heap.size 73 2 v (pairs a b).length ((pairs a b).flatMap encP) ∧ Below w.heap.size w w' := by
  obtain ⟨i0, hi, hz0, hz1, hz2⟩ := info_parts infoP
  have HT := Lib.hid (table_any va vb a b w ha hb hla hlb)
  obtain ⟨aoa, ca, rfl⟩ := ha.len
  obtain ⟨aob, cb, rfl⟩ := hb.len
  have FA := Lib.hid ha.at
  have FB := Lib.hid hb.at
  have H0 : Hid (Pp a b 0 0 []) := Lib.hid (by unfold Pp; simp [pairs])
  clear ha hb
  go_enter Try.func31, Try.ntmps31
  go_wp2_with fail
  refine HT.out.mono ?_
  rintro e w1 ⟨v, rfl, ht, hb1⟩
  have HB1 := Lib.hid hb1
  have HT1 := Lib.hid ht
  obtain ⟨B, rfl, hB, hr⟩ := ht
  have HR := Lib.hid hr
  clear hr hb1 HT
  go_wp2_with fail
  go_loopw [6, 7, 8] (fun v s t wr => ∃ (i k : Nat) (o : List (Nat × Nat)), i ≤ a.length ∧ k ≤ b.length ∧ o.length ≤ i ∧ s = .int .i64 i ∧ t = .int .i64 k ∧ wr.ownsRow w1.heap.size 73 2 v o.length (o.flatMap encP) ∧ Below w1.heap.size w1 wr ∧ Hid (Pp a b i k o)) (fun _ s t _ => (a.length - (intOf s).toNat) + (b.length - (intOf t).toNat))
  case atStart => exact ⟨0, 0, [], Nat.zero_le _, Nat.zero_le _, Nat.le_refl _, rfl, rfl, World.ownsRow_nil _ _ _ _, Below.refl _ _, H0⟩
  case round =>
    clear H0
    obtain ⟨i, k, o, hil, hkl, hol, rfl, rfl, hown, hbe, HP⟩ := hrel
    have hBs := hbe.size
    by_cases hend : i < a.length ∧ k < b.length
    · obtain ⟨hia, hkb⟩ := hend
      obtain ⟨ba, oa, rfl, hba, fa⟩ := FA.out i hia
      obtain ⟨bb, ob, rfl, hbb, fb⟩ := FB.out k hkb
      have hbw := Lib.hid (HB1.out.trans (hbe.mono HB1.out.size))
      have ka : wr.cell? ⟨ba, oa + i, none⟩ = some (.int .i64 a[i]) := (hbw.out.cell (by exact hba)).trans fa
      have kb : wr.cell? ⟨bb, ob + k, none⟩ = some (.int .i64 b[k]) := (hbw.out.cell (by exact hbb)).trans fb
      have t1 : (i : Int) < (a.length : Int) := by omega
      have t2 : (k : Int) < (b.length : Int) := by omega
      have Ho := Lib.hid hown
      have Hb := Lib.hid hbe
      clear fa fb hown hbe
      by_cases hab : a[i] = b[k]
      · have HP2 : Hid (Pp a b (i + 1) (k + 1) (o ++ [(i, k)])) := Lib.hid (by
          have := HP.out
          unfold Pp at this ⊢
          rw [this, pp_at_yes hia hkb hab]
          simp)
        have e3 : (a[i] == b[k]) = true := by simpa using hab
        clear hab HP
        generalize a[i] = av at *
        generalize b[k] = bv at *
        go_wp2_with fail
        go_quiet (fail)
        go_wp2_with (at_builtin; refine wpList_append_own _ rfl _ _ 57 rfl w1.heap.size 73 i0 (.agg #[.int .i64 0, .int .i64 0]) 2 16 Try.underlying57 hi hz0 hz1 hz2 rfl (by decide) _ _ _ rfl ((own_drewN Ho.out _).alloc _) ⟨wr.heap.size, 0, none⟩ 1 1 (encP (i, k)) rfl rfl newsK (encP_one _) (by unfold maxLen; omega) (by omega) (by simp; omega) ?_)
        intro v' w2 hown' hgrow _
        have R := own_pushK (own_drewN Ho.out _) (below_drewN Hb.out _) hBs hown' hgrow
        have R1 := Lib.hid R.1
        have R2 := Lib.hid R.2
        clear R hown' hgrow
        go_wp2_with fail
        go_roundw
        case rel => exact ⟨i + 1, k + 1, _, by omega, by omega, by simp; omega, by go_num, by go_num, R1.out, R2.out, HP2⟩
        case measure => simp [intOf] <;> omega
      · have e3 : (a[i] == b[k]) = false := by simpa using hab
        obtain ⟨i1, hi1⟩ : ∃ i1, i + 1 = i1 := ⟨_, rfl⟩
        obtain ⟨k1, hk1⟩ : ∃ k1, k + 1 = k1 := ⟨_, rfl⟩
        have ei : IntKind.i64.wrap ((i : Int) + 1) = (i1 : Int) := by rw [IntKind.wrap_i64]; omega
        have ek : IntKind.i64.wrap ((k : Int) + 1) = (k1 : Int) := by rw [IntKind.wrap_i64]; omega
        obtain ⟨g1, g1l, c1, c2⟩ := HR.out i1 (by omega)
        obtain ⟨g0, g0l, c3, c4⟩ := HR.out i (by omega)
        have c1 := (Hb.out.cell (by exact hB)).trans c1
        have c2 := (Hb.out.cell (by exact g1l)).trans (c2 k (by omega))
        have c3 := (Hb.out.cell (by exact hB)).trans c3
        have c4 := (Hb.out.cell (by exact g0l)).trans (c4 k1 (by omega))
        have t3 : (i1 : Int) < ((a.length + 1 : Nat) : Int) := by omega
        have t4 : (i : Int) < ((a.length + 1 : Nat) : Int) := by omega
        have t5 : (k : Int) < ((b.length + 1 : Nat) : Int) := by omega
        have t6 : (k1 : Int) < ((b.length + 1 : Nat) : Int) := by omega
        have t7 : i1 < a.length + 1 := by omega
        have t8 : k1 < b.length + 1 := by omega
        have t9 : k < b.length + 1 := by omega
        have t10 : i < a.length + 1 := by omega
        by_cases hle : tb a b i k1 ≤ tb a b i1 k
        · have HP2 : Hid (Pp a b (i + 1) k o) := Lib.hid (by
            have := HP.out
            unfold Pp at this ⊢
            rw [this, pp_at_left hia hkb hab (by rw [hi1, hk1]; exact hle)])
          have d1 : decide (((tb a b i k1 : Nat) : Int) ≤ ((tb a b i1 k : Nat) : Int)) = true := decide_eq_true (by omega)
          have d2 : decide (tb a b i k1 ≤ tb a b i1 k) = true := decide_eq_true hle
          generalize tb a b i1 k = x at *
          generalize tb a b i k1 = z at *
          clear hab HP hle
          go_wp2_with fail
          go_quiet (fail)
          generalize hw5 : wr.drewN nq = w5
          have HO5 : Hid (w5.ownsRow w1.heap.size 73 2 u6 o.length (o.flatMap encP)) := Lib.hid (by rw [← hw5]; exact own_drewN Ho.out _)
          have HB5 : Hid (Below w1.heap.size w1 w5) := Lib.hid (by rw [← hw5]; exact below_drewN Hb.out _)
          have c1' : w5.cell? ⟨B, i1, none⟩ = some (.slice (some ⟨g1, 0, none⟩) (b.length + 1) (b.length + 1)) := by rw [← hw5]; exact c1
          have c2' : w5.cell? ⟨g1, k, none⟩ = some (.int .i64 x) := by rw [← hw5]; exact c2
          have c3' : w5.cell? ⟨B, i, none⟩ = some (.slice (some ⟨g0, 0, none⟩) (b.length + 1) (b.length + 1)) := by rw [← hw5]; exact c3
          have c4' : w5.cell? ⟨g0, k1, none⟩ = some (.int .i64 z) := by rw [← hw5]; exact c4
          clear c1 c2 c3 c4 hw5 Ho Hb ka kb
          go_wp2_with fail
          go_quiet (fail)
          go_wp2_with fail
          go_roundw
          case rel => exact ⟨i + 1, k, o, by omega, by omega, by omega, by go_num, by go_num, own_drewN HO5.out _, below_drewN HB5.out _, HP2⟩
          case measure => simp [intOf] <;> omega
        · have HP2 : Hid (Pp a b i (k + 1) o) := Lib.hid (by
            have := HP.out
            unfold Pp at this ⊢
            rw [this, pp_at_right hia hkb hab (by rw [hi1, hk1]; exact hle)])
          have d1 : decide (((tb a b i k1 : Nat) : Int) ≤ ((tb a b i1 k : Nat) : Int)) = false := decide_eq_false (by omega)
          have d2 : decide (tb a b i k1 ≤ tb a b i1 k) = false := decide_eq_false hle
          generalize tb a b i1 k = x at *
          generalize tb a b i k1 = z at *
          clear hab HP hle
          go_wp2_with fail
          go_quiet (fail)
          generalize hw5 : wr.drewN nq = w5
          have HO5 : Hid (w5.ownsRow w1.heap.size 73 2 u6 o.length (o.flatMap encP)) := Lib.hid (by rw [← hw5]; exact own_drewN Ho.out _)
          have HB5 : Hid (Below w1.heap.size w1 w5) := Lib.hid (by rw [← hw5]; exact below_drewN Hb.out _)
          have c1' : w5.cell? ⟨B, i1, none⟩ = some (.slice (some ⟨g1, 0, none⟩) (b.length + 1) (b.length + 1)) := by rw [← hw5]; exact c1
          have c2' : w5.cell? ⟨g1, k, none⟩ = some (.int .i64 x) := by rw [← hw5]; exact c2
          have c3' : w5.cell? ⟨B, i, none⟩ = some (.slice (some ⟨g0, 0, none⟩) (b.length + 1) (b.length + 1)) := by rw [← hw5]; exact c3
          have c4' : w5.cell? ⟨g0, k1, none⟩ = some (.int .i64 z) := by rw [← hw5]; exact c4
          clear c1 c2 c3 c4 hw5 Ho Hb ka kb
          go_wp2_with fail
          go_quiet (fail)
          go_wp2_with fail
          go_roundw
          case rel => exact ⟨i, k + 1, o, by omega, by omega, by omega, by go_num, by go_num, own_drewN HO5.out _, below_drewN HB5.out _, HP2⟩
          case measure => simp [intOf] <;> omega
    · have HE : Hid (pairs a b = o) := Lib.hid (by
        have := HP.out
        unfold Pp at this
        rw [this, pp_end (by omega), List.append_nil])
      have Ho : Hid (wr.ownsRow w.heap.size 73 2 u6 o.length (o.flatMap encP)) := Lib.hid (own_low hown HB1.out.size)
      have Hb := Lib.hid (HB1.out.trans (hbe.mono HB1.out.size))
      clear hown hbe HP
      by_cases hia : i < a.length
      · have hkb : b.length ≤ k := by omega
        clear hend
        go_wp2_with fail
        go_ret
        rw [HE.out]
        exact ⟨_, rfl, Ho.out, Hb.out⟩
      · have hia2 : a.length ≤ i := by omega
        clear hend
        go_wp2_with fail
        go_ret
        rw [HE.out]
        exact ⟨_, rfl, Ho.out, Hb.out⟩

end Go.Proofs.Ytbfclmhcoelplaa.Lc
