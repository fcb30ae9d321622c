/-
  CONTRACTS of the document's put and Ids (emendationref03).
-/
import Derived.Test.YtldllbmbcnipoaaGreatDoorPkTL
namespace Go.Proofs.YtldllbmbcnipoaaGreatDoor.Tk
open Go.RowKit
set_option linter.unusedVariables false

theorem put_hit {l : List Tx} {s : Tx} (hk : at_ l s < l.length) (h : l[at_ l s] = s) : put l s = l := by
  unfold put; rw [get_lt hk, if_pos (by rw [h])]
theorem put_miss {l : List Tx} {s : Tx} (h : ∀ hk : at_ l s < l.length, l[at_ l s] ≠ s) : put l s = l.take (at_ l s) ++ [s] ++ l.drop (at_ l s) := by
  unfold put
  rw [if_neg, List.append_assoc]
  · rfl
  · intro e
    obtain ⟨hk, e2⟩ := List.getElem?_eq_some_iff.1 e
    exact h hk e2
theorem own_enc {w : World} {B : Nat} {v : Value} {n : Nat} {us : List Value} {xs : List Tx} (h : w.ownsRow B 9 1 v n us) (hn : n = xs.length) (hu : us = xs.map encStr) : w.ownsRow B 9 1 v xs.length (xs.map encStr) := by
  subst hn; subst hu; exact h

set_option maxHeartbeats 800000 in
set_option maxRecDepth 100000 in
theorem rput_any (v : Value) (l : List Tx) (s : Tx) (w : World) (h : Rd w v l) (hl : l.length ≤ 100000) :
    Calls Tryz.prog 17 #[v, .string (S s)] w fun e w' => ∃ v', e = .returned v' ∧ Rd w' v' (put l s) ∧ Below w.heap.size w w' := by
  obtain ⟨i0, hi, hz0, hz1, hz2⟩ := info_parts infoS
  have H := Lib.hid h
  have HA := Lib.hid (rat_any v l s w h (by omega))
  obtain ⟨ao, ca, rfl, hca, hax⟩ := h
  have hle := at_le l s
  by_cases hit : ∃ hk : at_ l s < l.length, l[at_ l s] = s
  · obtain ⟨hk, he⟩ := hit
    have HP := Lib.hid (put_hit hk he)
    rcases hax with hax | ⟨b, o, rfl, hbl, hcell⟩
    · rw [hax] at hk; exact absurd hk (Nat.not_lt_zero _)
    have k1 := hcell _ _ (get_lt hk)
    rw [he] at k1
    have e1 : ((S s).toList == (S s).toList) = true := by simp
    clear hcell hle
    generalize hq : at_ l s = k at *
    clear hq he
    have d1 : decide ((k : Int) < (l.length : Int)) = true := decide_eq_true (by omega)
    go_enter Tryz.func17, Tryz.ntmps17
    go_wp2_with fail
    refine HA.out.mono ?_
    rintro e w1 ⟨rfl, rfl⟩
    go_wp2_with fail
    go_ret
    exact ⟨_, rfl, by rw [HP.out]; exact H.out, Below.refl _ _⟩
  · have HP := Lib.hid (put_miss (l := l) (s := s) (fun hk e => hit ⟨hk, e⟩))
    have Hne : Hid (∀ hk : at_ l s < l.length, l[at_ l s] ≠ s) := Lib.hid (fun hk e => hit ⟨hk, e⟩)
    clear hit
    generalize hq : at_ l s = k at *
    clear hq
    by_cases h0 : l = []
    · have hz : l.length = 0 := by rw [h0]; rfl
      obtain rfl : k = 0 := by omega
      have HP2 : Hid (put l s = [] ++ [(S s).data.toList]) := Lib.hid (by rw [HP.out, h0, S_list]; rfl)
      have hrun := fun ty ao c => run_append_empty hi (World.ownsRow_nil w w.heap.size 9 1) ty ao c
      rw [hz] at HA ⊢
      clear hax HP Hne H h0 hz
      have main : ∀ ao, Hid (Calls Tryz.prog 18 #[.slice ao 0 ca, .string (S s)] w fun e w' => e = .returned (.int .i64 ((0 : Nat) : Int)) ∧ w = w') → (ao = none ∨ ∃ b o p, ao = some ⟨b, o, p⟩) →
          Calls Tryz.prog 17 #[.slice ao 0 ca, .string (S s)] w fun e w' => ∃ v', e = .returned v' ∧ Rd w' v' (put l s) ∧ Below w.heap.size w w' := by
        intro ao HA hao
        rcases hao with rfl | ⟨b, o, p, rfl⟩
        all_goals (
          go_enter Tryz.func17, Tryz.ntmps17
          go_wp2_with fail
          refine HA.out.mono ?_
          rintro e w1 ⟨rfl, rfl⟩
          go_wp2_with (first
            | (at_builtin; refine Lib.wpList_append_run _ rfl (.tmp 23) (.tmp 26) _ _ rfl _ _ rfl rfl _ _ (hrun _ _ _) ?_)
            | (at_builtin; refine wpList_append_own _ rfl (.tmp 28) (.tmp 30) 27 rfl w.heap.size 9 i0 (.string ⟨#[]⟩) 1 16 Tryz.underlying27 hi hz0 hz1 hz2 rfl (by decide) _ _ _ rfl ((World.ownsRow_nil w w.heap.size 9 1).alloc _) ⟨w.heap.size, 0, none⟩ 1 1 [.string (S s)] rfl rfl news1 news2 (by unfold maxLen; omega) (by omega) (by simp) ?_))
          intro v' w1 hown' hgrow _
          have R := own_push (o := []) (World.ownsRow_nil w w.heap.size 9 1) (Below.refl _ _) (Nat.le_refl _) hown' hgrow
          have R1 := Lib.hid R.1
          have R2 := Lib.hid R.2
          have hrun2 := fun ty ao c => run_append_empty hi R1.out ty ao c
          clear R hown' hgrow hrun
          go_wp2_with (at_builtin; refine Lib.wpList_append_run _ rfl (.tmp 32) (.tmp 35) _ _ rfl _ _ rfl rfl _ _ (hrun2 _ _ _) ?_)
          go_ret
          exact ⟨_, rfl, by rw [HP2.out]; exact Rd.of_own R1.out, R2.out⟩)
      refine main ao HA ?_
      cases ao with
      | none => exact Or.inl rfl
      | some a => exact Or.inr ⟨a.block, a.off, a.spot, rfl⟩
    · rcases hax with hax | ⟨b, o, rfl, hbl, hcell⟩
      · exact absurd hax h0
      have HC := Lib.hid hcell
      have C1 : Hid (∀ w', Below w.heap.size w w' → ∀ j x, (l.take k)[j]? = some x → w'.cell? ⟨b, o + j, none⟩ = some (.string (S x))) := Lib.hid (fun w' hb j x hj => by
        have hj2 : l[j]? = some x := by
          rw [List.getElem?_take] at hj
          split at hj
          · exact hj
          · cases hj
        exact (hb.cell (by exact hbl)).trans (HC.out j x hj2))
      have C2 : Hid (∀ w', Below w.heap.size w w' → ∀ j x, (l.drop k)[j]? = some x → w'.cell? ⟨b, (o + k) + j, none⟩ = some (.string (S x))) := Lib.hid (fun w' hb j x hj => by
        rw [List.getElem?_drop] at hj
        rw [Nat.add_assoc]
        exact (hb.cell (by exact hbl)).trans (HC.out _ x hj))
      have lt1 : (l.take k).length = k := by rw [List.length_take]; omega
      have ld1 : (l.drop k).length = l.length - k := List.length_drop
      have L1 := Lib.hid lt1
      have L2 := Lib.hid ld1
      have HG : Hid ((k < l.length ∧ ∃ y, w.cell? ⟨b, o + k, none⟩ = some (.string y) ∧ (y.toList == (S s).toList) = false) ∨ k = l.length) := by
        by_cases hk : k < l.length
        · refine Lib.hid (Or.inl ⟨hk, _, HC.out k _ (get_lt hk), ?_⟩)
          rw [S_toList, S_toList]
          simpa using Hne.out hk
        · exact Lib.hid (Or.inr (by omega))
      clear hcell h0 H Hne lt1 ld1
      generalize l.take k = t1 at HP C1 L1
      generalize l.drop k = t2 at HP C2 L2
      have hk63 : k ≤ ca := by omega
      clear HC
      rcases HG.out with ⟨hk, y, k1, e1⟩ | hk
      · have d1 : decide ((k : Int) < (l.length : Int)) = true := decide_eq_true (by omega)
        go_enter Tryz.func17, Tryz.ntmps17
        go_wp2_with fail
        refine HA.out.mono ?_
        rintro e w1 ⟨rfl, rfl⟩
        go_wp2_with (at_builtin; refine wpList_append_own _ rfl (.tmp 23) (.tmp 26) 27 rfl w.heap.size 9 i0 (.string ⟨#[]⟩) 1 16 Tryz.underlying27 hi hz0 hz1 hz2 rfl (by decide) _ _ _ rfl (World.ownsRow_nil w w.heap.size 9 1) ⟨b, o, none⟩ k ca ((t1).map encStr) rfl (by rw [List.length_map, L1.out]; omega) (enc_cells (C1.out _ (Below.refl _ _))) (enc_one _) (by unfold maxLen; omega) (by omega) (Nat.le_refl _) ?_)
        intro v1 w1 hown1 hgrow1 _
        have O1 := Lib.hid (own_enc (xs := t1) hown1 (by have := L1.out; omega) (by simp))
        have B1 := Lib.hid ((Below.refl w.heap.size w).grown hgrow1 (Nat.le_refl _) (fun j hj => by cases hj))
        have hs1 := B1.out.size
        clear hown1 hgrow1
        go_wp2_with (at_builtin; refine wpList_append_own _ rfl (.tmp 28) (.tmp 30) 27 rfl w.heap.size 9 i0 (.string ⟨#[]⟩) 1 16 Tryz.underlying27 hi hz0 hz1 hz2 rfl (by decide) _ _ _ rfl (O1.out.alloc _) ⟨w1.heap.size, 0, none⟩ 1 1 [.string (S s)] rfl rfl news1 news2 (by unfold maxLen; rw [L1.out]; omega) (by rw [L1.out]; omega) (by simp; omega) ?_)
        intro v2 w2 hown2 hgrow2 _
        have R := own_push O1.out B1.out hs1 hown2 hgrow2
        have O2 := Lib.hid (own_enc (xs := t1 ++ [s]) R.1 (by rw [S_list]) (by rw [S_list]))
        have B2 := Lib.hid R.2
        have hs2 := B2.out.size
        have L3 : Hid ((t1 ++ [s]).length = k + 1) := Lib.hid (by rw [List.length_append, L1.out]; rfl)
        clear hown2 hgrow2 R
        go_wp2_with (at_builtin; refine wpList_append_own _ rfl (.tmp 32) (.tmp 35) 27 rfl w.heap.size 9 i0 (.string ⟨#[]⟩) 1 16 Tryz.underlying27 hi hz0 hz1 hz2 rfl (by decide) _ _ _ rfl O2.out ⟨b, o + k, none⟩ (l.length - k) (ca - k) ((t2).map encStr) rfl (by rw [List.length_map, L2.out]; omega) (enc_cells (C2.out _ B2.out)) (enc_one _) (by unfold maxLen; rw [L3.out]; omega) (by rw [L3.out]; omega) (by omega) ?_)
        intro v3 w3 hown3 hgrow3 _
        have O3 := Lib.hid (own_enc (xs := t1 ++ [s] ++ t2) hown3 (by have := L1.out; have := L2.out; simp only [List.length_append, List.length_singleton]; omega) (by simp))
        have B3 := Lib.hid (B2.out.grown hgrow3 (by omega) (fun j hj => (O2.out.lt j hj).1))
        clear hown3 hgrow3
        go_wp2_with fail
        go_ret
        exact ⟨_, rfl, by rw [HP.out]; exact Rd.of_own O3.out, B3.out⟩
      · have d1 : decide ((k : Int) < (l.length : Int)) = false := decide_eq_false (by omega)
        have hge : l.length ≤ k := by omega
        have HK : Hid (k = l.length) := Lib.hid hk
        clear hk
        go_enter Tryz.func17, Tryz.ntmps17
        go_wp2_with fail
        refine HA.out.mono ?_
        rintro e w1 ⟨rfl, rfl⟩
        go_wp2_with (at_builtin; refine wpList_append_own _ rfl (.tmp 23) (.tmp 26) 27 rfl w.heap.size 9 i0 (.string ⟨#[]⟩) 1 16 Tryz.underlying27 hi hz0 hz1 hz2 rfl (by decide) _ _ _ rfl (World.ownsRow_nil w w.heap.size 9 1) ⟨b, o, none⟩ k ca ((t1).map encStr) rfl (by rw [List.length_map, L1.out]; omega) (enc_cells (C1.out _ (Below.refl _ _))) (enc_one _) (by unfold maxLen; omega) (by omega) (Nat.le_refl _) ?_)
        intro v1 w1 hown1 hgrow1 _
        have O1 := Lib.hid (own_enc (xs := t1) hown1 (by have := L1.out; omega) (by simp))
        have B1 := Lib.hid ((Below.refl w.heap.size w).grown hgrow1 (Nat.le_refl _) (fun j hj => by cases hj))
        have hs1 := B1.out.size
        clear hown1 hgrow1
        go_wp2_with (at_builtin; refine wpList_append_own _ rfl (.tmp 28) (.tmp 30) 27 rfl w.heap.size 9 i0 (.string ⟨#[]⟩) 1 16 Tryz.underlying27 hi hz0 hz1 hz2 rfl (by decide) _ _ _ rfl (O1.out.alloc _) ⟨w1.heap.size, 0, none⟩ 1 1 [.string (S s)] rfl rfl news1 news2 (by unfold maxLen; rw [L1.out]; omega) (by rw [L1.out]; omega) (by simp; omega) ?_)
        intro v2 w2 hown2 hgrow2 _
        have R := own_push O1.out B1.out hs1 hown2 hgrow2
        have O2 := Lib.hid (own_enc (xs := t1 ++ [s]) R.1 (by rw [S_list]) (by rw [S_list]))
        have B2 := Lib.hid R.2
        have hs2 := B2.out.size
        have L3 : Hid ((t1 ++ [s]).length = k + 1) := Lib.hid (by rw [List.length_append, L1.out]; rfl)
        clear hown2 hgrow2 R
        have hrun2 := fun ty ao c => run_append_empty hi O2.out ty ao c
        have HP2 : Hid (put l s = t1 ++ [s]) := Lib.hid (by rw [HP.out, List.eq_nil_of_length_eq_zero (show t2.length = 0 by have := L2.out; omega), List.append_nil])
        go_wp2_with (at_builtin; refine Lib.wpList_append_run _ rfl (.tmp 32) (.tmp 35) _ _ rfl _ _ rfl rfl _ _ (hrun2 _ _ _) ?_)
        all_goals go_ret
        all_goals exact ⟨_, rfl, by rw [HP2.out]; exact Rd.of_own O2.out, B2.out⟩

end Go.Proofs.YtldllbmbcnipoaaGreatDoor.Tk
