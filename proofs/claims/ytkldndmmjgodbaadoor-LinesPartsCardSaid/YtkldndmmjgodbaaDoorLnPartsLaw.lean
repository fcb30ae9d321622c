/-
  The card of LinesParts: for every input the law returns true, and each argument reads afterwards as it read before; the package-level variables that the row lists are tied to the program's text (the walk reads none of them). No other condition.
-/
import Derived.Test.YtkldndmmjgodbaaDoorRows
import Derived.Test.YtkldndmmjgodbaaDoorCards
import Derived.Test.YtkldndmmjgodbaaDoorTie
import Derived.Test.YtkldndmmjgodbaaDoorLnMore
import Derived.Test.YtkldndmmjgodbaaDoorLnFrame
import Derived.WalkKit
import Derived.ProofKit
import Derived.OpenShut
import Derived.ShutString
import Derived.SizedLaws
import Derived.Lay
import Derived.SevenTiedAt
import Derived.Laws.AppendOwnNone
namespace Go.Proofs.YtkldndmmjgodbaaDoor.linesParts
open Go.ChangeShapes Go.WideShapes Go.ChangeAt Go.RowKit
open Go.ChangeMaps (open_string shut_string)
open Go.Proofs.YtkldndmmjgodbaaDoor.Ln
set_option linter.unusedVariables false

theorem own : ownKnob Tryd.prog.godebug = none := by kernel_rfl

theorem data_lf (a : ByteArray) : (a ++ ⟨#[10]⟩).data.toList = a.data.toList ++ [10] := by
  rw [ByteArray.data_append, Array.toList_append]
theorem data_lfb (a b : ByteArray) : (a ++ ⟨#[10]⟩ ++ b).data.toList = a.data.toList ++ 10 :: b.data.toList := by
  rw [ByteArray.data_append, Array.toList_append, data_lf, List.append_assoc]
  rfl
theorem size_lf (a : ByteArray) : (a ++ ⟨#[10]⟩).size = a.size + 1 := by rw [ByteArray.size_append]; rfl
theorem enc_one (xs : List (List UInt8)) : ∀ u ∈ xs.map encStr, u.oneCell' = true := by
  intro u hu
  obtain ⟨x, _, rfl⟩ := List.mem_map.1 hu
  rfl
theorem enc_cells {w : World} {b : Nat} {xs : List (List UInt8)} (h : ∀ j x, xs[j]? = some x → w.cell? ⟨b, 0 + j, none⟩ = some (.string (S x))) :
    ∀ j u, (xs.map encStr)[j]? = some u → w.cell? (Addr.add ⟨b, 0, none⟩ j) = some u := by
  intro j u hj
  rw [List.getElem?_map] at hj
  cases hx : xs[j]? with
  | none => rw [hx] at hj; simp at hj
  | some x =>
    rw [hx] at hj
    simp only [Option.map_some, Option.some.injEq] at hj
    subst hj
    rw [add_plain]
    exact h j x hx
theorem cells_of {w : World} {b c : Nat} {xs : List (List UInt8)} (h : Rd w (.slice (some ⟨b, 0, none⟩) xs.length c) xs) : ∀ j x, xs[j]? = some x → w.cell? ⟨b, 0 + j, none⟩ = some (.string (S x)) := by
  obtain ⟨ao, cap, hv, _, hx⟩ := h
  simp only [Value.slice.injEq, true_and] at hv
  obtain ⟨rfl, rfl⟩ := hv
  rcases hx with rfl | ⟨b', o', hao, _, hcell⟩
  · intro j x hj; simp at hj
  · simp only [Option.some.injEq, Addr.mk.injEq, and_true] at hao
    obtain ⟨rfl, rfl⟩ := hao
    exact hcell
theorem grow1 {w w5 : World} {t : TypeId} (hgrow : (w.alloc (.cells #[] t)).grownBy w5 (Value.ownBlock (.slice (some ⟨w.heap.size, 0, none⟩) 0 0))) : Below w.heap.size w w5 :=
  ((Below.refl _ _).alloc (Nat.le_refl _) _).grown hgrow (by simp) (fun k hk => by simp [Value.ownBlock] at hk; omega)
theorem rd_app {w : World} {B : Nat} {v : Value} {xs ys : List (List UInt8)} {n : Nat} {us : List Value} (h : w.ownsRow B 9 1 v n us) (hn : n = (xs ++ ys).length) (hu : us = (xs ++ ys).map encStr) : Rd w v (xs ++ ys) := by
  subst hn; subst hu; exact Rd.of_own h

set_option maxHeartbeats 3200000 in
theorem walk (w : World) (a0 : ByteArray) (w0 : a0.size ≤ maxLen) (r0 : a0.size ≤ reachBytes) (a1 : ByteArray) (w1 : a1.size ≤ maxLen) (r1 : a1.size ≤ reachBytes) :
    Calls Tryd.prog 9 #[.string a0, .string a1] w fun e w' => e = .returned (.bool true) ∧ Below w.heap.size w w' := by
  have r0' : a0.size ≤ 140737488355328 := by unfold reachBytes at r0; omega
  have r1' : a1.size ≤ 140737488355328 := by unfold reachBytes at r1; omega
  by_cases hl : 2000 < (a0.size : Int) + (a1.size : Int)
  · go_enter Tryd.func9, Tryd.ntmps9
    go_wp2_with fail
    refine (awake_any _).mono ?_
    rintro e w1 ⟨rfl, hb⟩
    go_wp2_with fail
    refine (awake_any _).mono ?_
    rintro e w2 ⟨rfl, hb2⟩
    go_wp2_with fail
    go_ret
    exact ⟨rfl, hb.trans (hb2.mono hb.size)⟩
  have el : decide (2000 < (a0.size : Int) + (a1.size : Int)) = false := decide_eq_false hl
  have z0 : a0.size ≤ 2000 := by omega
  have z1 : a1.size ≤ 2000 := by omega
  have z2 := size_lf a0
  have z3 : (a0 ++ ⟨#[10]⟩ ++ a1).size = a0.size + 1 + a1.size := by rw [ByteArray.size_append, z2]
  have hx := split_any (a0 ++ ⟨#[10]⟩) (by omega)
  have hy := split_any a1 (by omega)
  have hz := split_any (a0 ++ ⟨#[10]⟩ ++ a1) (by omega)
  have hp := ls_parts a1.data.toList a0.data.toList []
  rw [data_lf] at hx
  rw [data_lfb] at hz
  have lx : (split (a0.data.toList ++ [10])).1.length ≤ 2002 := Nat.le_trans (ls_len _ _) (by rw [List.length_append, len_data]; simp; omega)
  have ly : (split a1.data.toList).1.length ≤ 2002 := Nat.le_trans (ls_len _ _) (by rw [len_data]; omega)
  have hp1 : split (a0.data.toList ++ 10 :: a1.data.toList) = ((split (a0.data.toList ++ [10])).1 ++ (split a1.data.toList).1, (split a1.data.toList).2) := hp.1
  have hp2 : (split (a0.data.toList ++ [10])).1 ≠ [] := hp.2
  rw [hp1] at hz
  clear hp hp1
  generalize split (a0.data.toList ++ [10]) = X at *
  generalize split a1.data.toList = Y at *
  obtain ⟨xs, tx⟩ := X
  obtain ⟨ys, ty⟩ := Y
  simp only at hx hy hz hp2 lx ly
  have Hx := Lib.hid hx
  have Hy := Lib.hid hy
  have Hz := Lib.hid hz
  have hpos : 0 < xs.length := List.length_pos_iff.2 hp2
  have dpos : decide (0 < (xs.length : Int)) = true := decide_eq_true (by omega)
  have HN := Lib.hid hp2
  clear hx hy hz hp2
  obtain ⟨i0, hi, hz0, hz1, hz2⟩ := info_parts infoS
  have main : ∀ cr : Bool, (cr = true → 0 < a0.size ∧ ∀ h : a0.size - 1 < a0.size, a0[a0.size - 1] = 13) → (cr = false → 0 < a0.size → ∀ h : a0.size - 1 < a0.size, a0[a0.size - 1] ≠ 13) →
      Calls Tryd.prog 9 #[.string a0, .string a1] w fun e w' => e = .returned (.bool true) ∧ Below w.heap.size w w' := by
    intro cr hc1 hc2
    have HC1 := Lib.hid hc1
    have HC2 := Lib.hid hc2
    clear hc1 hc2
    go_enter Tryd.func9, Tryd.ntmps9
    go_wp2_with fail
    refine (awake_any _).mono ?_
    rintro e w1 ⟨rfl, hb⟩
    have B1 := Lib.hid hb
    clear hb
    go_wp2_with fail
    refine (Hx.out _).mono ?_
    rintro e w2 ⟨vx, rfl, hown, hb⟩
    have RX := Lib.hid (Rd.of_own hown)
    have B2 := Lib.hid (B1.out.trans (hb.mono B1.out.size))
    rcases hown.2 with ⟨_, h0⟩ | ⟨gx, cx, ux, rfl, hBx, hgx, hnx, hmx, hsx, htx⟩
    · omega
    clear hown hb hBx hgx hsx htx
    go_wp2_with fail
    refine (Hy.out _).mono ?_
    rintro e w3 ⟨vy, rfl, hown, hb⟩
    have RX3 := Lib.hid (RX.out.below hb)
    have RY := Lib.hid (Rd.of_own hown)
    have OY := Lib.hid hown.2
    have B3 := Lib.hid (B2.out.trans (hb.mono B2.out.size))
    clear hown hb
    go_wp2_with fail
    refine (Hz.out _).mono ?_
    rintro e w4 ⟨vz, rfl, hown, hb⟩
    have RX4 := Lib.hid (RX3.out.below hb)
    have RY4 := Lib.hid (RY.out.below hb)
    have RZ := Lib.hid (Rd.of_own hown)
    have B4 := Lib.hid (B3.out.trans (hb.mono B3.out.size))
    clear hown hb
    cases cr with
    | true =>
      obtain ⟨p0, p1⟩ := HC1.out rfl
      have p2 : a0.size - 1 < a0.size := by omega
      have e1 : ((a0[a0.size - 1].toNat : Int) == 13) = true := eq8 (p1 p2)
      have d0 : decide (0 < (a0.size : Int)) = true := decide_eq_true (by omega)
      clear p1
      go_wp2_with fail
      go_ret
      exact ⟨rfl, B4.out⟩
    | false =>
      by_cases h0 : 0 < a0.size
      · have p2 : a0.size - 1 < a0.size := by omega
        have e1 : ((a0[a0.size - 1].toNat : Int) == 13) = false := ne8 (HC2.out rfl h0 p2)
        have d0 : decide (0 < (a0.size : Int)) = true := decide_eq_true (by omega)
        go_wp2_with (at_builtin; refine wpList_append_own _ rfl (.tmp 56) (.tmp 57) 22 rfl w4.heap.size 9 i0 (.string ⟨#[]⟩) 1 16 Tryd.underlying22 hi hz0 hz1 hz2 rfl (by decide) _ 0 [] rfl (World.ownsRow_lit w4 #[] 0 (Nat.le_refl _) (Nat.zero_le _) rfl) ⟨gx, 0, none⟩ xs.length cx (xs.map encStr) rfl (by simp) (enc_cells (cells_of (RX4.out.below ((Below.refl _ _).alloc (Nat.le_refl _) _)))) (enc_one xs) (by unfold maxLen; omega) (by omega) (by simp) ?_)
        intro v1 w5 hown1 hgrow _
        have Bel5 := Lib.hid (grow1 hgrow)
        have O1 := Lib.hid hown1
        have hs5 := Bel5.out.size
        clear hown1 hgrow
        rcases OY.out with ⟨rfl, hy0⟩ | ⟨gy, cy, uy, rfl, _, _, hny, hmy, _, _⟩
        · go_wp2_with (at_builtin; refine wpList_append_own_none rfl (.tmp 58) (.tmp 59) 22 rfl w4.heap.size 9 i0 1 Tryd.underlying22 hi _ _ _ rfl O1.out rfl ?_)
          have hys : ys = [] := List.eq_nil_of_length_eq_zero hy0
          have RV := Lib.hid (rd_app (xs := xs) (ys := ys) O1.out (by rw [hys]; simp) (by rw [hys]; simp))
          have RZ6 := Lib.hid (RZ.out.below Bel5.out)
          have B6 := Lib.hid (B4.out.trans (Bel5.out.mono B4.out.size))
          go_wp2_with fail
          refine (same_any vz _ (xs ++ ys) (xs ++ ys) _ RZ6.out RV.out (by rw [List.length_append]; omega) (by rw [List.length_append]; omega)).mono ?_
          rintro e w7 ⟨rfl, hb⟩
          rw [decide_eq_true rfl]
          have B7 := Lib.hid (B6.out.trans (hb.mono B6.out.size))
          clear hb
          cases hE : (a1.toList == ([] : List UInt8)) with
          | true =>
            go_wp2_with fail
            go_ret
            exact ⟨rfl, B7.out⟩
          | false =>
            go_wp2_with fail
            go_ret
            exact ⟨rfl, B7.out⟩
        · go_wp2_with (at_builtin; refine wpList_append_own _ rfl (.tmp 58) (.tmp 59) 22 rfl w4.heap.size 9 i0 (.string ⟨#[]⟩) 1 16 Tryd.underlying22 hi hz0 hz1 hz2 rfl (by decide) _ _ _ rfl O1.out ⟨gy, 0, none⟩ ys.length cy (ys.map encStr) rfl (by simp) (enc_cells (cells_of (RY4.out.below Bel5.out))) (enc_one ys) (by unfold maxLen; omega) (by omega) (by omega) ?_)
          intro v2 w6 hown2 hgrow2 _
          have RV := Lib.hid (rd_app (xs := xs) (ys := ys) hown2 (by simp) (by simp))
          have Bel6 := Lib.hid (Bel5.out.grown hgrow2 (by omega) (fun k hk => (O1.out.lt k hk).1))
          have RZ6 := Lib.hid (RZ.out.below Bel6.out)
          have B6 := Lib.hid (B4.out.trans (Bel6.out.mono B4.out.size))
          clear hown2 hgrow2
          go_wp2_with fail
          refine (same_any vz _ (xs ++ ys) (xs ++ ys) _ RZ6.out RV.out (by rw [List.length_append]; omega) (by rw [List.length_append]; omega)).mono ?_
          rintro e w7 ⟨rfl, hb⟩
          rw [decide_eq_true rfl]
          have B7 := Lib.hid (B6.out.trans (hb.mono B6.out.size))
          clear hb
          cases hE : (a1.toList == ([] : List UInt8)) with
          | true =>
            go_wp2_with fail
            go_ret
            exact ⟨rfl, B7.out⟩
          | false =>
            go_wp2_with fail
            go_ret
            exact ⟨rfl, B7.out⟩
      · have d0 : decide (0 < (a0.size : Int)) = false := decide_eq_false (by omega)
        go_wp2_with (at_builtin; refine wpList_append_own _ rfl (.tmp 56) (.tmp 57) 22 rfl w4.heap.size 9 i0 (.string ⟨#[]⟩) 1 16 Tryd.underlying22 hi hz0 hz1 hz2 rfl (by decide) _ 0 [] rfl (World.ownsRow_lit w4 #[] 0 (Nat.le_refl _) (Nat.zero_le _) rfl) ⟨gx, 0, none⟩ xs.length cx (xs.map encStr) rfl (by simp) (enc_cells (cells_of (RX4.out.below ((Below.refl _ _).alloc (Nat.le_refl _) _)))) (enc_one xs) (by unfold maxLen; omega) (by omega) (by simp) ?_)
        intro v1 w5 hown1 hgrow _
        have Bel5 := Lib.hid (grow1 hgrow)
        have O1 := Lib.hid hown1
        have hs5 := Bel5.out.size
        clear hown1 hgrow
        rcases OY.out with ⟨rfl, hy0⟩ | ⟨gy, cy, uy, rfl, _, _, hny, hmy, _, _⟩
        · go_wp2_with (at_builtin; refine wpList_append_own_none rfl (.tmp 58) (.tmp 59) 22 rfl w4.heap.size 9 i0 1 Tryd.underlying22 hi _ _ _ rfl O1.out rfl ?_)
          have hys : ys = [] := List.eq_nil_of_length_eq_zero hy0
          have RV := Lib.hid (rd_app (xs := xs) (ys := ys) O1.out (by rw [hys]; simp) (by rw [hys]; simp))
          have RZ6 := Lib.hid (RZ.out.below Bel5.out)
          have B6 := Lib.hid (B4.out.trans (Bel5.out.mono B4.out.size))
          go_wp2_with fail
          refine (same_any vz _ (xs ++ ys) (xs ++ ys) _ RZ6.out RV.out (by rw [List.length_append]; omega) (by rw [List.length_append]; omega)).mono ?_
          rintro e w7 ⟨rfl, hb⟩
          rw [decide_eq_true rfl]
          have B7 := Lib.hid (B6.out.trans (hb.mono B6.out.size))
          clear hb
          cases hE : (a1.toList == ([] : List UInt8)) with
          | true =>
            go_wp2_with fail
            go_ret
            exact ⟨rfl, B7.out⟩
          | false =>
            go_wp2_with fail
            go_ret
            exact ⟨rfl, B7.out⟩
        · go_wp2_with (at_builtin; refine wpList_append_own _ rfl (.tmp 58) (.tmp 59) 22 rfl w4.heap.size 9 i0 (.string ⟨#[]⟩) 1 16 Tryd.underlying22 hi hz0 hz1 hz2 rfl (by decide) _ _ _ rfl O1.out ⟨gy, 0, none⟩ ys.length cy (ys.map encStr) rfl (by simp) (enc_cells (cells_of (RY4.out.below Bel5.out))) (enc_one ys) (by unfold maxLen; omega) (by omega) (by omega) ?_)
          intro v2 w6 hown2 hgrow2 _
          have RV := Lib.hid (rd_app (xs := xs) (ys := ys) hown2 (by simp) (by simp))
          have Bel6 := Lib.hid (Bel5.out.grown hgrow2 (by omega) (fun k hk => (O1.out.lt k hk).1))
          have RZ6 := Lib.hid (RZ.out.below Bel6.out)
          have B6 := Lib.hid (B4.out.trans (Bel6.out.mono B4.out.size))
          clear hown2 hgrow2
          go_wp2_with fail
          refine (same_any vz _ (xs ++ ys) (xs ++ ys) _ RZ6.out RV.out (by rw [List.length_append]; omega) (by rw [List.length_append]; omega)).mono ?_
          rintro e w7 ⟨rfl, hb⟩
          rw [decide_eq_true rfl]
          have B7 := Lib.hid (B6.out.trans (hb.mono B6.out.size))
          clear hb
          cases hE : (a1.toList == ([] : List UInt8)) with
          | true =>
            go_wp2_with fail
            go_ret
            exact ⟨rfl, B7.out⟩
          | false =>
            go_wp2_with fail
            go_ret
            exact ⟨rfl, B7.out⟩
  by_cases h0 : 0 < a0.size
  · have p2 : a0.size - 1 < a0.size := by omega
    by_cases h13 : a0[a0.size - 1] = 13
    · exact main true (fun _ => ⟨h0, fun _ => h13⟩) (fun h => by cases h)
    · exact main false (fun h => by cases h) (fun _ _ _ => h13)
  · exact main false (fun h => by cases h) (fun _ h => absurd h h0)

set_option maxRecDepth 100000 in
theorem lifted (os : Os) (started : os.Started) (H : Type) (enc : TypeId × Value → H) :
    ReturnsInHanded {} Tryd.checked os 9 .any (fun w args => (Rows.linesPartsSpec.pre enc Tryd.prog Tryd.f9 Rows.linesPartsRow.domain false w args ∧ laidMetH Tryd.prog Rows.linesPartsRow.laid w) ∧ sizedMet enc Tryd.prog Tryd.f9 (OpenSpec.ofChange Rows.linesPartsSpec) false w args)
      (Rows.linesPartsSpec.post enc Tryd.prog Tryd.f9 false true false false) := by
  refine returnsInHanded_of_change_and (C := Tryd.checked) (X := fun w _ => laidMetH Tryd.prog Rows.linesPartsRow.laid w) (fun _ _ _ hh h => h.of_heap hh) own started (by kernel_rfl) Tryd.func9
    (ChangeSpec.witness_shaped (enc := enc) (C := Tryd.checked) (os := os) (X := fun w _ => laidMetH Tryd.prog Rows.linesPartsRow.laid w) false (World.laidAll Tryd.prog os Rows.linesPartsRow.laid) #[.string ByteArray.empty, .string ByteArray.empty] 8 (World.laidAll_os _ _ _)
      (World.shaped_of_ZipB (by kernel_rfl) (by kernel_rfl)) (by kernel_rfl) (by kernel_rfl) (by kernel_rfl)
      (by rw [MakeChecks.laidMetH_plain _ _ _ (by kernel_rfl)]; exact laidMet_laidAll _ (by kernel_rfl) (by kernel_rfl))) ?_
  intro W base args ds gs before hval0 hW hcnd hsz0 hL _
  have hval : ∀ (j : Nat) t v, Tryd.f9.params[j]? = some t → args[j]? = some v → Value.okWide Tryd.prog W .any base t v := hval0
  have hsz : (DataW.weightsEach Tryd.prog (Tryd.f9.params.toList ++ Rows.linesPartsSpec.plain.varTypes Tryd.prog) (ds ++ gs)).all (· ≤ reachBytes) = true := hsz0
  have hW' := hW
  obtain ⟨p, q, hA0, hV, rfl, hfz, hnd⟩ := hW
  have hA : DataW.TrodAll enc Tryd.prog W 0 (fun _ => true) true Tryd.f9.params.toList args.toList ds p := hA0
  rw [Tryd.params9] at hA hval hsz
  obtain ⟨v0, vs0, d0, ds0, p0, q0, hargs, rfl, rfl, h0, r0⟩ := trodAll_cons hA
  obtain ⟨v1, vs1, d1, ds1, p1, q1, rfl, rfl, rfl, h1, r1⟩ := trodAll_cons r0
  obtain ⟨rfl, rfl, rfl⟩ := trodAll_nil r1
  obtain rfl : args = #[v0, v1] := by cases args; simp_all
  obtain ⟨rfl, rfl⟩ := trodVars_none hV

  obtain ⟨a0, rfl, rfl, rfl, w0⟩ := open_string Tryd.underlying9 (hval 0 9 v0 rfl rfl) h0
  obtain ⟨a1, rfl, rfl, rfl, w1⟩ := open_string Tryd.underlying9 (hval 1 9 v1 rfl rfl) h1
  clear hA0 hval0 hsz0
  simp only [List.append_nil] at hW'
  refine (walk W a0 w0 (by have := sized_string hsz (j := 0) (t := 9) rfl rfl; simpa using this) a1 w1 (by have := sized_string hsz (j := 1) (t := 9) rfl rfl; simpa using this)).mono fun e W' ⟨he, bel⟩ => ?_
  subst he
  exact ⟨_, rfl, _, _, _, [], _, [], hW', trodAll_mk1 (shut_bool Tryd.underlying4 _), (trodAll_cons_mk (shut_string Tryd.underlying9 w0) (trodAll_cons_mk (shut_string Tryd.underlying9 w1) trodAll_mk0)), rfl, bel.frame _, fun h => by cases h⟩

theorem over : Rows.linesPartsRow.holds Tryd.pinned (OpenSpec.ofChange Rows.linesPartsSpec) :=
  OpenClaim.holds_of_wide 9 Tryd.f9 rfl rfl rfl rfl rfl rfl rfl ⟨rfl, rfl, rfl, rfl, rfl⟩ rfl rfl rfl rfl rfl (by kernel_rfl) Tryd.func9 (by kernel_rfl)
    (of_decide_eq_true (by kernel_rfl)) (by unfold Func.isWrapper; first | (rw [if_pos (by decide +kernel)]; kernel_rfl) | (rw [if_neg (by decide +kernel)]; exact ⟨rfl, rfl⟩))
    (fun os started H enc _ => lifted os started H enc)

theorem card : Rows.LinesPartsCardSaid :=
  Claim7.holds_tied_plain_at .later [] [.data, .pinned] true _ false over (fun _ h => by cases h) (by kernel_rfl) (fun _ h => by cases h) linesParts_row_tie rfl ⟨rfl, rfl⟩ (by kernel_rfl) rfl
    (fun f fn hf hfn => by
      obtain rfl : f = 9 := Option.some.inj ((show Tryd.prog.funcNamed Rows.linesPartsRow.func = some 9 by kernel_rfl).symm.trans hf) |>.symm
      obtain rfl : fn = Tryd.f9 := (Option.some.inj (Tryd.func9.symm.trans hfn)).symm
      exact ⟨by kernel_rfl, fun j t ht => by
        rw [Tryd.params9] at ht
        have hm : t ∈ [9, 9] := by simpa using Array.mem_of_getElem? ht
        have hall : ([9, 9].all fun u => !Tryd.prog.wantsStandIn u) = true := by kernel_rfl
        exact (show Tryd.prog.wantsStandIn t = false by simpa using List.all_eq_true.1 hall t hm)⟩)
    (by kernel_rfl)
end Go.Proofs.YtkldndmmjgodbaaDoor.linesParts
