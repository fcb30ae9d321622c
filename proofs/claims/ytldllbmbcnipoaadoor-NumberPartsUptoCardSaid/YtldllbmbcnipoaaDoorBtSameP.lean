/-
  CONTRACTS of slices.Equal at strings, and of the program's oneSame and Same (tree).
-/
import Derived.Test.YtldllbmbcnipoaaDoorBtSame
import Derived.Test.YtldllbmbcnipoaaDoorPkNT
import Derived.Test.YtldllbmbcnipoaaDoorSpSameP
import Derived.Lib.QuietBelow
import Derived.BigQuiet
namespace Go.Proofs.YtldllbmbcnipoaaDoor.Bt
open Go.RowKit
open Go.Proofs.YtldllbmbcnipoaaDoor.Tk (S S_of S_list S_size S_toList ret_int Rd get_lt take_next take_off)
open Go.Proofs.YtldllbmbcnipoaaDoor.Cm (calls_at alloc_new alloc_at cell_at)
open Go.Proofs.YtldllbmbcnipoaaDoor.Sp (Sp Tr ret_bool OkAns smAll smAll_len smAll_iff sameP_any totAll)
open Go.Proofs.YtldllbmbcnipoaaDoor.Bk (Bk)
set_option linter.unusedVariables false

set_option maxHeartbeats 800000 in
theorem equalP_any (a b : Value) (xs ys : List (List UInt8)) (w : World) (ha : Rd w a xs) (hb : Rd w b ys) (hx : xs.length ≤ 9223372036854775807) (hy : ys.length ≤ 9223372036854775807) :
    Calls Tryd.prog 45 #[a, b] w fun e w' => e = .returned (.bool (decide (xs = ys))) ∧ ∃ n, w' = w.drewN n := by
  obtain ⟨ao, ca, rfl, hca, hax⟩ := ha
  obtain ⟨bo, cb, rfl, hcb, hbx⟩ := hb
  by_cases hl : xs.length = ys.length
  · have e0 : ((xs.length : Int) != (ys.length : Int)) = false := by simp [hl]
    by_cases h0 : xs = []
    · have Hf : Hid (decide (xs = ys) = true) := Lib.hid (by subst h0; simpa using (List.eq_nil_of_length_eq_zero hl.symm))
      have hz : xs.length = 0 := by rw [h0]; rfl
      have hz2 : ys.length = 0 := by omega
      rw [hz, hz2]
      obtain ⟨X, hX⟩ : ∃ X, decide (xs = ys) = X := ⟨_, rfl⟩
      rw [hX] at Hf ⊢
      clear hax hbx h0 e0 hl hX
      go_enter Tryd.func45, Tryd.ntmps45
      go_wp2_with fail
      go_loop [13] (fun i => i = .int .i64 0) (fun i => 0)
      case atStart => rfl
      case round =>
        subst hrel
        go_wp2_with fail
        go_ret
        exact ⟨ret_bool Hf.out.symm, 0, rfl⟩
    · rcases hax with hax | ⟨b1, o1, rfl, hb1, hc1⟩
      · exact absurd hax h0
      rcases hbx with hbx | ⟨b2, o2, rfl, hb2, hc2⟩
      · exact absurd (List.eq_nil_of_length_eq_zero (by rw [hl, hbx]; rfl)) h0
      have H1 := Lib.hid hc1
      have H2 := Lib.hid hc2
      have HE : Hid (xs.take xs.length = ys.take xs.length → decide (xs = ys) = true) := Lib.hid (fun h => decide_eq_true (by rwa [List.take_of_length_le (by omega), List.take_of_length_le (by omega)] at h))
      have HO : Hid (∀ k (hk : k < xs.length) (hk2 : k < ys.length), xs[k] ≠ ys[k] → decide (xs = ys) = false) := Lib.hid (fun k hk hk2 he => decide_eq_false (take_off hk hk2 he))
      obtain ⟨X, hX⟩ : ∃ X, decide (xs = ys) = X := ⟨_, rfl⟩
      rw [hX] at HE HO ⊢
      clear hc1 hc2 h0 hX
      go_enter Tryd.func45, Tryd.ntmps45
      go_wp2_with fail
      go_loopw [13] (fun i wr => ∃ k n : Nat, k ≤ xs.length ∧ i = .int .i64 k ∧ wr = w.drewN n ∧ Hid (xs.take k = ys.take k)) (fun i _ => xs.length - (intOf i).toNat)
      case atStart => exact ⟨0, 0, Nat.zero_le _, rfl, rfl, Lib.hid rfl⟩
      case round =>
        obtain ⟨k, n, hk, rfl, hwr, HT⟩ := hrel
        have HW := Lib.hid hwr
        by_cases hlt : k < xs.length
        · have hlt2 : k < ys.length := by omega
          have hbel : Below w.heap.size w wr := by rw [hwr]; exact below_drewN (Below.refl _ _) n
          have k1 : wr.cell? ⟨b1, o1 + k, none⟩ = some (.string (S xs[k])) := (hbel.cell (by exact hb1)).trans (H1.out k _ (get_lt hlt))
          have k2 : wr.cell? ⟨b2, o2 + k, none⟩ = some (.string (S ys[k])) := (hbel.cell (by exact hb2)).trans (H2.out k _ (get_lt hlt2))
          by_cases he : xs[k] = ys[k]
          · have HT2 := Lib.hid (take_next hlt hlt2 HT.out he)
            have e1 : ((S xs[k]).toList == (S ys[k]).toList) = true := by rw [he]; simp
            have e1' : ((S xs[k]).toList != (S ys[k]).toList) = false := by rw [he]; simp
            clear hbel HT he hwr
            generalize xs[k] = x at *
            generalize ys[k] = y at *
            go_wp2_with fail
            go_quiet (fail)
            go_wp2_with fail
            go_roundw
            case rel => exact ⟨k + 1, n + nq, by omega, by go_num, by rw [HW.out, World.drewN_drewN], HT2⟩
            case measure => simp [intOf] <;> omega
          · have Hf := Lib.hid (HO.out k hlt hlt2 he)
            have e1 : ((S xs[k]).toList == (S ys[k]).toList) = false := by rw [S_toList, S_toList]; simpa using he
            have e1' : ((S xs[k]).toList != (S ys[k]).toList) = true := by rw [S_toList, S_toList]; simpa using he
            clear hbel HT he hwr
            generalize xs[k] = x at *
            generalize ys[k] = y at *
            go_wp2_with fail
            go_quiet (fail)
            go_wp2_with fail
            go_ret
            exact ⟨ret_bool Hf.out.symm, n + nq, by rw [HW.out, World.drewN_drewN]⟩
        · obtain rfl : k = xs.length := by omega
          have Hf := Lib.hid (HE.out HT.out)
          clear HT hwr
          go_wp2_with fail
          go_ret
          exact ⟨ret_bool Hf.out.symm, n, HW.out⟩
  · have e0 : ((xs.length : Int) != (ys.length : Int)) = true := by simp; omega
    have Hf : Hid (decide (xs = ys) = false) := Lib.hid (decide_eq_false (fun h => hl (by rw [h])))
    obtain ⟨X, hX⟩ : ∃ X, decide (xs = ys) = X := ⟨_, rfl⟩
    rw [hX] at Hf ⊢
    clear hax hbx hl hX
    go_enter Tryd.func45, Tryd.ntmps45
    go_wp2_with fail
    go_ret
    exact ⟨ret_bool Hf.out.symm, 0, rfl⟩

theorem smOne_has (x y : Bk) : smOne x y = (eqH x.kind x.level (S x.info) x.lines.length x.spans.length x.kids.length y.kind y.level (S y.info) y.lines.length y.spans.length y.kids.length && decide (x.lines = y.lines) && smAll x.spans y.spans && smB x.kids y.kids) := by
  rw [smOne_eq, Bool.eq_iff_iff]
  unfold eqH
  rw [S_toList, S_toList]
  simp only [Bool.and_eq_true, decide_eq_true_iff, beq_iff_eq, smAll_iff, smB_iff]
  constructor
  · rintro ⟨⟨⟨⟨⟨h1, h2⟩, h3⟩, h4⟩, h5⟩, h6⟩
    rw [h1, h2, h3, h4, h5, h6]
    simp
  · rintro ⟨⟨⟨⟨⟨⟨⟨⟨h1, h2⟩, h3⟩, _⟩, _⟩, _⟩, h4⟩, h5⟩, h6⟩
    exact ⟨⟨⟨⟨⟨h1, h2⟩, h3⟩, h4⟩, h5⟩, h6⟩

set_option maxHeartbeats 12800000 in
set_option maxRecDepth 100000 in
theorem oneSameP_any (x y : Bk) (al1 as1 ak1 al2 as2 ak2 : Option Addr) (cl1 cs1 ck1 cl2 cs2 ck2 : Nat) (w : World) (hr1 : Rd w (.slice al1 x.lines.length cl1) x.lines) (hn1 : x.lines.length ≤ 9223372036854775807) (ht1 : Tr w (.slice as1 x.spans.length cs1) x.spans)
    (hr2 : Rd w (.slice al2 y.lines.length cl2) y.lines) (hn2 : y.lines.length ≤ 9223372036854775807) (ht2 : Tr w (.slice as2 y.spans.length cs2) y.spans)
    (IH : ∀ (w' : World), Below w.heap.size w w' → Calls Tryd.prog 21 #[.slice ak1 x.kids.length ck1, .slice ak2 y.kids.length ck2] w' (OkAns w' (smB x.kids y.kids))) :
    Calls Tryd.prog 32 #[.agg #[.int .i64 x.kind, .int .i64 x.level, .string (S x.info), .slice al1 x.lines.length cl1, .slice as1 x.spans.length cs1, .slice ak1 x.kids.length ck1], .agg #[.int .i64 y.kind, .int .i64 y.level, .string (S y.info), .slice al2 y.lines.length cl2, .slice as2 y.spans.length cs2, .slice ak2 y.kids.length ck2]] w (OkAns w (smOne x y)) := by
  have HE := Lib.hid (fun w' (h : Below w.heap.size w w') => (equalP_any _ _ x.lines y.lines w' (hr1.below h) (hr2.below h) hn1 hn2).mono (fun e w'' (⟨he, n, hw⟩ : e = Ending.returned (.bool (decide (x.lines = y.lines))) ∧ ∃ n, w'' = w'.drewN n) => (⟨he, by rw [hw]; exact below_drewN (Below.refl _ _) n⟩ : OkAns w' (decide (x.lines = y.lines)) e w'')))
  have HS := Lib.hid (fun w' (h : Below w.heap.size w w') => sameP_any (totAll x.spans) x.spans y.spans _ _ w' (Nat.le_refl _) (ht1.below h) (ht2.below h))
  have HI := Lib.hid IH
  have HX := Lib.hid (smOne_has x y)
  have HEq := fun w' => run_eq_has x.kind x.level (S x.info) x.lines.length x.spans.length x.kids.length y.kind y.level (S y.info) y.lines.length y.spans.length y.kids.length w'
  obtain ⟨X, hX⟩ : ∃ X, smOne x y = X := ⟨_, rfl⟩
  rw [hX] at HX ⊢
  clear hX IH hr1 hr2 ht1 ht2 hn1 hn2
  generalize eqH x.kind x.level (S x.info) x.lines.length x.spans.length x.kids.length y.kind y.level (S y.info) y.lines.length y.spans.length y.kids.length = b at *
  generalize decide (x.lines = y.lines) = d1 at *
  generalize smAll x.spans y.spans = d2 at *
  generalize smB x.kids y.kids = d3 at *
  generalize x.lines.length = ln1 at *
  generalize x.spans.length = sn1 at *
  generalize x.kids.length = kn1 at *
  generalize x.kind = k1 at *
  generalize x.level = lv1 at *
  generalize S x.info = s1 at *
  generalize y.lines.length = ln2 at *
  generalize y.spans.length = sn2 at *
  generalize y.kids.length = kn2 at *
  generalize y.kind = k2 at *
  generalize y.level = lv2 at *
  generalize S y.info = s2 at *
  have HGd := fun w' => guard_has .eql (.tmp 6) (.tmp 8) #[.int .i64 k1, .int .i64 lv1, .string s1, .int .i64 (ln1 : Nat), .int .i64 (sn1 : Nat), .int .i64 (kn1 : Nat)] #[.int .i64 k2, .int .i64 lv2, .string s2, .int .i64 (ln2 : Nat), .int .i64 (sn2 : Nat), .int .i64 (kn2 : Nat)] w'
  have hV1 : hasV k1 lv1 s1 (ln1 : Nat) (sn1 : Nat) (kn1 : Nat) = .agg #[.int .i64 k1, .int .i64 lv1, .string s1, .int .i64 (ln1 : Nat), .int .i64 (sn1 : Nat), .int .i64 (kn1 : Nat)] := rfl
  have hV2 : hasV k2 lv2 s2 (ln2 : Nat) (sn2 : Nat) (kn2 : Nat) = .agg #[.int .i64 k2, .int .i64 lv2, .string s2, .int .i64 (ln2 : Nat), .int .i64 (sn2 : Nat), .int .i64 (kn2 : Nat)] := rfl
  have HO1 := Lib.hid (fun w' => of_any k1 lv1 s1 al1 as1 ak1 ln1 sn1 kn1 cl1 cs1 ck1 w')
  have HO2 := Lib.hid (fun w' => of_any k2 lv2 s2 al2 as2 ak2 ln2 sn2 kn2 cl2 cs2 ck2 w')
  rw [← hV1, ← hV2] at HGd
  clear hV1 hV2
  generalize hasV k1 lv1 s1 (ln1 : Nat) (sn1 : Nat) (kn1 : Nat) = V1 at *
  generalize hasV k2 lv2 s2 (ln2 : Nat) (sn2 : Nat) (kn2 : Nat) = V2 at *
  go_enter Tryd.func32, Tryd.ntmps32
  go_upto_region 1 with fail
  have sz : ∀ o : Obj, (w.alloc o).heap.size = w.heap.size + 1 := fun o => by simp
  have hA := Lib.hid (alloc_at (alloc_new w (.cells #[.int .i64 k1, .int .i64 lv1, .string s1, .slice al1 ln1 cl1, .slice as1 sn1 cs1, .slice ak1 kn1 ck1] 33)) (.cells #[.int .i64 k2, .int .i64 lv2, .string s2, .slice al2 ln2 cl2, .slice as2 sn2 cs2, .slice ak2 kn2 ck2] 33))
  have hB := alloc_new (w.alloc (.cells #[.int .i64 k1, .int .i64 lv1, .string s1, .slice al1 ln1 cl1, .slice as1 sn1 cs1, .slice ak1 kn1 ck1] 33)) (.cells #[.int .i64 k2, .int .i64 lv2, .string s2, .slice al2 ln2 cl2, .slice as2 sn2 cs2, .slice ak2 kn2 ck2] 33)
  rw [sz] at hB
  have hB := Lib.hid hB
  have HB1 := Lib.hid (((Below.refl w.heap.size w).alloc (Nat.le_refl _) (.cells #[.int .i64 k1, .int .i64 lv1, .string s1, .slice al1 ln1 cl1, .slice as1 sn1 cs1, .slice ak1 kn1 ck1] 33)).alloc (by rw [sz]; omega) (.cells #[.int .i64 k2, .int .i64 lv2, .string s2, .slice al2 ln2 cl2, .slice as2 sn2 cs2, .slice ak2 kn2 ck2] 33))
  clear sz
  generalize (w.alloc (.cells #[.int .i64 k1, .int .i64 lv1, .string s1, .slice al1 ln1 cl1, .slice as1 sn1 cs1, .slice ak1 kn1 ck1] 33)).alloc (.cells #[.int .i64 k2, .int .i64 lv2, .string s2, .slice al2 ln2 cl2, .slice as2 sn2 cs2, .slice ak2 kn2 ck2] 33) = w1 at *
  have q00 := fun d os => cell_regrown (w := w1) (cell_at hA.out 0 : w1.cell? ⟨w.heap.size, 0, none⟩ = some (.int .i64 k1)) d os
  have q01 := fun d os => cell_regrown (w := w1) (cell_at hA.out 1 : w1.cell? ⟨w.heap.size, 1, none⟩ = some (.int .i64 lv1)) d os
  have q02 := fun d os => cell_regrown (w := w1) (cell_at hA.out 2 : w1.cell? ⟨w.heap.size, 2, none⟩ = some (.string s1)) d os
  have q03 := fun d os => cell_regrown (w := w1) (cell_at hA.out 3 : w1.cell? ⟨w.heap.size, 3, none⟩ = some (.slice al1 ln1 cl1)) d os
  have q04 := fun d os => cell_regrown (w := w1) (cell_at hA.out 4 : w1.cell? ⟨w.heap.size, 4, none⟩ = some (.slice as1 sn1 cs1)) d os
  have q05 := fun d os => cell_regrown (w := w1) (cell_at hA.out 5 : w1.cell? ⟨w.heap.size, 5, none⟩ = some (.slice ak1 kn1 ck1)) d os
  have q10 := fun d os => cell_regrown (w := w1) (cell_at hB.out 0 : w1.cell? ⟨w.heap.size + 1, 0, none⟩ = some (.int .i64 k2)) d os
  have q11 := fun d os => cell_regrown (w := w1) (cell_at hB.out 1 : w1.cell? ⟨w.heap.size + 1, 1, none⟩ = some (.int .i64 lv2)) d os
  have q12 := fun d os => cell_regrown (w := w1) (cell_at hB.out 2 : w1.cell? ⟨w.heap.size + 1, 2, none⟩ = some (.string s2)) d os
  have q13 := fun d os => cell_regrown (w := w1) (cell_at hB.out 3 : w1.cell? ⟨w.heap.size + 1, 3, none⟩ = some (.slice al2 ln2 cl2)) d os
  have q14 := fun d os => cell_regrown (w := w1) (cell_at hB.out 4 : w1.cell? ⟨w.heap.size + 1, 4, none⟩ = some (.slice as2 sn2 cs2)) d os
  have q15 := fun d os => cell_regrown (w := w1) (cell_at hB.out 5 : w1.cell? ⟨w.heap.size + 1, 5, none⟩ = some (.slice ak2 kn2 ck2)) d os
  have R1 := Lib.hid (fun d os => Calls.regrown_of (HO1.out (Go.Sort.grow (redrawn w1 d) os)))
  have R2 := Lib.hid (fun d os => Calls.regrown_of (HO2.out (Go.Sort.grow (redrawn w1 d) os)))
  have R3 := Lib.hid (fun d os => Calls.regrown_of (HE.out (Go.Sort.grow (redrawn w1 d) os) (HB1.out.trans ((below_regrown w1 d os).mono HB1.out.size))))
  have R4 := Lib.hid (fun d os => Calls.regrown_of (HS.out (Go.Sort.grow (redrawn w1 d) os) (HB1.out.trans ((below_regrown w1 d os).mono HB1.out.size))))
  have R5 := Lib.hid (fun d os => Calls.regrown_of (HI.out (Go.Sort.grow (redrawn w1 d) os) (HB1.out.trans ((below_regrown w1 d os).mono HB1.out.size))))
  clear HO1 HO2 HE HS HI hA hB
  cases b with
  | false =>
    refine wp_region_quiet_below (by kernel_rfl) (by kernel_rfl) ?_
    repeat (go_big_quiet_step (first
      | (go_at_call 44; first | exact calls_at (args := #[.agg #[.int .i64 k1, .int .i64 lv1, .string s1, .slice al1 ln1 cl1, .slice as1 sn1 cs1, .slice ak1 kn1 ck1]]) rfl (R1.out _ _) (fun _ _ h => h) | exact calls_at (args := #[.agg #[.int .i64 k2, .int .i64 lv2, .string s2, .slice al2 ln2 cl2, .slice as2 sn2 cs2, .slice ak2 kn2 ck2]]) rfl (R2.out _ _) (fun _ _ h => h))
      | (go_at_call 45; exact R3.out _ _)
      | (go_at_call 46; exact R4.out _ _)
      | (go_at_call 21; exact R5.out _ _)))
    refine wpQuiet_nil ?_
    intro w5 hw5
    obtain ⟨⟨dq, osq⟩, hw5'⟩ := hw5
    subst hw5'
    have HB5 := Lib.hid (HB1.out.trans ((below_regrown w1 dq osq).mono HB1.out.size))
    go_wp2_with fail
    go_ret
    exact ⟨ret_bool (by rw [HX.out]; simp), HB5.out⟩
  | true =>
    cases d1 with
    | false =>
      refine wp_region_quiet_below (by kernel_rfl) (by kernel_rfl) ?_
      repeat (go_big_quiet_step (first
        | (go_at_call 44; first | exact calls_at (args := #[.agg #[.int .i64 k1, .int .i64 lv1, .string s1, .slice al1 ln1 cl1, .slice as1 sn1 cs1, .slice ak1 kn1 ck1]]) rfl (R1.out _ _) (fun _ _ h => h) | exact calls_at (args := #[.agg #[.int .i64 k2, .int .i64 lv2, .string s2, .slice al2 ln2 cl2, .slice as2 sn2 cs2, .slice ak2 kn2 ck2]]) rfl (R2.out _ _) (fun _ _ h => h))
        | (go_at_call 45; exact R3.out _ _)
        | (go_at_call 46; exact R4.out _ _)
        | (go_at_call 21; exact R5.out _ _)))
      refine wpQuiet_nil ?_
      intro w5 hw5
      obtain ⟨⟨dq, osq⟩, hw5'⟩ := hw5
      subst hw5'
      have HB5 := Lib.hid (HB1.out.trans ((below_regrown w1 dq osq).mono HB1.out.size))
      go_wp2_with fail
      go_ret
      exact ⟨ret_bool (by rw [HX.out]; simp), HB5.out⟩
    | true =>
      cases d2 with
      | false =>
        refine wp_region_quiet_below (by kernel_rfl) (by kernel_rfl) ?_
        repeat (go_big_quiet_step (first
          | (go_at_call 44; first | exact calls_at (args := #[.agg #[.int .i64 k1, .int .i64 lv1, .string s1, .slice al1 ln1 cl1, .slice as1 sn1 cs1, .slice ak1 kn1 ck1]]) rfl (R1.out _ _) (fun _ _ h => h) | exact calls_at (args := #[.agg #[.int .i64 k2, .int .i64 lv2, .string s2, .slice al2 ln2 cl2, .slice as2 sn2 cs2, .slice ak2 kn2 ck2]]) rfl (R2.out _ _) (fun _ _ h => h))
          | (go_at_call 45; exact R3.out _ _)
          | (go_at_call 46; exact R4.out _ _)
          | (go_at_call 21; exact R5.out _ _)))
        refine wpQuiet_nil ?_
        intro w5 hw5
        obtain ⟨⟨dq, osq⟩, hw5'⟩ := hw5
        subst hw5'
        have HB5 := Lib.hid (HB1.out.trans ((below_regrown w1 dq osq).mono HB1.out.size))
        go_wp2_with fail
        go_ret
        exact ⟨ret_bool (by rw [HX.out]; simp), HB5.out⟩
      | true =>
        refine wp_region_quiet_below (by kernel_rfl) (by kernel_rfl) ?_
        repeat (go_big_quiet_step (first
          | (go_at_call 44; first | exact calls_at (args := #[.agg #[.int .i64 k1, .int .i64 lv1, .string s1, .slice al1 ln1 cl1, .slice as1 sn1 cs1, .slice ak1 kn1 ck1]]) rfl (R1.out _ _) (fun _ _ h => h) | exact calls_at (args := #[.agg #[.int .i64 k2, .int .i64 lv2, .string s2, .slice al2 ln2 cl2, .slice as2 sn2 cs2, .slice ak2 kn2 ck2]]) rfl (R2.out _ _) (fun _ _ h => h))
          | (go_at_call 45; exact R3.out _ _)
          | (go_at_call 46; exact R4.out _ _)
          | (go_at_call 21; exact R5.out _ _)))
        refine wpQuiet_nil ?_
        intro w5 hw5
        obtain ⟨⟨dq, osq⟩, hw5'⟩ := hw5
        subst hw5'
        have HB5 := Lib.hid (HB1.out.trans ((below_regrown w1 dq osq).mono HB1.out.size))
        go_wp2_with fail
        go_ret
        exact ⟨ret_bool (by rw [HX.out]; simp), HB5.out⟩

set_option maxHeartbeats 12800000 in
set_option maxRecDepth 100000 in
theorem sameBP_any (m : Nat) : ∀ (a b : List Bk) (va vb : Value) (w : World), szAll a ≤ m → TrB w va a → TrB w vb b →
    Calls Tryd.prog 21 #[va, vb] w (OkAns w (smB a b)) := by
  induction m using Nat.strongRecOn with
  | ind m ih =>
    intro a b va vb w hm ta tb
    obtain ⟨ao, ca, rfl⟩ := ta.len
    obtain ⟨bo, cb, rfl⟩ := tb.len
    have TA := Lib.hid ta
    have TB := Lib.hid tb
    have hla := ta.short
    have hlb := tb.short
    by_cases hl : a.length = b.length
    · have e0 : ((a.length : Int) != (b.length : Int)) = false := by simp [hl]
      have HIH : Hid (∀ k (hk : k < a.length) (l2 : List Bk) (v1 v2 : Value) (w' : World), TrB w' v1 a[k].kids → TrB w' v2 l2 → Calls Tryd.prog 21 #[v1, v2] w' (OkAns w' (smB a[k].kids l2))) := Lib.hid (fun k hk l2 v1 v2 w' t1 t2 =>
        ih (szAll a[k].kids) (Nat.lt_of_lt_of_le (szAll_kids (List.getElem_mem hk)) hm) a[k].kids l2 v1 v2 w' (Nat.le_refl _) t1 t2)
      have H0 : Hid (smB a b = smB (a.drop 0) (b.drop 0)) := Lib.hid (by rw [List.drop_zero, List.drop_zero])
      obtain ⟨X, hX⟩ : ∃ X, smB a b = X := ⟨_, rfl⟩
      rw [hX] at H0
      rw [hX]
      have HLn := Lib.hid hl
      clear ih ta tb hm hX hl
      go_enter Tryd.func21, Tryd.ntmps21
      go_wp2_with fail
      go_loopw [14] (fun i wr => ∃ k : Nat, k ≤ a.length ∧ i = .int .i64 k ∧ Hid (Below w.heap.size w wr) ∧ Hid (X = smB (a.drop k) (b.drop k))) (fun i _ => a.length - (intOf i).toNat)
      case atStart => exact ⟨0, Nat.zero_le _, rfl, Lib.hid (Below.refl _ _), H0⟩
      case round =>
        clear H0
        obtain ⟨k, hk, rfl, HB, HN⟩ := hrel
        by_cases hlt : k < a.length
        · have hlt2 : k < b.length := by have := HLn.out; omega
          have hnx := HN.out
          rw [drop_cons a k hlt, drop_cons b k hlt2, smB_cons] at hnx
          have hi1 : (k : Int) < (a.length : Int) := by omega
          have hi2 : (k : Int) < (b.length : Int) := by have := HLn.out; omega
          obtain ⟨b1, o1, vl1, vs1, ak1, ck1, rfl, hb1, hC1⟩ := (TA.out.below HB.out).at k hlt
          obtain ⟨b2, o2, vl2, vs2, ak2, ck2, rfl, hb2, hC2⟩ := (TB.out.below HB.out).at k hlt2
          obtain ⟨al1, cl1, rfl⟩ := hC1.rd.len
          obtain ⟨al2, cl2, rfl⟩ := hC2.rd.len
          obtain ⟨as1, cs1, rfl⟩ := hC1.sp.len
          obtain ⟨as2, cs2, rfl⟩ := hC2.sp.len
          have c0 := hC1.kind
          have c1 := hC1.level
          have c2 := hC1.info
          have c3 := hC1.lines
          have c4 := hC1.spans
          have c5 := hC1.kids
          have d0 := hC2.kind
          have d1 := hC2.level
          have d2 := hC2.info
          have d3 := hC2.lines
          have d4 := hC2.spans
          have d5 := hC2.kids
          have HC := Lib.hid (fun w' (h : Below wr.heap.size wr w') => oneSameP_any a[k] b[k] al1 as1 ak1 al2 as2 ak2 cl1 cs1 ck1 cl2 cs2 ck2 w' (hC1.rd.below h) hC1.short (hC1.sp.below h) (hC2.rd.below h) hC2.short (hC2.sp.below h)
            (fun w'' h2 => HIH.out k hlt b[k].kids _ _ w'' ((hC1.tr.below h).below h2) ((hC2.tr.below h).below h2)))
          have HQ := Lib.hid hnx
          clear hnx HN hC1 hC2
          generalize smOne a[k] b[k] = y at *
          generalize a[k].kids.length = kn1 at *
          generalize a[k].lines.length = ln1 at *
          generalize a[k].spans.length = sn1 at *
          generalize b[k].kids.length = kn2 at *
          generalize b[k].lines.length = ln2 at *
          generalize b[k].spans.length = sn2 at *
          generalize a[k].kind = z1 at *
          generalize a[k].level = y1 at *
          generalize S a[k].info = s1 at *
          generalize b[k].kind = z2 at *
          generalize b[k].level = y2 at *
          generalize S b[k].info = s2 at *
          have HA1 := Lib.hid (alloc_new wr (.cells #[.int .i64 z1, .int .i64 y1, .string s1, .slice al1 ln1 cl1, .slice as1 sn1 cs1, .slice ak1 kn1 ck1] 33))
          have HB1 := Lib.hid ((Below.refl wr.heap.size wr).alloc (Nat.le_refl _) (.cells #[.int .i64 z1, .int .i64 y1, .string s1, .slice al1 ln1 cl1, .slice as1 sn1 cs1, .slice ak1 kn1 ck1] 33))
          go_upto_region 6 with fail
          generalize wr.alloc (.cells #[.int .i64 z1, .int .i64 y1, .string s1, .slice al1 ln1 cl1, .slice as1 sn1 cs1, .slice ak1 kn1 ck1] 33) = w1 at *
          have HW1 := Lib.hid (HB.out.trans (HB1.out.mono HB.out.size))
          have R1 := Lib.hid (fun d os => Calls.regrown_of (HC.out (Go.Sort.grow (redrawn w1 d) os) (HB1.out.trans ((below_regrown w1 d os).mono HB1.out.size))))
          have p0 := fun d os => cell_regrown (w := w1) (cell_at HA1.out 0 : w1.cell? ⟨wr.heap.size, 0, none⟩ = some (.int .i64 z1)) d os
          have p1 := fun d os => cell_regrown (w := w1) (cell_at HA1.out 1 : w1.cell? ⟨wr.heap.size, 1, none⟩ = some (.int .i64 y1)) d os
          have p2 := fun d os => cell_regrown (w := w1) (cell_at HA1.out 2 : w1.cell? ⟨wr.heap.size, 2, none⟩ = some (.string s1)) d os
          have p3 := fun d os => cell_regrown (w := w1) (cell_at HA1.out 3 : w1.cell? ⟨wr.heap.size, 3, none⟩ = some (.slice al1 ln1 cl1)) d os
          have p4 := fun d os => cell_regrown (w := w1) (cell_at HA1.out 4 : w1.cell? ⟨wr.heap.size, 4, none⟩ = some (.slice as1 sn1 cs1)) d os
          have p5 := fun d os => cell_regrown (w := w1) (cell_at HA1.out 5 : w1.cell? ⟨wr.heap.size, 5, none⟩ = some (.slice ak1 kn1 ck1)) d os
          have q0 := fun d os => cell_regrown (w := w1) ((HB1.out.cell (p := ⟨b2, o2 + k * 6, none⟩) (by exact hb2)).trans d0) d os
          have q1 := fun d os => cell_regrown (w := w1) ((HB1.out.cell (p := ⟨b2, o2 + k * 6 + 1, none⟩) (by exact hb2)).trans d1) d os
          have q2 := fun d os => cell_regrown (w := w1) ((HB1.out.cell (p := ⟨b2, o2 + k * 6 + 2, none⟩) (by exact hb2)).trans d2) d os
          have q3 := fun d os => cell_regrown (w := w1) ((HB1.out.cell (p := ⟨b2, o2 + k * 6 + 3, none⟩) (by exact hb2)).trans d3) d os
          have q4 := fun d os => cell_regrown (w := w1) ((HB1.out.cell (p := ⟨b2, o2 + k * 6 + 4, none⟩) (by exact hb2)).trans d4) d os
          have q5 := fun d os => cell_regrown (w := w1) ((HB1.out.cell (p := ⟨b2, o2 + k * 6 + 5, none⟩) (by exact hb2)).trans d5) d os
          clear HC HA1 c0 c1 c2 c3 c4 c5 d0 d1 d2 d3 d4 d5 HIH TA TB
          refine wp_region_quiet_below (by kernel_rfl) (by kernel_rfl) ?_
          repeat (go_big_quiet_step (first | (go_at_call 32; exact R1.out _ _)))
          refine wpQuiet_nil ?_
          intro w5 hw5
          obtain ⟨⟨dq, osq⟩, hw5'⟩ := hw5
          have HB5 := Lib.hid (HW1.out.trans ((below_regrown w1 dq osq).mono HW1.out.size))
          rw [← hw5'] at HB5
          clear hw5' p0 p1 p2 p3 p4 p5 q0 q1 q2 q3 q4 q5 R1
          cases y with
          | true =>
            have HR : Hid (X = smB (a.drop (k + 1)) (b.drop (k + 1))) := Lib.hid (by rw [HQ.out]; rfl)
            go_wp2_with fail
            go_roundw
            case rel => exact ⟨k + 1, by omega, by go_num, HB5, HR⟩
            case measure => simp [intOf] <;> omega
          | false =>
            have HR : Hid (X = false) := Lib.hid (by rw [HQ.out]; rfl)
            go_wp2_with fail
            go_ret
            exact ⟨ret_bool HR.out.symm, HB5.out⟩
        · obtain rfl : k = a.length := by omega
          have hnx := HN.out
          rw [List.drop_length, List.drop_eq_nil_of_le (by have := HLn.out; omega)] at hnx
          have HR : Hid (X = true) := Lib.hid (by rw [hnx]; unfold smB; rfl)
          clear hnx HN hlt
          go_wp2_with fail
          go_ret
          exact ⟨ret_bool HR.out.symm, HB.out⟩
    · have e0 : ((a.length : Int) != (b.length : Int)) = true := by simp; omega
      have HR := Lib.hid (smB_len a b hl)
      clear ih ta tb hm hl TA TB
      go_enter Tryd.func21, Tryd.ntmps21
      go_wp2_with fail
      go_ret
      exact ⟨ret_bool HR.out.symm, Below.refl _ _⟩

end Go.Proofs.YtldllbmbcnipoaaDoor.Bt
