/-
  THE WALK of the statement NumberOrder.
-/
import Derived.Test.YtldllbmbcnipoaaDoorPkNQ
namespace Go.Proofs.YtldllbmbcnipoaaDoor.Nm
open Go.RowKit
open Go.Proofs.YtldllbmbcnipoaaDoor.Tk (S S_of S_list S_size S_toList S_app Rd RdI ret_int)
open Go.Proofs.YtldllbmbcnipoaaDoor.Cm (cell_at alloc_new Keep Keep.of_below calls_at)
open Go.Proofs.YtldllbmbcnipoaaDoor.Sp (Sp Tr totAll OkAns)
open Go.Proofs.YtldllbmbcnipoaaDoor.Bt (TrB ttAll ttOne lnTot szAll szOne smB spAll)
open Go.Proofs.YtldllbmbcnipoaaDoor.Bk (Bk Tx)
set_option linter.unusedVariables false

set_option maxHeartbeats 3200000 in
set_option maxRecDepth 100000 in
theorem numberOrder_walk (K : Told15) (w : World) (hT : Tab w) (va : Value) (a : List Bk) (ra : TrB w va a) (fa : Bt.fitAll reachBytes a) (ta : ttAll a ≤ 1048576) (vb : Value) (b : List Bk) (rb : TrB w vb b) (fb : Bt.fitAll reachBytes b) (tb : ttAll b ≤ 1048576) :
    Calls Tryd.prog 5 #[va, vb] w (OkAns w true) := by
  have HTb := Lib.hid (fun w' (h : Below w.heap.size w w') => hT.below h)
  have HA := Lib.hid (fun w' (h : Below w.heap.size w w') => awake15_any K w' (hT.below h))
  have FA := Lib.hid (fun w' (h : Below w.heap.size w w') => few15_any a va w' (ra.below h) fa)
  have FB := Lib.hid (fun w' (h : Below w.heap.size w w') => few15_any b vb w' (rb.below h) fb)
  have K2 := Lib.hid (fun (h : fewN a = true) (g : fewN b = true) v w' (r : LsB w' v [a, b]) (t : Tab w') => K.ids v [a, b] w' r t (by simp) (fun l hl => by
    have h1 := (fewN_tt h ta).2
    have h2 := (fewN_tt g tb).2
    rcases List.mem_cons.1 hl with rfl | hl
    · exact ⟨by omega, Bt.fitAll_wide (by decide) _ fa⟩
    · rw [List.mem_singleton.1 hl]; exact ⟨by omega, Bt.fitAll_wide (by decide) _ fb⟩))
  have K3 := Lib.hid (fun (h : fewN a = true) (g : fewN b = true) v w' (r : LsB w' v [b, a, a]) (t : Tab w') => K.ids v [b, a, a] w' r t (by simp) (fun l hl => by
    have h1 := (fewN_tt h ta).2
    have h2 := (fewN_tt g tb).2
    simp only [List.mem_cons, List.not_mem_nil, or_false] at hl
    rcases hl with rfl | rfl | rfl
    · exact ⟨by omega, Bt.fitAll_wide (by decide) _ fb⟩
    · exact ⟨by omega, Bt.fitAll_wide (by decide) _ fa⟩
    · exact ⟨by omega, Bt.fitAll_wide (by decide) _ fa⟩))
  have K0 := Lib.hid (fun w' (t : Tab w') => K.ids (.slice none 0 0) [] w' (lsb0 w') t (by simp) (fun l hl => by cases hl))
  have LA : Hid (fewN a = true → (Tk.rk (keys a ++ keys b) (keys a)).length ≤ 20) := Lib.hid (fun h => by rw [rk_len, keys_len]; exact (fewN_tt h ta).1)
  have LB : Hid (fewN b = true → (Tk.rk (keys a ++ keys b) (keys b)).length ≤ 20) := Lib.hid (fun h => by rw [rk_len, keys_len]; exact (fewN_tt h tb).1)
  have RA := Lib.hid ra
  have RB := Lib.hid rb
  obtain ⟨aa, ca, rfl⟩ := ra.len
  obtain ⟨ab, cb, rfl⟩ := rb.len
  rw [idL_two] at K2
  rw [idL_three] at K3
  have i0 : idL [] = [] := rfl
  rw [i0] at K0
  clear i0 ra fa ta rb fb tb K hT
  unfold BoolA at HA FA FB
  unfold OkAns
  generalize Tk.rk (keys a ++ keys b) (keys a) = x at *
  generalize Tk.rk (keys a ++ keys b) (keys b) = y at *
  generalize fewN a = f1 at *
  generalize fewN b = f2 at *
  go_enter Tryd.func5, Tryd.ntmps5
  go_wp2_with fail
  refine (HA.out _ (Below.refl _ _)).mono ?_
  rintro e w1 ⟨rfl, b1⟩
  have B1 := Lib.hid b1
  clear b1
  go_wp2_with fail
  refine (FA.out _ B1.out).mono ?_
  rintro e w2 ⟨rfl, b2⟩
  have B2 := Lib.hid (B1.out.trans (b2.mono B1.out.size))
  clear b2 B1 FA
  cases f1 with
  | false =>
    go_wp2_with fail
    refine (HA.out _ B2.out).mono ?_
    rintro e w4 ⟨rfl, b4⟩
    have B4 := Lib.hid (B2.out.trans (b4.mono B2.out.size))
    clear b4
    go_wp2_with fail
    go_ret
    exact ⟨rfl, B4.out⟩
  | true =>
    go_wp2_with fail
    refine (FB.out _ B2.out).mono ?_
    rintro e w3 ⟨rfl, b3⟩
    have B3 := Lib.hid (B2.out.trans (b3.mono B2.out.size))
    clear b3 B2 FB
    cases f2 with
    | false =>
      go_wp2_with fail
      refine (HA.out _ B3.out).mono ?_
      rintro e w4 ⟨rfl, b4⟩
      have B4 := Lib.hid (B3.out.trans (b4.mono B3.out.size))
      clear b4
      go_wp2_with fail
      go_ret
      exact ⟨rfl, B4.out⟩
    | true =>
      have la := Lib.hid (LA.out (by trivial))
      have lb := Lib.hid (LB.out (by trivial))
      have H2 := Lib.hid (K2.out (by trivial) (by trivial) _ _ (lsb2 (t := 22) (RA.out.below B3.out) (RB.out.below B3.out)) (HTb.out _ (B3.out.alloc B3.out.size _)))
      clear K2 LA LB HA
      go_wp2_with fail
      refine H2.out.mono ?_
      rintro e w4 ⟨v4, rfl, r4, b4⟩
      obtain ⟨bx, ox, cx, p0, q0, p1, q1, rfl, hx, k0, s0, k1, s1⟩ := rdj_two r4
      have B4 := Lib.hid ((B3.out.alloc B3.out.size _).trans (b4.mono (by simp; have := B3.out.size; omega)))
      have H3 := Lib.hid (K3.out (by trivial) (by trivial) _ _ (lsb3 (t := 22) (RB.out.below B4.out) (RA.out.below B4.out) (RA.out.below B4.out)) (HTb.out _ (B4.out.alloc B4.out.size _)))
      clear K3 H2 b4 r4 B3
      go_wp2_with fail
      refine H3.out.mono ?_
      rintro e w5 ⟨v5, rfl, r5, b5⟩
      obtain ⟨by', oy, cy, e0, g0, e1, g1, e2, g2, rfl, hy, m0, t0, m1, t1, m2, t2⟩ := rdj_three r5
      have B5 := Lib.hid ((B4.out.alloc B4.out.size _).trans (b5.mono (by simp; have := B4.out.size; omega)))
      have b45 : Below w4.heap.size w4 w5 := ((Below.refl _ _).alloc (Nat.le_refl _) _).trans (b5.mono (by simp))
      have k0' := (b45.cell (by exact hx)).trans k0
      have k1' := (b45.cell (by exact hx)).trans k1
      have S1 := Lib.hid (fun n => rsame_eq _ _ x (w5.drewN n) (rdi_drew (s0.below b45) n) (rdi_drew t1 n) (by have := la.out; omega))
      have S2 := Lib.hid (fun n => rsame_eq _ _ y (w5.drewN n) (rdi_drew (s1.below b45) n) (rdi_drew t0 n) (by have := lb.out; omega))
      have S3 := Lib.hid (fun n => rsame_eq _ _ x (w5.drewN n) (rdi_drew t1 n) (rdi_drew t2 n) (by have := la.out; omega))
      have hx5 := Nat.lt_of_lt_of_le hx b45.size
      clear k0 k1 s0 s1 t0 t1 t2 H3 b5 r5 B4 b45 RA RB la lb
      have T5 := Lib.hid (fun n => HTb.out (w5.drewN n) (below_drewN B5.out n))
      go_upto_region 6 with fail
      go_region_held3 (fun w' => w'.cell? ⟨bx, ox, none⟩ = some (.slice p0 x.length q0) ∧ w'.cell? ⟨bx, ox + 1, none⟩ = some (.slice p1 y.length q1) ∧ w'.cell? ⟨by', oy, none⟩ = some (.slice e0 y.length g0) ∧ w'.cell? ⟨by', oy + 1, none⟩ = some (.slice e1 x.length g1) ∧ w'.cell? ⟨by', oy + 2, none⟩ = some (.slice e2 x.length g2))
        (first | exact ⟨k0', k1', m0, m1, m2⟩ | exact ⟨k6, k7, n6, n7, n8⟩)
        (first
          | (go_at_call 13
             refine calls_at (args := #[.slice p0 x.length q0, .slice e1 x.length g1]) rfl (S1.out _) ?_
             rintro e w6 ⟨rfl, d6, rfl⟩)
          | (go_at_call 13
             refine calls_at (args := #[.slice p1 y.length q1, .slice e0 y.length g0]) rfl (S2.out _) ?_
             rintro e w7 ⟨rfl, d7, rfl⟩)
          | (go_at_call 13
             refine calls_at (args := #[.slice e1 x.length g1, .slice e2 x.length g2]) rfl (S3.out _) ?_
             rintro e w8 ⟨rfl, d8, rfl⟩)
          | (go_at_call 9
             refine calls_at (args := #[.slice none 0 0]) rfl (K0.out _ (T5.out _)) ?_
             rintro e w9 ⟨v9, rfl, ⟨a9, c9, rfl, r9⟩, b9⟩
             have b9' := of_drewN b9
             have k6 := (b9'.cell (by exact hx5)).trans k0'
             have k7 := (b9'.cell (by exact hx5)).trans k1'
             have n6 := (b9'.cell (by exact hy)).trans m0
             have n7 := (b9'.cell (by exact hy)).trans m1
             have n8 := (b9'.cell (by exact hy)).trans m2))
      have B9 := Lib.hid (B5.out.trans (b9'.mono B5.out.size))
      clear k6 k7 n6 n7 n8 b9 b9'
      go_wp2_with fail
      go_ret
      exact ⟨rfl, B9.out⟩
end Go.Proofs.YtldllbmbcnipoaaDoor.Nm
