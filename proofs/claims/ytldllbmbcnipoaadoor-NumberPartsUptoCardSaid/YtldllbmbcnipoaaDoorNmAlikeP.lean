/-
  CONTRACT of Alike (number); all that is asked of number is told.
-/
import Derived.Test.YtldllbmbcnipoaaDoorPkNS
import Derived.Test.YtldllbmbcnipoaaDoorPkNT
import Derived.Test.YtldllbmbcnipoaaDoorBtSameP
import Derived.Test.YtldllbmbcnipoaaDoorLpPackB
namespace Go.Proofs.YtldllbmbcnipoaaDoor.Nm
open Go.RowKit
open Go.Proofs.YtldllbmbcnipoaaDoor.Tk (S S_of S_list S_size S_toList S_app Rd RdI ret_int)
open Go.Proofs.YtldllbmbcnipoaaDoor.Cm (cell_at alloc_new Keep Keep.of_below calls_at Rz)
open Go.Proofs.YtldllbmbcnipoaaDoor.Sp (Sp Tr totAll plAll OkAns)
open Go.Proofs.YtldllbmbcnipoaaDoor.Bt (TrB ttAll ttOne lnTot szAll szOne smB rsameB_any)
open Go.Proofs.YtldllbmbcnipoaaDoor.Bk (Bk Tx)
set_option linter.unusedVariables false

set_option maxHeartbeats 6400000 in
set_option maxRecDepth 100000 in
theorem alikeP_any (x y : Bk) (vx vy : Value) (w : World) (hx : BkV w x vx) (hy : BkV w y vy) (hT : Tab w) (tx' : ttOne x ≤ 2000) (ty' : ttOne y ≤ 2000) (fx : Bt.fitOne 140737488355328 x) (fy : Bt.fitOne 140737488355328 y) :
    Calls Tryd.prog 12 #[vx, vy] w (IntA w (al x y : Nat)) := by
  obtain ⟨al1, as1, ak1, cl1, cs1, ck1, rfl, r1, n1, s1, t1⟩ := hx
  obtain ⟨al2, as2, ak2, cl2, cs2, ck2, rfl, r2, n2, s2, t2⟩ := hy
  have hpx := pt_len x
  have hpy := pt_len y
  have PX := Lib.hid (fun w' (h : Below w.heap.size w w') => partsP_any x _ w' ⟨al1, as1, ak1, cl1, cs1, ck1, rfl, r1.below h, n1, s1.below h, t1.below h⟩ (hT.below h) tx' fx)
  have PY := Lib.hid (fun w' (h : Below w.heap.size w w') => partsP_any y _ w' ⟨al2, as2, ak2, cl2, cs2, ck2, rfl, r2.below h, n2, s2.below h, t2.below h⟩ (hT.below h) ty' fy)
  have LX := Lib.hid (fun w' (h : Below w.heap.size w w') => Bt.litB (k := x.kind) (lv := x.level) (i := x.info) (r1.below h) n1 (s1.below h) (t1.below h) 33)
  have LY := Lib.hid (fun w' (h : Below w.heap.size w w') => Bt.litB (k := y.kind) (lv := y.level) (i := y.info) (r2.below h) n2 (s2.below h) (t2.below h) 33)
  have HSm := Lib.hid (fun va vb w' (h1 : TrB w' va [x]) (h2 : TrB w' vb [y]) => Bt.sameBP_any (szAll [x]) [x] [y] va vb w' (Nat.le_refl _) h1 h2)
  have HId := Lib.hid (fun va vb w' (h1 : Rd w' va (pt x)) (h2 : Rd w' vb (pt y)) => Tk.ids_any _ [pt x, pt y] _ (rdl_two h1 h2 30) (by simp) (by simp; omega))
  have eI : ([pt x, pt y] : List (List Tx)).map (Tk.rk ([pt x, pt y] : List (List Tx)).flatten) = [Tk.rk (pt x ++ pt y) (pt x), Tk.rk (pt x ++ pt y) (pt y)] := by simp
  rw [eI] at HId
  have eK : Tk.rk (pt y ++ pt x) (pt y) = Tk.rk (pt x ++ pt y) (pt y) := rk_same (fun z => by rw [List.mem_append, List.mem_append]; exact Or.comm) _
  have HDc := Lib.hid (fun va vb w' (h1 : RdI 0 w' va (Tk.rk (pt x ++ pt y) (pt x))) (h2 : RdI 0 w' vb (Tk.rk (pt x ++ pt y) (pt y))) => Lp.dice_any va vb _ _ w' (rz_of_rdi h1) (rz_of_rdi h2) (by rw [Tk.rk, List.length_map]; omega) (by rw [Tk.rk, List.length_map]; omega))
  have HAl : Hid (al x y = if smB [x] [y] = true then 1000 else if x.kind ≠ y.kind then 0 else min 999 (Lc.dice (Tk.rk (pt x ++ pt y) (pt x)) (Tk.rk (pt x ++ pt y) (pt y)))) := Lib.hid (by rw [← eK]; rfl)
  have HBx := (Below.refl w.heap.size w).alloc (Nat.le_refl _) (.cells #[.int .i64 x.kind, .int .i64 x.level, .string (S x.info), .slice al1 x.lines.length cl1, .slice as1 x.spans.length cs1, .slice ak1 x.kids.length ck1] 33)
  have HB2 := Lib.hid (HBx.alloc HBx.size (.cells #[.int .i64 y.kind, .int .i64 y.level, .string (S y.info), .slice al2 y.lines.length cl2, .slice as2 y.spans.length cs2, .slice ak2 y.kids.length ck2] 33))
  have HCx := Lib.hid (Sp.new_aT (w := w) (.cells #[.int .i64 x.kind, .int .i64 x.level, .string (S x.info), .slice al1 x.lines.length cl1, .slice as1 x.spans.length cs1, .slice ak1 x.kids.length ck1] 33) (.cells #[.int .i64 y.kind, .int .i64 y.level, .string (S y.info), .slice al2 y.lines.length cl2, .slice as2 y.spans.length cs2, .slice ak2 y.kids.length ck2] 33))
  have HCy := Lib.hid (Sp.new_bT (w := w) (.cells #[.int .i64 x.kind, .int .i64 x.level, .string (S x.info), .slice al1 x.lines.length cl1, .slice as1 x.spans.length cs1, .slice ak1 x.kids.length ck1] 33) (.cells #[.int .i64 y.kind, .int .i64 y.level, .string (S y.info), .slice al2 y.lines.length cl2, .slice as2 y.spans.length cs2, .slice ak2 y.kids.length ck2] 33))
  unfold OkAns at HSm
  unfold RdA at PX PY
  unfold IntA
  clear r1 n1 s1 t1 r2 n2 s2 t2 hpx hpy tx' ty' fx fy HBx hT eI eK
  have elx : x = .mk x.kind x.level x.info x.lines x.spans x.kids := by cases x; rfl
  have ely : y = .mk y.kind y.level y.info y.lines y.spans y.kids := by cases y; rfl
  rw [← elx] at LX
  rw [← ely] at LY
  clear elx ely
  generalize Tk.rk (pt x ++ pt y) (pt x) = i1 at *
  generalize Tk.rk (pt x ++ pt y) (pt y) = i2 at *
  generalize pt x = px at *
  generalize pt y = py at *
  generalize smB [x] [y] = sm at *
  generalize al x y = A at *
  generalize x.lines.length = ln1 at *
  generalize x.spans.length = sn1 at *
  generalize x.kids.length = kn1 at *
  generalize S x.info = si1 at *
  generalize x.level = lv1 at *
  generalize x.kind = q1 at *
  generalize y.lines.length = ln2 at *
  generalize y.spans.length = sn2 at *
  generalize y.kids.length = kn2 at *
  generalize S y.info = si2 at *
  generalize y.level = lv2 at *
  generalize y.kind = q2 at *
  go_enter Tryd.func12, Tryd.ntmps12
  go_upto_region 1 with fail
  generalize (w.alloc (.cells #[.int .i64 q1, .int .i64 lv1, .string si1, .slice al1 ln1 cl1, .slice as1 sn1 cs1, .slice ak1 kn1 ck1] 33)).alloc (.cells #[.int .i64 q2, .int .i64 lv2, .string si2, .slice al2 ln2 cl2, .slice as2 sn2 cs2, .slice ak2 kn2 ck2] 33) = w2 at *
  have x0 : w2.cell? ⟨w.heap.size, 0, none⟩ = some (.int .i64 q1) := cell_at HCx.out 0
  have x1 : w2.cell? ⟨w.heap.size, 1, none⟩ = some (.int .i64 lv1) := cell_at HCx.out 1
  have x2 : w2.cell? ⟨w.heap.size, 2, none⟩ = some (.string si1) := cell_at HCx.out 2
  have x3 : w2.cell? ⟨w.heap.size, 3, none⟩ = some (.slice al1 ln1 cl1) := cell_at HCx.out 3
  have x4 : w2.cell? ⟨w.heap.size, 4, none⟩ = some (.slice as1 sn1 cs1) := cell_at HCx.out 4
  have x5 : w2.cell? ⟨w.heap.size, 5, none⟩ = some (.slice ak1 kn1 ck1) := cell_at HCx.out 5
  have bx : Below w2.heap.size w2 (w2.alloc (.cells #[.int .i64 q1, .int .i64 lv1, .string si1, .slice al1 ln1 cl1, .slice as1 sn1 cs1, .slice ak1 kn1 ck1] 33)) := (Below.refl _ _).alloc (Nat.le_refl _) _
  have hCy3 := (Keep.of_below (S := fun _ => False) bx).at HCy.out (fun h => h)
  have y0 : (w2.alloc (.cells #[.int .i64 q1, .int .i64 lv1, .string si1, .slice al1 ln1 cl1, .slice as1 sn1 cs1, .slice ak1 kn1 ck1] 33)).cell? ⟨w.heap.size + 1, 0, none⟩ = some (.int .i64 q2) := cell_at hCy3 0
  have y1 : (w2.alloc (.cells #[.int .i64 q1, .int .i64 lv1, .string si1, .slice al1 ln1 cl1, .slice as1 sn1 cs1, .slice ak1 kn1 ck1] 33)).cell? ⟨w.heap.size + 1, 1, none⟩ = some (.int .i64 lv2) := cell_at hCy3 1
  have y2 : (w2.alloc (.cells #[.int .i64 q1, .int .i64 lv1, .string si1, .slice al1 ln1 cl1, .slice as1 sn1 cs1, .slice ak1 kn1 ck1] 33)).cell? ⟨w.heap.size + 1, 2, none⟩ = some (.string si2) := cell_at hCy3 2
  have y3 : (w2.alloc (.cells #[.int .i64 q1, .int .i64 lv1, .string si1, .slice al1 ln1 cl1, .slice as1 sn1 cs1, .slice ak1 kn1 ck1] 33)).cell? ⟨w.heap.size + 1, 3, none⟩ = some (.slice al2 ln2 cl2) := cell_at hCy3 3
  have y4 : (w2.alloc (.cells #[.int .i64 q1, .int .i64 lv1, .string si1, .slice al1 ln1 cl1, .slice as1 sn1 cs1, .slice ak1 kn1 ck1] 33)).cell? ⟨w.heap.size + 1, 4, none⟩ = some (.slice as2 sn2 cs2) := cell_at hCy3 4
  have y5 : (w2.alloc (.cells #[.int .i64 q1, .int .i64 lv1, .string si1, .slice al1 ln1 cl1, .slice as1 sn1 cs1, .slice ak1 kn1 ck1] 33)).cell? ⟨w.heap.size + 1, 5, none⟩ = some (.slice ak2 kn2 ck2) := cell_at hCy3 5
  have TX := LX.out w2 HB2.out
  have HB3 := HB2.out.trans (bx.mono HB2.out.size)
  have TY := LY.out _ HB3
  have by' : Below (w2.alloc (.cells #[.int .i64 q1, .int .i64 lv1, .string si1, .slice al1 ln1 cl1, .slice as1 sn1 cs1, .slice ak1 kn1 ck1] 33)).heap.size (w2.alloc (.cells #[.int .i64 q1, .int .i64 lv1, .string si1, .slice al1 ln1 cl1, .slice as1 sn1 cs1, .slice ak1 kn1 ck1] 33)) ((w2.alloc (.cells #[.int .i64 q1, .int .i64 lv1, .string si1, .slice al1 ln1 cl1, .slice as1 sn1 cs1, .slice ak1 kn1 ck1] 33)).alloc (.cells #[.int .i64 q2, .int .i64 lv2, .string si2, .slice al2 ln2 cl2, .slice as2 sn2 cs2, .slice ak2 kn2 ck2] 33)) := (Below.refl _ _).alloc (Nat.le_refl _) _
  have e1 : (w2.alloc (.cells #[.int .i64 q1, .int .i64 lv1, .string si1, .slice al1 ln1 cl1, .slice as1 sn1 cs1, .slice ak1 kn1 ck1] 33)).heap.size = w2.heap.size + 1 := by simp
  have HS := HSm.out _ _ _ (TX.below by') TY
  rw [e1] at HS
  have HS' := Lib.hid HS
  have HB4 := Lib.hid (HB3.trans (by'.mono HB3.size))
  have HCx4 := Lib.hid ((Keep.of_below (S := fun _ => False) by').at ((Keep.of_below (S := fun _ => False) bx).at HCx.out (fun h => h)) (fun h => h))
  have HCy4 := Lib.hid ((Keep.of_below (S := fun _ => False) by').at hCy3 (fun h => h))
  clear HS TX TY by' bx hCy3 HB3 e1 LX LY HSm HB2 HCx HCy
  go_wp2_with fail
  refine HS'.out.mono ?_
  rintro e w5 ⟨rfl, b5⟩
  have hCx5 := (Keep.of_below (S := fun _ => False) b5).at HCx4.out (fun h => h)
  have hCy5 := (Keep.of_below (S := fun _ => False) b5).at HCy4.out (fun h => h)
  have HB5 := Lib.hid (HB4.out.trans (b5.mono HB4.out.size))
  clear x0 x1 x2 x3 x4 x5 y0 y1 y2 y3 y4 y5 b5 HS' HB4 HCx4 HCy4
  cases sm with
  | true =>
    have HR : Hid (A = 1000) := HAl
    clear hCx5 hCy5 PX PY HId HDc HAl
    go_wp2_with fail
    go_ret
    exact ⟨ret_int (by rw [HR.out]; rfl), HB5.out⟩
  | false =>
    have x0 : w5.cell? ⟨w.heap.size, 0, none⟩ = some (.int .i64 q1) := cell_at hCx5 0
    have x1 : w5.cell? ⟨w.heap.size, 1, none⟩ = some (.int .i64 lv1) := cell_at hCx5 1
    have x2 : w5.cell? ⟨w.heap.size, 2, none⟩ = some (.string si1) := cell_at hCx5 2
    have x3 : w5.cell? ⟨w.heap.size, 3, none⟩ = some (.slice al1 ln1 cl1) := cell_at hCx5 3
    have x4 : w5.cell? ⟨w.heap.size, 4, none⟩ = some (.slice as1 sn1 cs1) := cell_at hCx5 4
    have x5 : w5.cell? ⟨w.heap.size, 5, none⟩ = some (.slice ak1 kn1 ck1) := cell_at hCx5 5
    have y0 : w5.cell? ⟨w.heap.size + 1, 0, none⟩ = some (.int .i64 q2) := cell_at hCy5 0
    have y1 : w5.cell? ⟨w.heap.size + 1, 1, none⟩ = some (.int .i64 lv2) := cell_at hCy5 1
    have y2 : w5.cell? ⟨w.heap.size + 1, 2, none⟩ = some (.string si2) := cell_at hCy5 2
    have y3 : w5.cell? ⟨w.heap.size + 1, 3, none⟩ = some (.slice al2 ln2 cl2) := cell_at hCy5 3
    have y4 : w5.cell? ⟨w.heap.size + 1, 4, none⟩ = some (.slice as2 sn2 cs2) := cell_at hCy5 4
    have y5 : w5.cell? ⟨w.heap.size + 1, 5, none⟩ = some (.slice ak2 kn2 ck2) := cell_at hCy5 5
    by_cases hq : q1 = q2
    · subst hq
      have HR : Hid (A = min 999 (Lc.dice i1 i2)) := Lib.hid (by
        have h := HAl.out
        rw [if_neg (by simp), if_neg (by simp)] at h
        exact h)
      clear HAl
      have HCy5 := Lib.hid hCy5
      clear hCx5 hCy5
      go_upto_region 5 with fail
      go_region_with (first
        | (go_at_call 22
           refine calls_at (args := #[.agg #[.int .i64 q1, .int .i64 lv1, .string si1, .slice al1 ln1 cl1, .slice as1 sn1 cs1, .slice ak1 kn1 ck1]]) rfl (PX.out _ (by first | exact HB5.out.drew | exact HB5.out)) ?_
           rintro e wA ⟨va, rfl, ra, ba⟩
           obtain ⟨aA, cA, rfl⟩ := ra.len
           have hCyA := (Keep.of_below (S := fun _ => False) ba).at (by first | exact HCy5.out) (fun h => h)
           have z0 := cell_at hCyA 0
           have z1 := cell_at hCyA 1
           have z2 := cell_at hCyA 2
           have z3 := cell_at hCyA 3
           have z4 := cell_at hCyA 4
           have z5 := cell_at hCyA 5)
        | (go_at_call 22
           refine calls_at (args := #[.agg #[.int .i64 q1, .int .i64 lv2, .string si2, .slice al2 ln2 cl2, .slice as2 sn2 cs2, .slice ak2 kn2 ck2]]) rfl (PY.out _ (HB5.out.drew.trans (ba.mono HB5.out.drew.size))) ?_
           rintro e wB ⟨vb, rfl, rb, bb⟩
           obtain ⟨aB, cB, rfl⟩ := rb.len)
        | (go_at_call 16
           refine (HId.out _ _ _ (ra.below bb) rb).mono ?_
           rintro e wC ⟨vi, rfl, ri, bi⟩))
      all_goals (
        obtain ⟨bo, oo, co, a0, c0, a1, c1, rfl, hlo, q0, r0, q1', r1⟩ := rdj_two (rdj_of ri)
        have hb6 := (HB5.out.drew.trans (ba.mono HB5.out.drew.size)).trans (bb.mono (HB5.out.drew.trans (ba.mono HB5.out.drew.size)).size)
        have HB6 := Lib.hid ((hb6.alloc hb6.size _).trans (bi.mono (by simp; have := hb6.size; omega)))
        have HDw := Lib.hid (fun n => HDc.out _ _ (wC.drewN n) (rdi_drew r0 n) (rdi_drew r1 n))
        clear ra rb ba bb bi ri r0 r1 hb6 z0 z1 z2 z3 z4 z5 hCyA x0 x1 x2 x3 x4 x5 y0 y1 y2 y3 y4 y5 HCy5 HB5 PX PY HId HDc
        have hdd : (0 : Int) ≤ (Lc.dice i1 i2 : Int) := by omega
        generalize Lc.dice i1 i2 = d at *
        generalize i1.length = m1 at *
        generalize i2.length = m2 at *
        go_upto_region 6 with fail
        go_region_with (go_at_call 23; refine (HDw.out _).mono ?_; rintro e w9 ⟨rfl, b9⟩)
        all_goals (
          have HB9 := Lib.hid (HB6.out.trans ((of_drewN b9).mono HB6.out.size))
          clear b9 HB6 HDw q0 q1'
          go_wp2_with fail
          go_ret
          refine ⟨ret_int ?_, HB9.out⟩
          rw [HR.out]
          omega))
    · have HR : Hid (A = 0) := Lib.hid (by
        have h := HAl.out
        rw [if_neg (by simp), if_pos hq] at h
        exact h)
      have g1 : (q1 != q2) = true := by rw [bne_iff_ne]; exact hq
      clear hCx5 hCy5 PX PY HId HDc HAl
      go_wp2_with fail
      go_ret
      exact ⟨ret_int (by rw [HR.out]; rfl), HB5.out⟩

theorem told15 : Told15 := ⟨fun x v w hv hT ht hf => keyP_any x v w hT hv ht hf, fun v ls w hv hT hl hls => idsP_any v ls w hv hT hl hls, fun x y vx vy w hx hy hT h1 h2 f1 f2 => alikeP_any x y vx vy w hx hy hT h1 h2 f1 f2⟩
end Go.Proofs.YtldllbmbcnipoaaDoor.Nm
