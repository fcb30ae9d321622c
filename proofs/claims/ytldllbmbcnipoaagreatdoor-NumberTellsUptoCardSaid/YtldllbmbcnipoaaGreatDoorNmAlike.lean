/-
  CONTRACT of the document's Alike (emendationref15).
-/
import Derived.Test.YtldllbmbcnipoaaGreatDoorNmKeys
import Derived.Test.YtldllbmbcnipoaaGreatDoorTkRids
import Derived.Test.YtldllbmbcnipoaaGreatDoorPkTM
import Derived.Test.YtldllbmbcnipoaaGreatDoorBt10Told
namespace Go.Proofs.YtldllbmbcnipoaaGreatDoor.Nm
open Go.RowKit
open Go.Proofs.YtldllbmbcnipoaaGreatDoor.Tk (S S_of S_list S_size S_toList S_app Rd RdI ret_int)
open Go.Proofs.YtldllbmbcnipoaaGreatDoor.Cm (cell_at alloc_new Keep Keep.of_below calls_at Rz)
open Go.Proofs.YtldllbmbcnipoaaGreatDoor.Sp (Sp Tr totAll plAll OkAns)
open Go.Proofs.YtldllbmbcnipoaaGreatDoor.Bt (TrB ttAll ttOne lnTot szAll szOne smB rsameB_any)
open Go.Proofs.YtldllbmbcnipoaaGreatDoor.Bk (Bk Tx)
set_option linter.unusedVariables false

theorem rz_of_rdi {w : World} {v : Value} {xs : List Int} (h : RdI 0 w v xs) : Rz w v xs := by
  obtain ⟨ao, cap, hv, hc, hx⟩ := h
  refine ⟨ao, cap, hv, hc, ?_⟩
  rcases hx with hx | ⟨b, hao, _, hlt, hcell⟩
  · exact Or.inl hx
  · exact Or.inr ⟨b, 0, hao, hlt, fun j x hj => by rw [Nat.zero_add]; exact hcell j x hj⟩
theorem rkI_rk (a l : List Tx) : Tk.rk a l = rkI a l := rfl
theorem pt_len (x : Bk) : (pt x).length ≤ ttOne x + 1 := by
  obtain ⟨q, lv, i, lns, ss, l⟩ := x
  have h1 := Tk.toks_len (plAll ss)
  have h2 := Sp.plAll_len ss
  have h3 := ln_len lns
  have h4 := tt_len l
  rw [ttOne]
  show (if q = 1 ∨ q = 2 then Tk.toks (plAll ss) else if q = 4 then lns else if q = 5 ∨ q = 6 ∨ q = 7 then keys l else if q = 8 then i :: lns else []).length ≤ _
  split
  · omega
  · split
    · omega
    · split
      · show (l.map bk1).length ≤ _
        rw [List.length_map]; omega
      · split
        · rw [List.length_cons]; omega
        · simp
/-- A block as a value. -/
def BkV (w : World) (x : Bk) (v : Value) : Prop := ∃ al as' ak cl cs ck, v = .agg #[.int .i64 x.kind, .int .i64 x.level, .string (S x.info), .slice al x.lines.length cl, .slice as' x.spans.length cs, .slice ak x.kids.length ck] ∧
  Rd w (.slice al x.lines.length cl) x.lines ∧ x.lines.length ≤ 9223372036854775807 ∧ Tr w (.slice as' x.spans.length cs) x.spans ∧ TrB w (.slice ak x.kids.length ck) x.kids
theorem BkV.below {w w' : World} {x : Bk} {v : Value} (h : BkV w x v) (hb : Below w.heap.size w w') : BkV w' x v := by
  obtain ⟨al, as', ak, cl, cs, ck, hv, h1, h2, h3, h4⟩ := h
  exact ⟨al, as', ak, cl, cs, ck, hv, h1.below hb, h2, h3.below hb, h4.below hb⟩
def IntA (w : World) (n : Int) (e : Ending) (w' : World) : Prop := e = .returned (.int .i64 n) ∧ Below w.heap.size w w'
set_option maxHeartbeats 6400000 in
set_option maxRecDepth 100000 in
theorem ralike_any (x y : Bk) (vx vy : Value) (w : World) (hx : BkV w x vx) (hy : BkV w y vy) (tx' : ttOne x ≤ 900) (ty' : ttOne y ≤ 900) (fx : Bt.fitOne 140737488355328 x) (fy : Bt.fitOne 140737488355328 y) :
    Calls Tryz.prog 12 #[vx, vy] w (IntA w (al x y : Nat)) := by
  obtain ⟨al1, as1, ak1, cl1, cs1, ck1, rfl, r1, n1, s1, t1⟩ := hx
  obtain ⟨al2, as2, ak2, cl2, cs2, ck2, rfl, r2, n2, s2, t2⟩ := hy
  have hpx := pt_len x
  have hpy := pt_len y
  have PX := Lib.hid (fun w' (h : Below w.heap.size w w') => rparts_any x al1 as1 ak1 cl1 cs1 ck1 w' (by omega) fx (r1.below h) (s1.below h) (t1.below h))
  have PY := Lib.hid (fun w' (h : Below w.heap.size w w') => rparts_any y al2 as2 ak2 cl2 cs2 ck2 w' (by omega) fy (r2.below h) (s2.below h) (t2.below h))
  have LX := Lib.hid (fun w' (h : Below w.heap.size w w') => Bt.litB (k := x.kind) (lv := x.level) (i := x.info) (r1.below h) n1 (s1.below h) (t1.below h) 35)
  have LY := Lib.hid (fun w' (h : Below w.heap.size w w') => Bt.litB (k := y.kind) (lv := y.level) (i := y.info) (r2.below h) n2 (s2.below h) (t2.below h) 35)
  have HSm := Lib.hid (fun va vb w' (h1 : TrB w' va [x]) (h2 : TrB w' vb [y]) => rsameB_any (szAll [x]) [x] [y] va vb w' (Nat.le_refl _) h1 h2)
  have HId := Lib.hid (fun va vb w' (h1 : Rd w' va (pt x)) (h2 : Rd w' vb (pt y)) => Tk.rids_any va vb (pt x) (pt y) w' h1 h2 (by omega) (by omega))
  have HIe := Lib.hid (fun va vb w' (h1 : Rd w' va (pt y)) (h2 : Rd w' vb (pt x)) => Tk.rids_any va vb (pt y) (pt x) w' h1 h2 (by omega) (by omega))
  have HDc := Lib.hid (fun va vb w' (h1 : RdI 0 w' va (Tk.rk (pt x ++ pt y) (pt x))) (h2 : RdI 0 w' vb (Tk.rk (pt y ++ pt x) (pt y))) => Lc.rdice_any va vb _ _ w' (rz_of_rdi h1) (rz_of_rdi h2) (by rw [Tk.rk, List.length_map]; omega) (by rw [Tk.rk, List.length_map]; omega))
  have HAl : Hid (al x y = if smB [x] [y] = true then 1000 else if x.kind ≠ y.kind then 0 else min 999 (Lc.dice (Tk.rk (pt x ++ pt y) (pt x)) (Tk.rk (pt y ++ pt x) (pt y)))) := Lib.hid rfl
  have HBx := (Below.refl w.heap.size w).alloc (Nat.le_refl _) (.cells #[.int .i64 x.kind, .int .i64 x.level, .string (S x.info), .slice al1 x.lines.length cl1, .slice as1 x.spans.length cs1, .slice ak1 x.kids.length ck1] 35)
  have HB2 := Lib.hid (HBx.alloc HBx.size (.cells #[.int .i64 y.kind, .int .i64 y.level, .string (S y.info), .slice al2 y.lines.length cl2, .slice as2 y.spans.length cs2, .slice ak2 y.kids.length ck2] 35))
  have HCx := Lib.hid (Sp.new_aT (w := w) (.cells #[.int .i64 x.kind, .int .i64 x.level, .string (S x.info), .slice al1 x.lines.length cl1, .slice as1 x.spans.length cs1, .slice ak1 x.kids.length ck1] 35) (.cells #[.int .i64 y.kind, .int .i64 y.level, .string (S y.info), .slice al2 y.lines.length cl2, .slice as2 y.spans.length cs2, .slice ak2 y.kids.length ck2] 35))
  have HCy := Lib.hid (Sp.new_bT (w := w) (.cells #[.int .i64 x.kind, .int .i64 x.level, .string (S x.info), .slice al1 x.lines.length cl1, .slice as1 x.spans.length cs1, .slice ak1 x.kids.length ck1] 35) (.cells #[.int .i64 y.kind, .int .i64 y.level, .string (S y.info), .slice al2 y.lines.length cl2, .slice as2 y.spans.length cs2, .slice ak2 y.kids.length ck2] 35))
  unfold OkAns at HSm
  unfold RdA at PX PY
  unfold IntA
  clear r1 n1 s1 t1 r2 n2 s2 t2 hpx hpy tx' ty' fx fy HBx
  have elx : x = .mk x.kind x.level x.info x.lines x.spans x.kids := by cases x; rfl
  have ely : y = .mk y.kind y.level y.info y.lines y.spans y.kids := by cases y; rfl
  rw [← elx] at LX
  rw [← ely] at LY
  clear elx ely
  generalize pt x = px at *
  generalize pt y = py at *
  generalize smB [x] [y] = sm at *
  generalize al x y = A at *
  generalize x.lines.length = ln1 at *
  generalize x.spans.length = sn1 at *
  generalize x.kids.length = kn1 at *
  generalize S x.info = si1 at *
  generalize x.level = lv1 at *
  generalize x.kind = q1 at *
  generalize y.lines.length = ln2 at *
  generalize y.spans.length = sn2 at *
  generalize y.kids.length = kn2 at *
  generalize S y.info = si2 at *
  generalize y.level = lv2 at *
  generalize y.kind = q2 at *
  go_enter Tryz.func12, Tryz.ntmps12
  go_upto_region 1 with fail
  generalize (w.alloc (.cells #[.int .i64 q1, .int .i64 lv1, .string si1, .slice al1 ln1 cl1, .slice as1 sn1 cs1, .slice ak1 kn1 ck1] 35)).alloc (.cells #[.int .i64 q2, .int .i64 lv2, .string si2, .slice al2 ln2 cl2, .slice as2 sn2 cs2, .slice ak2 kn2 ck2] 35) = w2 at *
  have x0 : w2.cell? ⟨w.heap.size, 0, none⟩ = some (.int .i64 q1) := cell_at HCx.out 0
  have x1 : w2.cell? ⟨w.heap.size, 1, none⟩ = some (.int .i64 lv1) := cell_at HCx.out 1
  have x2 : w2.cell? ⟨w.heap.size, 2, none⟩ = some (.string si1) := cell_at HCx.out 2
  have x3 : w2.cell? ⟨w.heap.size, 3, none⟩ = some (.slice al1 ln1 cl1) := cell_at HCx.out 3
  have x4 : w2.cell? ⟨w.heap.size, 4, none⟩ = some (.slice as1 sn1 cs1) := cell_at HCx.out 4
  have x5 : w2.cell? ⟨w.heap.size, 5, none⟩ = some (.slice ak1 kn1 ck1) := cell_at HCx.out 5
  have bx : Below w2.heap.size w2 (w2.alloc (.cells #[.int .i64 q1, .int .i64 lv1, .string si1, .slice al1 ln1 cl1, .slice as1 sn1 cs1, .slice ak1 kn1 ck1] 35)) := (Below.refl _ _).alloc (Nat.le_refl _) _
  have hCy3 := (Keep.of_below (S := fun _ => False) bx).at HCy.out (fun h => h)
  have y0 : (w2.alloc (.cells #[.int .i64 q1, .int .i64 lv1, .string si1, .slice al1 ln1 cl1, .slice as1 sn1 cs1, .slice ak1 kn1 ck1] 35)).cell? ⟨w.heap.size + 1, 0, none⟩ = some (.int .i64 q2) := cell_at hCy3 0
  have y1 : (w2.alloc (.cells #[.int .i64 q1, .int .i64 lv1, .string si1, .slice al1 ln1 cl1, .slice as1 sn1 cs1, .slice ak1 kn1 ck1] 35)).cell? ⟨w.heap.size + 1, 1, none⟩ = some (.int .i64 lv2) := cell_at hCy3 1
  have y2 : (w2.alloc (.cells #[.int .i64 q1, .int .i64 lv1, .string si1, .slice al1 ln1 cl1, .slice as1 sn1 cs1, .slice ak1 kn1 ck1] 35)).cell? ⟨w.heap.size + 1, 2, none⟩ = some (.string si2) := cell_at hCy3 2
  have y3 : (w2.alloc (.cells #[.int .i64 q1, .int .i64 lv1, .string si1, .slice al1 ln1 cl1, .slice as1 sn1 cs1, .slice ak1 kn1 ck1] 35)).cell? ⟨w.heap.size + 1, 3, none⟩ = some (.slice al2 ln2 cl2) := cell_at hCy3 3
  have y4 : (w2.alloc (.cells #[.int .i64 q1, .int .i64 lv1, .string si1, .slice al1 ln1 cl1, .slice as1 sn1 cs1, .slice ak1 kn1 ck1] 35)).cell? ⟨w.heap.size + 1, 4, none⟩ = some (.slice as2 sn2 cs2) := cell_at hCy3 4
  have y5 : (w2.alloc (.cells #[.int .i64 q1, .int .i64 lv1, .string si1, .slice al1 ln1 cl1, .slice as1 sn1 cs1, .slice ak1 kn1 ck1] 35)).cell? ⟨w.heap.size + 1, 5, none⟩ = some (.slice ak2 kn2 ck2) := cell_at hCy3 5
  have TX := LX.out w2 HB2.out
  have HB3 := HB2.out.trans (bx.mono HB2.out.size)
  have TY := LY.out _ HB3
  have by' : Below (w2.alloc (.cells #[.int .i64 q1, .int .i64 lv1, .string si1, .slice al1 ln1 cl1, .slice as1 sn1 cs1, .slice ak1 kn1 ck1] 35)).heap.size (w2.alloc (.cells #[.int .i64 q1, .int .i64 lv1, .string si1, .slice al1 ln1 cl1, .slice as1 sn1 cs1, .slice ak1 kn1 ck1] 35)) ((w2.alloc (.cells #[.int .i64 q1, .int .i64 lv1, .string si1, .slice al1 ln1 cl1, .slice as1 sn1 cs1, .slice ak1 kn1 ck1] 35)).alloc (.cells #[.int .i64 q2, .int .i64 lv2, .string si2, .slice al2 ln2 cl2, .slice as2 sn2 cs2, .slice ak2 kn2 ck2] 35)) := (Below.refl _ _).alloc (Nat.le_refl _) _
  have e1 : (w2.alloc (.cells #[.int .i64 q1, .int .i64 lv1, .string si1, .slice al1 ln1 cl1, .slice as1 sn1 cs1, .slice ak1 kn1 ck1] 35)).heap.size = w2.heap.size + 1 := by simp
  have HS := HSm.out _ _ _ (TX.below by') TY
  rw [e1] at HS
  have HS' := Lib.hid HS
  have HB4 := Lib.hid (HB3.trans (by'.mono HB3.size))
  have HCx4 := Lib.hid ((Keep.of_below (S := fun _ => False) by').at ((Keep.of_below (S := fun _ => False) bx).at HCx.out (fun h => h)) (fun h => h))
  have HCy4 := Lib.hid ((Keep.of_below (S := fun _ => False) by').at hCy3 (fun h => h))
  clear HS TX TY by' bx hCy3 HB3 e1 LX LY HSm HB2 HCx HCy
  go_wp2_with fail
  refine HS'.out.mono ?_
  rintro e w5 ⟨rfl, b5⟩
  have hCx5 := (Keep.of_below (S := fun _ => False) b5).at HCx4.out (fun h => h)
  have hCy5 := (Keep.of_below (S := fun _ => False) b5).at HCy4.out (fun h => h)
  have HB5 := Lib.hid (HB4.out.trans (b5.mono HB4.out.size))
  clear x0 x1 x2 x3 x4 x5 y0 y1 y2 y3 y4 y5 b5 HS' HB4 HCx4 HCy4
  cases sm with
  | true =>
    have HR : Hid (A = 1000) := HAl
    clear hCx5 hCy5 PX PY HId HIe HDc HAl
    go_wp2_with fail
    go_ret
    exact ⟨ret_int (by rw [HR.out]; rfl), HB5.out⟩
  | false =>
    have x0 : w5.cell? ⟨w.heap.size, 0, none⟩ = some (.int .i64 q1) := cell_at hCx5 0
    have x1 : w5.cell? ⟨w.heap.size, 1, none⟩ = some (.int .i64 lv1) := cell_at hCx5 1
    have x2 : w5.cell? ⟨w.heap.size, 2, none⟩ = some (.string si1) := cell_at hCx5 2
    have x3 : w5.cell? ⟨w.heap.size, 3, none⟩ = some (.slice al1 ln1 cl1) := cell_at hCx5 3
    have x4 : w5.cell? ⟨w.heap.size, 4, none⟩ = some (.slice as1 sn1 cs1) := cell_at hCx5 4
    have x5 : w5.cell? ⟨w.heap.size, 5, none⟩ = some (.slice ak1 kn1 ck1) := cell_at hCx5 5
    have y0 : w5.cell? ⟨w.heap.size + 1, 0, none⟩ = some (.int .i64 q2) := cell_at hCy5 0
    have y1 : w5.cell? ⟨w.heap.size + 1, 1, none⟩ = some (.int .i64 lv2) := cell_at hCy5 1
    have y2 : w5.cell? ⟨w.heap.size + 1, 2, none⟩ = some (.string si2) := cell_at hCy5 2
    have y3 : w5.cell? ⟨w.heap.size + 1, 3, none⟩ = some (.slice al2 ln2 cl2) := cell_at hCy5 3
    have y4 : w5.cell? ⟨w.heap.size + 1, 4, none⟩ = some (.slice as2 sn2 cs2) := cell_at hCy5 4
    have y5 : w5.cell? ⟨w.heap.size + 1, 5, none⟩ = some (.slice ak2 kn2 ck2) := cell_at hCy5 5
    by_cases hq : q1 = q2
    · subst hq
      have HR : Hid (A = min 999 (Lc.dice (Tk.rk (px ++ py) px) (Tk.rk (py ++ px) py))) := Lib.hid (by
        have h := HAl.out
        rw [if_neg (by simp), if_neg (by simp)] at h
        exact h)
      clear HAl
      have HCy5 := Lib.hid hCy5
      clear hCx5 hCy5
      go_upto_region 5 with fail
      go_region_with (first
        | (go_at_call 25
           refine calls_at (args := #[.agg #[.int .i64 q1, .int .i64 lv1, .string si1, .slice al1 ln1 cl1, .slice as1 sn1 cs1, .slice ak1 kn1 ck1]]) rfl (PX.out _ (by first | exact HB5.out.drew | exact HB5.out)) ?_
           rintro e wA ⟨va, rfl, ra, ba⟩
           have hCyA := (Keep.of_below (S := fun _ => False) ba).at (by first | exact HCy5.out) (fun h => h)
           have z0 := cell_at hCyA 0
           have z1 := cell_at hCyA 1
           have z2 := cell_at hCyA 2
           have z3 := cell_at hCyA 3
           have z4 := cell_at hCyA 4
           have z5 := cell_at hCyA 5)
        | (go_at_call 25
           refine calls_at (args := #[.agg #[.int .i64 q1, .int .i64 lv2, .string si2, .slice al2 ln2 cl2, .slice as2 sn2 cs2, .slice ak2 kn2 ck2]]) rfl (PY.out _ (HB5.out.drew.trans (ba.mono HB5.out.drew.size))) ?_
           rintro e wB ⟨vb, rfl, rb, bb⟩))
      all_goals (
        have RA := Lib.hid (ra.below bb)
        have RB := Lib.hid rb
        have HB6 := Lib.hid ((HB5.out.drew.trans (ba.mono HB5.out.drew.size)).trans (bb.mono (HB5.out.drew.trans (ba.mono HB5.out.drew.size)).size))
        clear ra rb ba bb z0 z1 z2 z3 z4 z5 hCyA x0 x1 x2 x3 x4 x5 y0 y1 y2 y3 y4 y5 HCy5 HB5 PX PY
        go_wp2_with fail
        refine (HId.out _ _ _ RA.out RB.out).mono ?_
        rintro e w7 ⟨i1, rfl, r1, b7⟩
        have RA7 := Lib.hid (RA.out.below b7)
        have RB7 := Lib.hid (RB.out.below b7)
        have R1 := Lib.hid r1
        have HB7 := Lib.hid (HB6.out.trans (b7.mono HB6.out.size))
        clear r1 b7 RA RB HB6 HId
        go_wp2_with fail
        refine (HIe.out _ _ _ RB7.out RA7.out).mono ?_
        rintro e w8 ⟨i2, rfl, r2, b8⟩
        have R1' := Lib.hid (R1.out.below b8)
        have R2 := Lib.hid r2
        have HB8 := Lib.hid (HB7.out.trans (b8.mono HB7.out.size))
        clear r2 b8 RA7 RB7 HB7 HIe R1
        go_wp2_with fail
        refine (HDc.out _ _ _ R1'.out R2.out).mono ?_
        rintro e w9 ⟨rfl, b9⟩
        have HB9 := Lib.hid (HB8.out.trans (b9.mono HB8.out.size))
        clear b9 HB8 R1' R2 HDc
        generalize Lc.dice (Tk.rk (px ++ py) px) (Tk.rk (py ++ px) py) = d at *
        go_wp2_with fail
        go_ret
        refine ⟨ret_int ?_, HB9.out⟩
        rw [HR.out]
        omega)
    · have HR : Hid (A = 0) := Lib.hid (by
        have h := HAl.out
        rw [if_neg (by simp), if_pos hq] at h
        exact h)
      have g1 : (q1 != q2) = true := by rw [bne_iff_ne]; exact hq
      clear hCx5 hCy5 PX PY HId HIe HDc HAl
      go_wp2_with fail
      go_ret
      exact ⟨ret_int (by rw [HR.out]; rfl), HB5.out⟩
end Go.Proofs.YtldllbmbcnipoaaGreatDoor.Nm
