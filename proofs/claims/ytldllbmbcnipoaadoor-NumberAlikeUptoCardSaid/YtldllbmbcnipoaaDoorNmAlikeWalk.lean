/-
  THE WALK of the statement NumberAlike (gen_alike.py writes it).
-/
import Derived.Test.YtldllbmbcnipoaaDoorPkNP
import Derived.Test.YtldllbmbcnipoaaDoorNmMore
namespace Go.Proofs.YtldllbmbcnipoaaDoor.Nm
open Go.RowKit
open Go.Proofs.YtldllbmbcnipoaaDoor.Tk (S S_of S_list S_size S_toList S_app Rd RdI ret_int)
open Go.Proofs.YtldllbmbcnipoaaDoor.Cm (cell_at alloc_new Keep Keep.of_below calls_at)
open Go.Proofs.YtldllbmbcnipoaaDoor.Sp (Sp Tr totAll OkAns)
open Go.Proofs.YtldllbmbcnipoaaDoor.Bt (TrB ttAll ttOne lnTot szAll szOne smB spAll rsameB_any)
open Go.Proofs.YtldllbmbcnipoaaDoor.Bk (Bk Tx)
set_option linter.unusedVariables false

theorem fit1 {R : Nat} {x : Bk} (h : Bt.fitOne R x) : Bt.fitAll R [x] := by unfold Bt.fitAll; exact ⟨h, by unfold Bt.fitAll; trivial⟩
theorem tt1 (x : Bk) : ttAll [x] = ttOne x := by rw [Bt.ttAll_cons]; simp [ttAll]
set_option maxHeartbeats 6400000 in
set_option maxRecDepth 100000 in
theorem numberAlike_walk (K : Told15) (w : World) (hT : Tab w) (vx : Value) (x : Bk) (hx : BkV w x vx) (fx : Bt.fitOne reachBytes x) (tx' : ttAll [x] ≤ 1048576) (vy : Value) (y : Bk) (hy : BkV w y vy) (fy : Bt.fitOne reachBytes y) (ty' : ttAll [y] ≤ 1048576) :
    Calls Tryd.prog 4 #[vx, vy] w (OkAns w true) := by
  have HTb := Lib.hid (fun w' (h : Below w.heap.size w w') => hT.below h)
  have HA := Lib.hid (fun w' (h : Below w.heap.size w w') => awake15_any K w' (hT.below h))
  have K1 := Lib.hid (fun (h : fewN [x] = true) (g : fewN [y] = true) w' (b : Below w.heap.size w w') => K.alike x y vx vy w' (hx.below b) (hy.below b) (hT.below b) (by have := (fewN_tt h tx').2; rw [tt1] at this; omega) (by have := (fewN_tt g ty').2; rw [tt1] at this; omega) (Bt.fitOne_wide (by decide) x fx) (Bt.fitOne_wide (by decide) y fy))
  have K2 := Lib.hid (fun (h : fewN [x] = true) (g : fewN [y] = true) w' (b : Below w.heap.size w w') => K.alike y x vy vx w' (hy.below b) (hx.below b) (hT.below b) (by have := (fewN_tt g ty').2; rw [tt1] at this; omega) (by have := (fewN_tt h tx').2; rw [tt1] at this; omega) (Bt.fitOne_wide (by decide) y fy) (Bt.fitOne_wide (by decide) x fx))
  have K3 := Lib.hid (fun (h : fewN [x] = true) w' (b : Below w.heap.size w w') => K.alike x x vx vx w' (hx.below b) (hx.below b) (hT.below b) (by have := (fewN_tt h tx').2; rw [tt1] at this; omega) (by have := (fewN_tt h tx').2; rw [tt1] at this; omega) (Bt.fitOne_wide (by decide) x fx) (Bt.fitOne_wide (by decide) x fx))
  have A1 := Lib.hid (And.intro (al_comm x y) (And.intro (al_le x y) (And.intro (al_1000 x y) (al_self x))))
  have A2 := Lib.hid (fun (h : x.kind ≠ y.kind) => al_kind h)
  obtain ⟨al1, as1, ak1, cl1, cs1, ck1, rfl, r1, n1, s1, t1⟩ := hx
  obtain ⟨al2, as2, ak2, cl2, cs2, ck2, rfl, r2, n2, s2, t2⟩ := hy
  have LX := Lib.hid (fun w' (h : Below w.heap.size w w') => Bt.litB (k := x.kind) (lv := x.level) (i := x.info) (r1.below h) n1 (s1.below h) (t1.below h) 33)
  have LY := Lib.hid (fun w' (h : Below w.heap.size w w') => Bt.litB (k := y.kind) (lv := y.level) (i := y.info) (r2.below h) n2 (s2.below h) (t2.below h) 33)
  have FX := Lib.hid (fun v w' (h : TrB w' v [x]) => few15_any [x] v w' h (fit1 fx))
  have FY := Lib.hid (fun v w' (h : TrB w' v [y]) => few15_any [y] v w' h (fit1 fy))
  have HSm := Lib.hid (fun va vb w' (h1 : TrB w' va [x]) (h2 : TrB w' vb [y]) => rsameB_any (szAll [x]) [x] [y] va vb w' (Nat.le_refl _) h1 h2)
  have HBx := (Below.refl w.heap.size w).alloc (Nat.le_refl _) (.cells #[.int .i64 x.kind, .int .i64 x.level, .string (S x.info), .slice al1 x.lines.length cl1, .slice as1 x.spans.length cs1, .slice ak1 x.kids.length ck1] 33)
  have HB2 := Lib.hid (HBx.alloc HBx.size (.cells #[.int .i64 y.kind, .int .i64 y.level, .string (S y.info), .slice al2 y.lines.length cl2, .slice as2 y.spans.length cs2, .slice ak2 y.kids.length ck2] 33))
  have HCx := Lib.hid (Sp.new_aT (w := w) (.cells #[.int .i64 x.kind, .int .i64 x.level, .string (S x.info), .slice al1 x.lines.length cl1, .slice as1 x.spans.length cs1, .slice ak1 x.kids.length ck1] 33) (.cells #[.int .i64 y.kind, .int .i64 y.level, .string (S y.info), .slice al2 y.lines.length cl2, .slice as2 y.spans.length cs2, .slice ak2 y.kids.length ck2] 33))
  have HCy := Lib.hid (Sp.new_bT (w := w) (.cells #[.int .i64 x.kind, .int .i64 x.level, .string (S x.info), .slice al1 x.lines.length cl1, .slice as1 x.spans.length cs1, .slice ak1 x.kids.length ck1] 33) (.cells #[.int .i64 y.kind, .int .i64 y.level, .string (S y.info), .slice al2 y.lines.length cl2, .slice as2 y.spans.length cs2, .slice ak2 y.kids.length ck2] 33))
  unfold OkAns at HSm
  unfold OkAns
  unfold BoolA at HA FX FY
  unfold IntA at K1 K2 K3
  clear r1 n1 s1 t1 r2 n2 s2 t2 tx' ty' fx fy HBx K hT HTb
  have elx : x = .mk x.kind x.level x.info x.lines x.spans x.kids := by cases x; rfl
  have ely : y = .mk y.kind y.level y.info y.lines y.spans y.kids := by cases y; rfl
  rw [← elx] at LX
  rw [← ely] at LY
  clear elx ely
  generalize smB [x] [y] = sm at *
  generalize al y x = A' at *
  generalize al x y = A at *
  generalize al x x = A0 at *
  generalize fewN [x] = f1 at *
  generalize fewN [y] = f2 at *
  generalize x.lines.length = ln1 at *
  generalize x.spans.length = sn1 at *
  generalize x.kids.length = kn1 at *
  generalize S x.info = si1 at *
  generalize x.level = lv1 at *
  generalize x.kind = q1 at *
  generalize y.lines.length = ln2 at *
  generalize y.spans.length = sn2 at *
  generalize y.kids.length = kn2 at *
  generalize S y.info = si2 at *
  generalize y.level = lv2 at *
  generalize y.kind = q2 at *
  go_enter Tryd.func4, Tryd.ntmps4
  go_upto_region 1 with fail
  generalize (w.alloc (.cells #[.int .i64 q1, .int .i64 lv1, .string si1, .slice al1 ln1 cl1, .slice as1 sn1 cs1, .slice ak1 kn1 ck1] 33)).alloc (.cells #[.int .i64 q2, .int .i64 lv2, .string si2, .slice al2 ln2 cl2, .slice as2 sn2 cs2, .slice ak2 kn2 ck2] 33) = w2 at *
  go_wp2_with fail
  refine (HA.out _ HB2.out).mono ?_
  rintro e w3 ⟨rfl, b3⟩
  have HB3 := Lib.hid (HB2.out.trans (b3.mono HB2.out.size))
  have HCx3 := Lib.hid ((Keep.of_below (S := fun _ => False) b3).at HCx.out (fun h => h))
  have HCy3 := Lib.hid ((Keep.of_below (S := fun _ => False) b3).at HCy.out (fun h => h))
  clear b3 HCx HCy HB2
  have x0 : w3.cell? ⟨w.heap.size, 0, none⟩ = some (.int .i64 q1) := cell_at HCx3.out 0
  have x1 : w3.cell? ⟨w.heap.size, 1, none⟩ = some (.int .i64 lv1) := cell_at HCx3.out 1
  have x2 : w3.cell? ⟨w.heap.size, 2, none⟩ = some (.string si1) := cell_at HCx3.out 2
  have x3 : w3.cell? ⟨w.heap.size, 3, none⟩ = some (.slice al1 ln1 cl1) := cell_at HCx3.out 3
  have x4 : w3.cell? ⟨w.heap.size, 4, none⟩ = some (.slice as1 sn1 cs1) := cell_at HCx3.out 4
  have x5 : w3.cell? ⟨w.heap.size, 5, none⟩ = some (.slice ak1 kn1 ck1) := cell_at HCx3.out 5
  have y0 : w3.cell? ⟨w.heap.size + 1, 0, none⟩ = some (.int .i64 q2) := cell_at HCy3.out 0
  have y1 : w3.cell? ⟨w.heap.size + 1, 1, none⟩ = some (.int .i64 lv2) := cell_at HCy3.out 1
  have y2 : w3.cell? ⟨w.heap.size + 1, 2, none⟩ = some (.string si2) := cell_at HCy3.out 2
  have y3 : w3.cell? ⟨w.heap.size + 1, 3, none⟩ = some (.slice al2 ln2 cl2) := cell_at HCy3.out 3
  have y4 : w3.cell? ⟨w.heap.size + 1, 4, none⟩ = some (.slice as2 sn2 cs2) := cell_at HCy3.out 4
  have y5 : w3.cell? ⟨w.heap.size + 1, 5, none⟩ = some (.slice ak2 kn2 ck2) := cell_at HCy3.out 5
  have TX := LX.out w3 HB3.out
  have HF := Lib.hid (FX.out _ _ TX)
  have bA : Below w3.heap.size w3 (w3.alloc (.cells #[.int .i64 q1, .int .i64 lv1, .string si1, .slice al1 ln1 cl1, .slice as1 sn1 cs1, .slice ak1 kn1 ck1] 33)) := (Below.refl _ _).alloc (Nat.le_refl _) _
  have HB4 := Lib.hid (HB3.out.trans ((bA).mono HB3.out.size))
  have HCx4 := Lib.hid ((Keep.of_below (S := fun _ => False) (bA)).at HCx3.out (fun h => h))
  have HCy4 := Lib.hid ((Keep.of_below (S := fun _ => False) (bA)).at HCy3.out (fun h => h))
  clear TX bA FX
  go_wp2_with fail
  refine HF.out.mono ?_
  rintro e w5 ⟨rfl, b5⟩
  have HB5 := Lib.hid (HB4.out.trans ((b5).mono HB4.out.size))
  have HCx5 := Lib.hid ((Keep.of_below (S := fun _ => False) (b5)).at HCx4.out (fun h => h))
  have HCy5 := Lib.hid ((Keep.of_below (S := fun _ => False) (b5)).at HCy4.out (fun h => h))
  clear b5 HF HB3 HB4 HCx3 HCx4 HCy3 HCy4 x0 x1 x2 x3 x4 x5 y0 y1 y2 y3 y4 y5
  cases f1 with
  | false =>
    clear HCx5 HCy5
    go_wp2_with fail
    refine (HA.out _ HB5.out).mono ?_
    rintro e w9 ⟨rfl, b9⟩
    have H9 := Lib.hid (HB5.out.trans (b9.mono HB5.out.size))
    clear b9
    go_wp2_with fail
    go_ret
    exact ⟨rfl, H9.out⟩
  | true =>
    have x0 : w5.cell? ⟨w.heap.size, 0, none⟩ = some (.int .i64 q1) := cell_at HCx5.out 0
    have x1 : w5.cell? ⟨w.heap.size, 1, none⟩ = some (.int .i64 lv1) := cell_at HCx5.out 1
    have x2 : w5.cell? ⟨w.heap.size, 2, none⟩ = some (.string si1) := cell_at HCx5.out 2
    have x3 : w5.cell? ⟨w.heap.size, 3, none⟩ = some (.slice al1 ln1 cl1) := cell_at HCx5.out 3
    have x4 : w5.cell? ⟨w.heap.size, 4, none⟩ = some (.slice as1 sn1 cs1) := cell_at HCx5.out 4
    have x5 : w5.cell? ⟨w.heap.size, 5, none⟩ = some (.slice ak1 kn1 ck1) := cell_at HCx5.out 5
    have y0 : w5.cell? ⟨w.heap.size + 1, 0, none⟩ = some (.int .i64 q2) := cell_at HCy5.out 0
    have y1 : w5.cell? ⟨w.heap.size + 1, 1, none⟩ = some (.int .i64 lv2) := cell_at HCy5.out 1
    have y2 : w5.cell? ⟨w.heap.size + 1, 2, none⟩ = some (.string si2) := cell_at HCy5.out 2
    have y3 : w5.cell? ⟨w.heap.size + 1, 3, none⟩ = some (.slice al2 ln2 cl2) := cell_at HCy5.out 3
    have y4 : w5.cell? ⟨w.heap.size + 1, 4, none⟩ = some (.slice as2 sn2 cs2) := cell_at HCy5.out 4
    have y5 : w5.cell? ⟨w.heap.size + 1, 5, none⟩ = some (.slice ak2 kn2 ck2) := cell_at HCy5.out 5
    have TY := LY.out w5 HB5.out
    have HF := Lib.hid (FY.out _ _ TY)
    have bA : Below w5.heap.size w5 (w5.alloc (.cells #[.int .i64 q2, .int .i64 lv2, .string si2, .slice al2 ln2 cl2, .slice as2 sn2 cs2, .slice ak2 kn2 ck2] 33)) := (Below.refl _ _).alloc (Nat.le_refl _) _
    have HB6 := Lib.hid (HB5.out.trans ((bA).mono HB5.out.size))
    have HCx6 := Lib.hid ((Keep.of_below (S := fun _ => False) (bA)).at HCx5.out (fun h => h))
    have HCy6 := Lib.hid ((Keep.of_below (S := fun _ => False) (bA)).at HCy5.out (fun h => h))
    clear TY bA FY
    go_wp2_with fail
    refine HF.out.mono ?_
    rintro e w7 ⟨rfl, b7⟩
    have HB7 := Lib.hid (HB6.out.trans ((b7).mono HB6.out.size))
    have HCx7 := Lib.hid ((Keep.of_below (S := fun _ => False) (b7)).at HCx6.out (fun h => h))
    have HCy7 := Lib.hid ((Keep.of_below (S := fun _ => False) (b7)).at HCy6.out (fun h => h))
    clear b7 HF HB5 HB6 HCx5 HCx6 HCy5 HCy6 x0 x1 x2 x3 x4 x5 y0 y1 y2 y3 y4 y5
    cases f2 with
    | false =>
      clear HCx7 HCy7
      go_wp2_with fail
      refine (HA.out _ HB7.out).mono ?_
      rintro e w9 ⟨rfl, b9⟩
      have H9 := Lib.hid (HB7.out.trans (b9.mono HB7.out.size))
      clear b9
      go_wp2_with fail
      go_ret
      exact ⟨rfl, H9.out⟩
    | true =>
      have x0 : w7.cell? ⟨w.heap.size, 0, none⟩ = some (.int .i64 q1) := cell_at HCx7.out 0
      have x1 : w7.cell? ⟨w.heap.size, 1, none⟩ = some (.int .i64 lv1) := cell_at HCx7.out 1
      have x2 : w7.cell? ⟨w.heap.size, 2, none⟩ = some (.string si1) := cell_at HCx7.out 2
      have x3 : w7.cell? ⟨w.heap.size, 3, none⟩ = some (.slice al1 ln1 cl1) := cell_at HCx7.out 3
      have x4 : w7.cell? ⟨w.heap.size, 4, none⟩ = some (.slice as1 sn1 cs1) := cell_at HCx7.out 4
      have x5 : w7.cell? ⟨w.heap.size, 5, none⟩ = some (.slice ak1 kn1 ck1) := cell_at HCx7.out 5
      have y0 : w7.cell? ⟨w.heap.size + 1, 0, none⟩ = some (.int .i64 q2) := cell_at HCy7.out 0
      have y1 : w7.cell? ⟨w.heap.size + 1, 1, none⟩ = some (.int .i64 lv2) := cell_at HCy7.out 1
      have y2 : w7.cell? ⟨w.heap.size + 1, 2, none⟩ = some (.string si2) := cell_at HCy7.out 2
      have y3 : w7.cell? ⟨w.heap.size + 1, 3, none⟩ = some (.slice al2 ln2 cl2) := cell_at HCy7.out 3
      have y4 : w7.cell? ⟨w.heap.size + 1, 4, none⟩ = some (.slice as2 sn2 cs2) := cell_at HCy7.out 4
      have y5 : w7.cell? ⟨w.heap.size + 1, 5, none⟩ = some (.slice ak2 kn2 ck2) := cell_at HCy7.out 5
      go_wp2_with fail
      refine (K1.out (by trivial) (by trivial) _ HB7.out).mono ?_
      rintro e w8 ⟨rfl, b8⟩
      have HB8 := Lib.hid (HB7.out.trans ((b8).mono HB7.out.size))
      have HCx8 := Lib.hid ((Keep.of_below (S := fun _ => False) (b8)).at HCx7.out (fun h => h))
      have HCy8 := Lib.hid ((Keep.of_below (S := fun _ => False) (b8)).at HCy7.out (fun h => h))
      clear b8 HB7 HCx7 HCy7 K1 x0 x1 x2 x3 x4 x5 y0 y1 y2 y3 y4 y5
      have x0 : w8.cell? ⟨w.heap.size, 0, none⟩ = some (.int .i64 q1) := cell_at HCx8.out 0
      have x1 : w8.cell? ⟨w.heap.size, 1, none⟩ = some (.int .i64 lv1) := cell_at HCx8.out 1
      have x2 : w8.cell? ⟨w.heap.size, 2, none⟩ = some (.string si1) := cell_at HCx8.out 2
      have x3 : w8.cell? ⟨w.heap.size, 3, none⟩ = some (.slice al1 ln1 cl1) := cell_at HCx8.out 3
      have x4 : w8.cell? ⟨w.heap.size, 4, none⟩ = some (.slice as1 sn1 cs1) := cell_at HCx8.out 4
      have x5 : w8.cell? ⟨w.heap.size, 5, none⟩ = some (.slice ak1 kn1 ck1) := cell_at HCx8.out 5
      have y0 : w8.cell? ⟨w.heap.size + 1, 0, none⟩ = some (.int .i64 q2) := cell_at HCy8.out 0
      have y1 : w8.cell? ⟨w.heap.size + 1, 1, none⟩ = some (.int .i64 lv2) := cell_at HCy8.out 1
      have y2 : w8.cell? ⟨w.heap.size + 1, 2, none⟩ = some (.string si2) := cell_at HCy8.out 2
      have y3 : w8.cell? ⟨w.heap.size + 1, 3, none⟩ = some (.slice al2 ln2 cl2) := cell_at HCy8.out 3
      have y4 : w8.cell? ⟨w.heap.size + 1, 4, none⟩ = some (.slice as2 sn2 cs2) := cell_at HCy8.out 4
      have y5 : w8.cell? ⟨w.heap.size + 1, 5, none⟩ = some (.slice ak2 kn2 ck2) := cell_at HCy8.out 5
      have TX := LX.out w8 HB8.out
      have bA : Below w8.heap.size w8 (w8.alloc (.cells #[.int .i64 q1, .int .i64 lv1, .string si1, .slice al1 ln1 cl1, .slice as1 sn1 cs1, .slice ak1 kn1 ck1] 33)) := (Below.refl _ _).alloc (Nat.le_refl _) _
      have HB9 := Lib.hid (HB8.out.trans ((bA).mono HB8.out.size))
      have HCx9 := Lib.hid ((Keep.of_below (S := fun _ => False) (bA)).at HCx8.out (fun h => h))
      have HCy9 := Lib.hid ((Keep.of_below (S := fun _ => False) (bA)).at HCy8.out (fun h => h))
      generalize hw9 : w8.alloc (.cells #[.int .i64 q1, .int .i64 lv1, .string si1, .slice al1 ln1 cl1, .slice as1 sn1 cs1, .slice ak1 kn1 ck1] 33) = w9 at *
      have e9 : w9.heap.size = w8.heap.size + 1 := by rw [← hw9]; simp
      have TY := LY.out w9 HB9.out
      have bB : Below w9.heap.size w9 (w9.alloc (.cells #[.int .i64 q2, .int .i64 lv2, .string si2, .slice al2 ln2 cl2, .slice as2 sn2 cs2, .slice ak2 kn2 ck2] 33)) := (Below.refl _ _).alloc (Nat.le_refl _) _
      have HS := HSm.out _ _ _ (TX.below bB) TY
      have HB10 := Lib.hid (HB9.out.trans ((bB).mono HB9.out.size))
      have HCx10 := Lib.hid ((Keep.of_below (S := fun _ => False) (bB)).at HCx9.out (fun h => h))
      have HCy10 := Lib.hid ((Keep.of_below (S := fun _ => False) (bB)).at HCy9.out (fun h => h))
      rw [← hw9] at HS HB9 HB10 HCx9 HCy9 HCx10 HCy10
      rw [show (w8.alloc (.cells #[.int .i64 q1, .int .i64 lv1, .string si1, .slice al1 ln1 cl1, .slice as1 sn1 cs1, .slice ak1 kn1 ck1] 33)).heap.size = w8.heap.size + 1 by simp] at HS
      have HS' := Lib.hid HS
      have z0 : (w8.alloc (.cells #[.int .i64 q1, .int .i64 lv1, .string si1, .slice al1 ln1 cl1, .slice as1 sn1 cs1, .slice ak1 kn1 ck1] 33)).cell? ⟨w.heap.size + 1, 0, none⟩ = some (.int .i64 q2) := cell_at HCy9.out 0
      have z1 : (w8.alloc (.cells #[.int .i64 q1, .int .i64 lv1, .string si1, .slice al1 ln1 cl1, .slice as1 sn1 cs1, .slice ak1 kn1 ck1] 33)).cell? ⟨w.heap.size + 1, 1, none⟩ = some (.int .i64 lv2) := cell_at HCy9.out 1
      have z2 : (w8.alloc (.cells #[.int .i64 q1, .int .i64 lv1, .string si1, .slice al1 ln1 cl1, .slice as1 sn1 cs1, .slice ak1 kn1 ck1] 33)).cell? ⟨w.heap.size + 1, 2, none⟩ = some (.string si2) := cell_at HCy9.out 2
      have z3 : (w8.alloc (.cells #[.int .i64 q1, .int .i64 lv1, .string si1, .slice al1 ln1 cl1, .slice as1 sn1 cs1, .slice ak1 kn1 ck1] 33)).cell? ⟨w.heap.size + 1, 3, none⟩ = some (.slice al2 ln2 cl2) := cell_at HCy9.out 3
      have z4 : (w8.alloc (.cells #[.int .i64 q1, .int .i64 lv1, .string si1, .slice al1 ln1 cl1, .slice as1 sn1 cs1, .slice ak1 kn1 ck1] 33)).cell? ⟨w.heap.size + 1, 4, none⟩ = some (.slice as2 sn2 cs2) := cell_at HCy9.out 4
      have z5 : (w8.alloc (.cells #[.int .i64 q1, .int .i64 lv1, .string si1, .slice al1 ln1 cl1, .slice as1 sn1 cs1, .slice ak1 kn1 ck1] 33)).cell? ⟨w.heap.size + 1, 5, none⟩ = some (.slice ak2 kn2 ck2) := cell_at HCy9.out 5
      clear HS TX TY bA bB e9 hw9 LX LY HSm HB8 HB9 HCx8 HCx9 HCy8 HCy9
      go_wp2_with fail
      refine HS'.out.mono ?_
      rintro e w11 ⟨rfl, b11⟩
      have HB11 := Lib.hid (HB10.out.trans ((b11).mono HB10.out.size))
      have HCx11 := Lib.hid ((Keep.of_below (S := fun _ => False) (b11)).at HCx10.out (fun h => h))
      have HCy11 := Lib.hid ((Keep.of_below (S := fun _ => False) (b11)).at HCy10.out (fun h => h))
      clear b11 HS' HB10 HCx10 HCy10 z0 z1 z2 z3 z4 z5 x0 x1 x2 x3 x4 x5 y0 y1 y2 y3 y4 y5
      have x0 : w11.cell? ⟨w.heap.size, 0, none⟩ = some (.int .i64 q1) := cell_at HCx11.out 0
      have x1 : w11.cell? ⟨w.heap.size, 1, none⟩ = some (.int .i64 lv1) := cell_at HCx11.out 1
      have x2 : w11.cell? ⟨w.heap.size, 2, none⟩ = some (.string si1) := cell_at HCx11.out 2
      have x3 : w11.cell? ⟨w.heap.size, 3, none⟩ = some (.slice al1 ln1 cl1) := cell_at HCx11.out 3
      have x4 : w11.cell? ⟨w.heap.size, 4, none⟩ = some (.slice as1 sn1 cs1) := cell_at HCx11.out 4
      have x5 : w11.cell? ⟨w.heap.size, 5, none⟩ = some (.slice ak1 kn1 ck1) := cell_at HCx11.out 5
      have y0 : w11.cell? ⟨w.heap.size + 1, 0, none⟩ = some (.int .i64 q2) := cell_at HCy11.out 0
      have y1 : w11.cell? ⟨w.heap.size + 1, 1, none⟩ = some (.int .i64 lv2) := cell_at HCy11.out 1
      have y2 : w11.cell? ⟨w.heap.size + 1, 2, none⟩ = some (.string si2) := cell_at HCy11.out 2
      have y3 : w11.cell? ⟨w.heap.size + 1, 3, none⟩ = some (.slice al2 ln2 cl2) := cell_at HCy11.out 3
      have y4 : w11.cell? ⟨w.heap.size + 1, 4, none⟩ = some (.slice as2 sn2 cs2) := cell_at HCy11.out 4
      have y5 : w11.cell? ⟨w.heap.size + 1, 5, none⟩ = some (.slice ak2 kn2 ck2) := cell_at HCy11.out 5
      clear x0 x1 x2 x3 x4 x5 y0 y1 y2 y3 y4 y5
      obtain ⟨h1, h2, h3, h4⟩ := A1.out
      subst h1
      rw [h4] at K3
      clear A1
      have g2 : decide ((A : Int) ≥ 0) = true := decide_eq_true (by omega)
      have g2' : decide (0 ≤ (A : Int)) = true := decide_eq_true (by omega)
      have g3 : decide ((A : Int) ≤ 1000) = true := decide_eq_true (by omega)
      cases sm with
      | true =>
        have hA : A = 1000 := h3.2 rfl
        subst hA
        have hq : q1 = q2 := Decidable.byContradiction fun h => by have := A2.out h; omega
        subst hq
        clear A2 h2 h3 h4
        have x0 : w11.cell? ⟨w.heap.size, 0, none⟩ = some (.int .i64 q1) := cell_at HCx11.out 0
        have x1 : w11.cell? ⟨w.heap.size, 1, none⟩ = some (.int .i64 lv1) := cell_at HCx11.out 1
        have x2 : w11.cell? ⟨w.heap.size, 2, none⟩ = some (.string si1) := cell_at HCx11.out 2
        have x3 : w11.cell? ⟨w.heap.size, 3, none⟩ = some (.slice al1 ln1 cl1) := cell_at HCx11.out 3
        have x4 : w11.cell? ⟨w.heap.size, 4, none⟩ = some (.slice as1 sn1 cs1) := cell_at HCx11.out 4
        have x5 : w11.cell? ⟨w.heap.size, 5, none⟩ = some (.slice ak1 kn1 ck1) := cell_at HCx11.out 5
        have y0 : w11.cell? ⟨w.heap.size + 1, 0, none⟩ = some (.int .i64 q1) := cell_at HCy11.out 0
        have y1 : w11.cell? ⟨w.heap.size + 1, 1, none⟩ = some (.int .i64 lv2) := cell_at HCy11.out 1
        have y2 : w11.cell? ⟨w.heap.size + 1, 2, none⟩ = some (.string si2) := cell_at HCy11.out 2
        have y3 : w11.cell? ⟨w.heap.size + 1, 3, none⟩ = some (.slice al2 ln2 cl2) := cell_at HCy11.out 3
        have y4 : w11.cell? ⟨w.heap.size + 1, 4, none⟩ = some (.slice as2 sn2 cs2) := cell_at HCy11.out 4
        have y5 : w11.cell? ⟨w.heap.size + 1, 5, none⟩ = some (.slice ak2 kn2 ck2) := cell_at HCy11.out 5
        go_wp2_with fail
        refine (K2.out (by trivial) (by trivial) _ HB11.out).mono ?_
        rintro e w12 ⟨rfl, b12⟩
        have HB12 := Lib.hid (HB11.out.trans ((b12).mono HB11.out.size))
        have HCx12 := Lib.hid ((Keep.of_below (S := fun _ => False) (b12)).at HCx11.out (fun h => h))
        have HCy12 := Lib.hid ((Keep.of_below (S := fun _ => False) (b12)).at HCy11.out (fun h => h))
        clear b12 HB11 HCx11 HCy11 K2 x0 x1 x2 x3 x4 x5 y0 y1 y2 y3 y4 y5
        have x0 : w12.cell? ⟨w.heap.size, 0, none⟩ = some (.int .i64 q1) := cell_at HCx12.out 0
        have x1 : w12.cell? ⟨w.heap.size, 1, none⟩ = some (.int .i64 lv1) := cell_at HCx12.out 1
        have x2 : w12.cell? ⟨w.heap.size, 2, none⟩ = some (.string si1) := cell_at HCx12.out 2
        have x3 : w12.cell? ⟨w.heap.size, 3, none⟩ = some (.slice al1 ln1 cl1) := cell_at HCx12.out 3
        have x4 : w12.cell? ⟨w.heap.size, 4, none⟩ = some (.slice as1 sn1 cs1) := cell_at HCx12.out 4
        have x5 : w12.cell? ⟨w.heap.size, 5, none⟩ = some (.slice ak1 kn1 ck1) := cell_at HCx12.out 5
        have y0 : w12.cell? ⟨w.heap.size + 1, 0, none⟩ = some (.int .i64 q1) := cell_at HCy12.out 0
        have y1 : w12.cell? ⟨w.heap.size + 1, 1, none⟩ = some (.int .i64 lv2) := cell_at HCy12.out 1
        have y2 : w12.cell? ⟨w.heap.size + 1, 2, none⟩ = some (.string si2) := cell_at HCy12.out 2
        have y3 : w12.cell? ⟨w.heap.size + 1, 3, none⟩ = some (.slice al2 ln2 cl2) := cell_at HCy12.out 3
        have y4 : w12.cell? ⟨w.heap.size + 1, 4, none⟩ = some (.slice as2 sn2 cs2) := cell_at HCy12.out 4
        have y5 : w12.cell? ⟨w.heap.size + 1, 5, none⟩ = some (.slice ak2 kn2 ck2) := cell_at HCy12.out 5
        go_wp2_with fail
        refine (K3.out (by trivial) _ HB12.out).mono ?_
        rintro e w13 ⟨rfl, b13⟩
        have HB13 := Lib.hid (HB12.out.trans (b13.mono HB12.out.size))
        clear b13 K3
        go_wp2_with fail
        go_ret
        exact ⟨rfl, HB13.out⟩
      | false =>
        have g4 : ((A : Int) == 1000) = false := by
          have : A ≠ 1000 := fun h => by have := h3.1 h; cases this
          simp; omega
        by_cases hq : q1 = q2
        · subst hq
          clear A2 h2 h3 h4
          have x0 : w11.cell? ⟨w.heap.size, 0, none⟩ = some (.int .i64 q1) := cell_at HCx11.out 0
          have x1 : w11.cell? ⟨w.heap.size, 1, none⟩ = some (.int .i64 lv1) := cell_at HCx11.out 1
          have x2 : w11.cell? ⟨w.heap.size, 2, none⟩ = some (.string si1) := cell_at HCx11.out 2
          have x3 : w11.cell? ⟨w.heap.size, 3, none⟩ = some (.slice al1 ln1 cl1) := cell_at HCx11.out 3
          have x4 : w11.cell? ⟨w.heap.size, 4, none⟩ = some (.slice as1 sn1 cs1) := cell_at HCx11.out 4
          have x5 : w11.cell? ⟨w.heap.size, 5, none⟩ = some (.slice ak1 kn1 ck1) := cell_at HCx11.out 5
          have y0 : w11.cell? ⟨w.heap.size + 1, 0, none⟩ = some (.int .i64 q1) := cell_at HCy11.out 0
          have y1 : w11.cell? ⟨w.heap.size + 1, 1, none⟩ = some (.int .i64 lv2) := cell_at HCy11.out 1
          have y2 : w11.cell? ⟨w.heap.size + 1, 2, none⟩ = some (.string si2) := cell_at HCy11.out 2
          have y3 : w11.cell? ⟨w.heap.size + 1, 3, none⟩ = some (.slice al2 ln2 cl2) := cell_at HCy11.out 3
          have y4 : w11.cell? ⟨w.heap.size + 1, 4, none⟩ = some (.slice as2 sn2 cs2) := cell_at HCy11.out 4
          have y5 : w11.cell? ⟨w.heap.size + 1, 5, none⟩ = some (.slice ak2 kn2 ck2) := cell_at HCy11.out 5
          go_wp2_with fail
          refine (K2.out (by trivial) (by trivial) _ HB11.out).mono ?_
          rintro e w12 ⟨rfl, b12⟩
          have HB12 := Lib.hid (HB11.out.trans ((b12).mono HB11.out.size))
          have HCx12 := Lib.hid ((Keep.of_below (S := fun _ => False) (b12)).at HCx11.out (fun h => h))
          have HCy12 := Lib.hid ((Keep.of_below (S := fun _ => False) (b12)).at HCy11.out (fun h => h))
          clear b12 HB11 HCx11 HCy11 K2 x0 x1 x2 x3 x4 x5 y0 y1 y2 y3 y4 y5
          have x0 : w12.cell? ⟨w.heap.size, 0, none⟩ = some (.int .i64 q1) := cell_at HCx12.out 0
          have x1 : w12.cell? ⟨w.heap.size, 1, none⟩ = some (.int .i64 lv1) := cell_at HCx12.out 1
          have x2 : w12.cell? ⟨w.heap.size, 2, none⟩ = some (.string si1) := cell_at HCx12.out 2
          have x3 : w12.cell? ⟨w.heap.size, 3, none⟩ = some (.slice al1 ln1 cl1) := cell_at HCx12.out 3
          have x4 : w12.cell? ⟨w.heap.size, 4, none⟩ = some (.slice as1 sn1 cs1) := cell_at HCx12.out 4
          have x5 : w12.cell? ⟨w.heap.size, 5, none⟩ = some (.slice ak1 kn1 ck1) := cell_at HCx12.out 5
          have y0 : w12.cell? ⟨w.heap.size + 1, 0, none⟩ = some (.int .i64 q1) := cell_at HCy12.out 0
          have y1 : w12.cell? ⟨w.heap.size + 1, 1, none⟩ = some (.int .i64 lv2) := cell_at HCy12.out 1
          have y2 : w12.cell? ⟨w.heap.size + 1, 2, none⟩ = some (.string si2) := cell_at HCy12.out 2
          have y3 : w12.cell? ⟨w.heap.size + 1, 3, none⟩ = some (.slice al2 ln2 cl2) := cell_at HCy12.out 3
          have y4 : w12.cell? ⟨w.heap.size + 1, 4, none⟩ = some (.slice as2 sn2 cs2) := cell_at HCy12.out 4
          have y5 : w12.cell? ⟨w.heap.size + 1, 5, none⟩ = some (.slice ak2 kn2 ck2) := cell_at HCy12.out 5
          go_wp2_with fail
          refine (K3.out (by trivial) _ HB12.out).mono ?_
          rintro e w13 ⟨rfl, b13⟩
          have HB13 := Lib.hid (HB12.out.trans (b13.mono HB12.out.size))
          clear b13 K3
          go_wp2_with fail
          go_ret
          exact ⟨rfl, HB13.out⟩
        · have g5 : (q1 == q2) = false := beq_eq_false_iff_ne.2 hq
          have hz := A2.out hq
          subst hz
          clear A2 h2 h3 h4 hq
          have x0 : w11.cell? ⟨w.heap.size, 0, none⟩ = some (.int .i64 q1) := cell_at HCx11.out 0
          have x1 : w11.cell? ⟨w.heap.size, 1, none⟩ = some (.int .i64 lv1) := cell_at HCx11.out 1
          have x2 : w11.cell? ⟨w.heap.size, 2, none⟩ = some (.string si1) := cell_at HCx11.out 2
          have x3 : w11.cell? ⟨w.heap.size, 3, none⟩ = some (.slice al1 ln1 cl1) := cell_at HCx11.out 3
          have x4 : w11.cell? ⟨w.heap.size, 4, none⟩ = some (.slice as1 sn1 cs1) := cell_at HCx11.out 4
          have x5 : w11.cell? ⟨w.heap.size, 5, none⟩ = some (.slice ak1 kn1 ck1) := cell_at HCx11.out 5
          have y0 : w11.cell? ⟨w.heap.size + 1, 0, none⟩ = some (.int .i64 q2) := cell_at HCy11.out 0
          have y1 : w11.cell? ⟨w.heap.size + 1, 1, none⟩ = some (.int .i64 lv2) := cell_at HCy11.out 1
          have y2 : w11.cell? ⟨w.heap.size + 1, 2, none⟩ = some (.string si2) := cell_at HCy11.out 2
          have y3 : w11.cell? ⟨w.heap.size + 1, 3, none⟩ = some (.slice al2 ln2 cl2) := cell_at HCy11.out 3
          have y4 : w11.cell? ⟨w.heap.size + 1, 4, none⟩ = some (.slice as2 sn2 cs2) := cell_at HCy11.out 4
          have y5 : w11.cell? ⟨w.heap.size + 1, 5, none⟩ = some (.slice ak2 kn2 ck2) := cell_at HCy11.out 5
          go_wp2_with fail
          refine (K2.out (by trivial) (by trivial) _ HB11.out).mono ?_
          rintro e w12 ⟨rfl, b12⟩
          have HB12 := Lib.hid (HB11.out.trans ((b12).mono HB11.out.size))
          have HCx12 := Lib.hid ((Keep.of_below (S := fun _ => False) (b12)).at HCx11.out (fun h => h))
          have HCy12 := Lib.hid ((Keep.of_below (S := fun _ => False) (b12)).at HCy11.out (fun h => h))
          clear b12 HB11 HCx11 HCy11 K2 x0 x1 x2 x3 x4 x5 y0 y1 y2 y3 y4 y5
          have x0 : w12.cell? ⟨w.heap.size, 0, none⟩ = some (.int .i64 q1) := cell_at HCx12.out 0
          have x1 : w12.cell? ⟨w.heap.size, 1, none⟩ = some (.int .i64 lv1) := cell_at HCx12.out 1
          have x2 : w12.cell? ⟨w.heap.size, 2, none⟩ = some (.string si1) := cell_at HCx12.out 2
          have x3 : w12.cell? ⟨w.heap.size, 3, none⟩ = some (.slice al1 ln1 cl1) := cell_at HCx12.out 3
          have x4 : w12.cell? ⟨w.heap.size, 4, none⟩ = some (.slice as1 sn1 cs1) := cell_at HCx12.out 4
          have x5 : w12.cell? ⟨w.heap.size, 5, none⟩ = some (.slice ak1 kn1 ck1) := cell_at HCx12.out 5
          have y0 : w12.cell? ⟨w.heap.size + 1, 0, none⟩ = some (.int .i64 q2) := cell_at HCy12.out 0
          have y1 : w12.cell? ⟨w.heap.size + 1, 1, none⟩ = some (.int .i64 lv2) := cell_at HCy12.out 1
          have y2 : w12.cell? ⟨w.heap.size + 1, 2, none⟩ = some (.string si2) := cell_at HCy12.out 2
          have y3 : w12.cell? ⟨w.heap.size + 1, 3, none⟩ = some (.slice al2 ln2 cl2) := cell_at HCy12.out 3
          have y4 : w12.cell? ⟨w.heap.size + 1, 4, none⟩ = some (.slice as2 sn2 cs2) := cell_at HCy12.out 4
          have y5 : w12.cell? ⟨w.heap.size + 1, 5, none⟩ = some (.slice ak2 kn2 ck2) := cell_at HCy12.out 5
          go_wp2_with fail
          refine (K3.out (by trivial) _ HB12.out).mono ?_
          rintro e w13 ⟨rfl, b13⟩
          have HB13 := Lib.hid (HB12.out.trans (b13.mono HB12.out.size))
          clear b13 K3
          go_wp2_with fail
          go_ret
          exact ⟨rfl, HB13.out⟩
end Go.Proofs.YtldllbmbcnipoaaDoor.Nm
