/-
  Several texts in one:
  
  
-/
import Derived.Test.YtldllbmbcnipoabGreatDoorPkWN
import Derived.Test.YtldllbmbcnipoabGreatDoorBtSameP
import Derived.Test.YtldllbmbcnipoabGreatDoorLpPackB
import Derived.Lib.SlTrimSet
import Derived.Lib.Join
import Derived.Lib.Strings
import Derived.Lib.Hide
namespace Go.Proofs.YtldllbmbcnipoabGreatDoor.Nm
open Go.RowKit
open Go.Proofs.YtldllbmbcnipoabGreatDoor.Tk (S S_of S_list S_size S_toList S_app Rd RdI ret_int)
open Go.Proofs.YtldllbmbcnipoabGreatDoor.Cm (cell_at alloc_new Keep Keep.of_below calls_at Rz)
open Go.Proofs.YtldllbmbcnipoabGreatDoor.Sp (Sp Tr totAll plAll OkAns)
open Go.Proofs.YtldllbmbcnipoabGreatDoor.Bt (TrB ttAll ttOne lnTot szAll szOne smB)
open Go.Proofs.YtldllbmbcnipoabGreatDoor.Bk (Bk Tx)
set_option linter.unusedVariables false
set_option maxHeartbeats 6400000 in
set_option maxRecDepth 100000 in
theorem alikeP_any (x y : Bk) (vx vy : Value) (w : World) (hx : BkV w x vx) (hy : BkV w y vy) (hT : Tab w) (tx' : ttOne x ≤ 2000) (ty' : ttOne y ≤ 2000) (fx : Bt.fitOne 140737488355328 x) (fy : Bt.fitOne 140737488355328 y) :
    Calls Tryz.prog 8 #[vx, vy] w (IntA w (al x y : Nat)) := by
  obtain ⟨al1, as1, ak1, cl1, cs1, ck1, rfl, r1, n1, s1, t1⟩ := hx
  obtain ⟨al2, as2, ak2, cl2, cs2, ck2, rfl, r2, n2, s2, t2⟩ := hy
  have hpx := pt_len x
  have hpy := pt_len y
  have PX := Lib.hid (fun w' (h : Below w.heap.size w w') => partsP_any x _ w' ⟨al1, as1, ak1, cl1, cs1, ck1, rfl, r1.below h, n1, s1.below h, t1.below h⟩ (hT.below h) tx' fx)
  have PY := Lib.hid (fun w' (h : Below w.heap.size w w') => partsP_any y _ w' ⟨al2, as2, ak2, cl2, cs2, ck2, rfl, r2.below h, n2, s2.below h, t2.below h⟩ (hT.below h) ty' fy)
  have LX := Lib.hid (fun w' (h : Below w.heap.size w w') => Bt.litB (k := x.kind) (lv := x.level) (i := x.info) (r1.below h) n1 (s1.below h) (t1.below h) 32)
  have LY := Lib.hid (fun w' (h : Below w.heap.size w w') => Bt.litB (k := y.kind) (lv := y.level) (i := y.info) (r2.below h) n2 (s2.below h) (t2.below h) 32)
  have HSm := Lib.hid (fun va vb w' (h1 : TrB w' va [x]) (h2 : TrB w' vb [y]) => Bt.sameBP_any (szAll [x]) [x] [y] va vb w' (Nat.le_refl _) h1 h2)
  have HId := Lib.hid (fun va vb w' (h1 : Rd w' va (pt x)) (h2 : Rd w' vb (pt y)) => Tk.ids_any _ [pt x, pt y] _ (rdl_two h1 h2 29) (by simp) (by simp; omega))
  have eI : ([pt x, pt y] : List (List Tx)).map (Tk.rk ([pt x, pt y] : List (List Tx)).flatten) = [Tk.rk (pt x ++ pt y) (pt x), Tk.rk (pt x ++ pt y) (pt y)] := by simp
  rw [eI] at HId
  have eK : Tk.rk (pt y ++ pt x) (pt y) = Tk.rk (pt x ++ pt y) (pt y) := rk_same (fun z => by rw [List.mem_append, List.mem_append]; exact Or.comm) _
  have HDc := Lib.hid (fun va vb w' (h1 : RdI 0 w' va (Tk.rk (pt x ++ pt y) (pt x))) (h2 : RdI 0 w' vb (Tk.rk (pt x ++ pt y) (pt y))) => Lp.dice_any va vb _ _ w' (rz_of_rdi h1) (rz_of_rdi h2) (by rw [Tk.rk, List.length_map]; omega) (by rw [Tk.rk, List.length_map]; omega))
  have HAl : Hid (al x y = if smB [x] [y] = true then 1000 else if x.kind ≠ y.kind then 0 else min 999 (Lc.dice (Tk.rk (pt x ++ pt y) (pt x)) (Tk.rk (pt x ++ pt y) (pt y)))) := Lib.hid (by rw [← eK]; rfl)
  have HBx := (Below.refl w.heap.size w).alloc (Nat.le_refl _) (.cells #[.int .i64 x.kind, .int .i64 x.level, .string (S x.info), .slice al1 x.lines.length cl1, .slice as1 x.spans.length cs1, .slice ak1 x.kids.length ck1] 32)
  have HB2 := Lib.hid (HBx.alloc HBx.size (.cells #[.int .i64 y.kind, .int .i64 y.level, .string (S y.info), .slice al2 y.lines.length cl2, .slice as2 y.spans.length cs2, .slice ak2 y.kids.length ck2] 32))
  have HCx := Lib.hid (Sp.new_aT (w := w) (.cells #[.int .i64 x.kind, .int .i64 x.level, .string (S x.info), .slice al1 x.lines.length cl1, .slice as1 x.spans.length cs1, .slice ak1 x.kids.length ck1] 32) (.cells #[.int .i64 y.kind, .int .i64 y.level, .string (S y.info), .slice al2 y.lines.length cl2, .slice as2 y.spans.length cs2, .slice ak2 y.kids.length ck2] 32))
  have HCy := Lib.hid (Sp.new_bT (w := w) (.cells #[.int .i64 x.kind, .int .i64 x.level, .string (S x.info), .slice al1 x.lines.length cl1, .slice as1 x.spans.length cs1, .slice ak1 x.kids.length ck1] 32) (.cells #[.int .i64 y.kind, .int .i64 y.level, .string (S y.info), .slice al2 y.lines.length cl2, .slice as2 y.spans.length cs2, .slice ak2 y.kids.length ck2] 32))
  unfold OkAns at HSm
  unfold RdA at PX PY
  unfold IntA
  clear r1 n1 s1 t1 r2 n2 s2 t2 hpx hpy tx' ty' fx fy HBx hT eI eK
  have elx : x = .mk x.kind x.level x.info x.lines x.spans x.kids := by cases x; rfl
  have ely : y = .mk y.kind y.level y.info y.lines y.spans y.kids := by cases y; rfl
  rw [← elx] at LX
  rw [← ely] at LY
  clear elx ely
  generalize Tk.rk (pt x ++ pt y) (pt x) = i1 at *
  generalize Tk.rk (pt x ++ pt y) (pt y) = i2 at *
  generalize pt x = px at *
  generalize pt y = py at *
  generalize smB [x] [y] = sm at *
  generalize al x y = A at *
  generalize x.lines.length = ln1 at *
  generalize x.spans.length = sn1 at *
  generalize x.kids.length = kn1 at *
  generalize S x.info = si1 at *
  generalize x.level = lv1 at *
  generalize x.kind = q1 at *
  generalize y.lines.length = ln2 at *
  generalize y.spans.length = sn2 at *
  generalize y.kids.length = kn2 at *
  generalize S y.info = si2 at *
  generalize y.level = lv2 at *
  generalize y.kind = q2 at *
  go_enter Tryz.func8, Tryz.ntmps8
  go_upto_region 1 with fail
  generalize (w.alloc (.cells #[.int .i64 q1, .int .i64 lv1, .string si1, .slice al1 ln1 cl1, .slice as1 sn1 cs1, .slice ak1 kn1 ck1] 32)).alloc (.cells #[.int .i64 q2, .int .i64 lv2, .string si2, .slice al2 ln2 cl2, .slice as2 sn2 cs2, .slice ak2 kn2 ck2] 32) = w2 at *
  have x0 : w2.cell? ⟨w.heap.size, 0, none⟩ = some (.int .i64 q1) := cell_at HCx.out 0
  have x1 : w2.cell? ⟨w.heap.size, 1, none⟩ = some (.int .i64 lv1) := cell_at HCx.out 1
  have x2 : w2.cell? ⟨w.heap.size, 2, none⟩ = some (.string si1) := cell_at HCx.out 2
  have x3 : w2.cell? ⟨w.heap.size, 3, none⟩ = some (.slice al1 ln1 cl1) := cell_at HCx.out 3
  have x4 : w2.cell? ⟨w.heap.size, 4, none⟩ = some (.slice as1 sn1 cs1) := cell_at HCx.out 4
  have x5 : w2.cell? ⟨w.heap.size, 5, none⟩ = some (.slice ak1 kn1 ck1) := cell_at HCx.out 5
  have bx : Below w2.heap.size w2 (w2.alloc (.cells #[.int .i64 q1, .int .i64 lv1, .string si1, .slice al1 ln1 cl1, .slice as1 sn1 cs1, .slice ak1 kn1 ck1] 32)) := (Below.refl _ _).alloc (Nat.le_refl _) _
  have hCy3 := (Keep.of_below (S := fun _ => False) bx).at HCy.out (fun h => h)
  have y0 : (w2.alloc (.cells #[.int .i64 q1, .int .i64 lv1, .string si1, .slice al1 ln1 cl1, .slice as1 sn1 cs1, .slice ak1 kn1 ck1] 32)).cell? ⟨w.heap.size + 1, 0, none⟩ = some (.int .i64 q2) := cell_at hCy3 0
  have y1 : (w2.alloc (.cells #[.int .i64 q1, .int .i64 lv1, .string si1, .slice al1 ln1 cl1, .slice as1 sn1 cs1, .slice ak1 kn1 ck1] 32)).cell? ⟨w.heap.size + 1, 1, none⟩ = some (.int .i64 lv2) := cell_at hCy3 1
  have y2 : (w2.alloc (.cells #[.int .i64 q1, .int .i64 lv1, .string si1, .slice al1 ln1 cl1, .slice as1 sn1 cs1, .slice ak1 kn1 ck1] 32)).cell? ⟨w.heap.size + 1, 2, none⟩ = some (.string si2) := cell_at hCy3 2
  have y3 : (w2.alloc (.cells #[.int .i64 q1, .int .i64 lv1, .string si1, .slice al1 ln1 cl1, .slice as1 sn1 cs1, .slice ak1 kn1 ck1] 32)).cell? ⟨w.heap.size + 1, 3, none⟩ = some (.slice al2 ln2 cl2) := cell_at hCy3 3
  have y4 : (w2.alloc (.cells #[.int .i64 q1, .int .i64 lv1, .string si1, .slice al1 ln1 cl1, .slice as1 sn1 cs1, .slice ak1 kn1 ck1] 32)).cell? ⟨w.heap.size + 1, 4, none⟩ = some (.slice as2 sn2 cs2) := cell_at hCy3 4
  have y5 : (w2.alloc (.cells #[.int .i64 q1, .int .i64 lv1, .string si1, .slice al1 ln1 cl1, .slice as1 sn1 cs1, .slice ak1 kn1 ck1] 32)).cell? ⟨w.heap.size + 1, 5, none⟩ = some (.slice ak2 kn2 ck2) := cell_at hCy3 5
  have TX := LX.out w2 HB2.out
  have HB3 := HB2.out.trans (bx.mono HB2.out.size)
  have TY := LY.out _ HB3
  have by' : Below (w2.alloc (.cells #[.int .i64 q1, .int .i64 lv1, .string si1, .slice al1 ln1 cl1, .slice as1 sn1 cs1, .slice ak1 kn1 ck1] 32)).heap.size (w2.alloc (.cells #[.int .i64 q1, .int .i64 lv1, .string si1, .slice al1 ln1 cl1, .slice as1 sn1 cs1, .slice ak1 kn1 ck1] 32)) ((w2.alloc (.cells #[.int .i64 q1, .int .i64 lv1, .string si1, .slice al1 ln1 cl1, .slice as1 sn1 cs1, .slice ak1 kn1 ck1] 32)).alloc (.cells #[.int .i64 q2, .int .i64 lv2, .string si2, .slice al2 ln2 cl2, .slice as2 sn2 cs2, .slice ak2 kn2 ck2] 32)) := (Below.refl _ _).alloc (Nat.le_refl _) _
  have e1 : (w2.alloc (.cells #[.int .i64 q1, .int .i64 lv1, .string si1, .slice al1 ln1 cl1, .slice as1 sn1 cs1, .slice ak1 kn1 ck1] 32)).heap.size = w2.heap.size + 1 := by simp
  have HS := HSm.out _ _ _ (TX.below by') TY
  rw [e1] at HS
  have HS' := Lib.hid HS
  have HB4 := Lib.hid (HB3.trans (by'.mono HB3.size))
  have HCx4 := Lib.hid ((Keep.of_below (S := fun _ => False) by').at ((Keep.of_below (S := fun _ => False) bx).at HCx.out (fun h => h)) (fun h => h))
  have HCy4 := Lib.hid ((Keep.of_below (S := fun _ => False) by').at hCy3 (fun h => h))
  clear HS TX TY by' bx hCy3 HB3 e1 LX LY HSm HB2 HCx HCy
  go_wp2_with fail
  refine HS'.out.mono ?_
  rintro e w5 ⟨rfl, b5⟩
  have hCx5 := (Keep.of_below (S := fun _ => False) b5).at HCx4.out (fun h => h)
  have hCy5 := (Keep.of_below (S := fun _ => False) b5).at HCy4.out (fun h => h)
  have HB5 := Lib.hid (HB4.out.trans (b5.mono HB4.out.size))
  clear x0 x1 x2 x3 x4 x5 y0 y1 y2 y3 y4 y5 b5 HS' HB4 HCx4 HCy4
  cases sm with
  | true =>
    have HR : Hid (A = 1000) := HAl
    clear hCx5 hCy5 PX PY HId HDc HAl
    go_wp2_with fail
    go_ret
    exact ⟨ret_int (by rw [HR.out]; rfl), HB5.out⟩
  | false =>
    have x0 : w5.cell? ⟨w.heap.size, 0, none⟩ = some (.int .i64 q1) := cell_at hCx5 0
    have x1 : w5.cell? ⟨w.heap.size, 1, none⟩ = some (.int .i64 lv1) := cell_at hCx5 1
    have x2 : w5.cell? ⟨w.heap.size, 2, none⟩ = some (.string si1) := cell_at hCx5 2
    have x3 : w5.cell? ⟨w.heap.size, 3, none⟩ = some (.slice al1 ln1 cl1) := cell_at hCx5 3
    have x4 : w5.cell? ⟨w.heap.size, 4, none⟩ = some (.slice as1 sn1 cs1) := cell_at hCx5 4
    have x5 : w5.cell? ⟨w.heap.size, 5, none⟩ = some (.slice ak1 kn1 ck1) := cell_at hCx5 5
    have y0 : w5.cell? ⟨w.heap.size + 1, 0, none⟩ = some (.int .i64 q2) := cell_at hCy5 0
    have y1 : w5.cell? ⟨w.heap.size + 1, 1, none⟩ = some (.int .i64 lv2) := cell_at hCy5 1
    have y2 : w5.cell? ⟨w.heap.size + 1, 2, none⟩ = some (.string si2) := cell_at hCy5 2
    have y3 : w5.cell? ⟨w.heap.size + 1, 3, none⟩ = some (.slice al2 ln2 cl2) := cell_at hCy5 3
    have y4 : w5.cell? ⟨w.heap.size + 1, 4, none⟩ = some (.slice as2 sn2 cs2) := cell_at hCy5 4
    have y5 : w5.cell? ⟨w.heap.size + 1, 5, none⟩ = some (.slice ak2 kn2 ck2) := cell_at hCy5 5
    by_cases hq : q1 = q2
    · subst hq
      have HR : Hid (A = min 999 (Lc.dice i1 i2)) := Lib.hid (by
        have h := HAl.out
        rw [if_neg (by simp), if_neg (by simp)] at h
        exact h)
      clear HAl
      have HCy5 := Lib.hid hCy5
      clear hCx5 hCy5
      go_upto_region 5 with fail
      go_region_with (first
        | (go_at_call 16
           refine calls_at (args := #[.agg #[.int .i64 q1, .int .i64 lv1, .string si1, .slice al1 ln1 cl1, .slice as1 sn1 cs1, .slice ak1 kn1 ck1]]) rfl (PX.out _ (by first | exact HB5.out.drew | exact HB5.out)) ?_
           rintro e wA ⟨va, rfl, ra, ba⟩
           obtain ⟨aA, cA, rfl⟩ := ra.len
           have hCyA := (Keep.of_below (S := fun _ => False) ba).at (by first | exact HCy5.out) (fun h => h)
           have z0 := cell_at hCyA 0
           have z1 := cell_at hCyA 1
           have z2 := cell_at hCyA 2
           have z3 := cell_at hCyA 3
           have z4 := cell_at hCyA 4
           have z5 := cell_at hCyA 5)
        | (go_at_call 16
           refine calls_at (args := #[.agg #[.int .i64 q1, .int .i64 lv2, .string si2, .slice al2 ln2 cl2, .slice as2 sn2 cs2, .slice ak2 kn2 ck2]]) rfl (PY.out _ (HB5.out.drew.trans (ba.mono HB5.out.drew.size))) ?_
           rintro e wB ⟨vb, rfl, rb, bb⟩
           obtain ⟨aB, cB, rfl⟩ := rb.len)
        | (go_at_call 15
           refine (HId.out _ _ _ (ra.below bb) rb).mono ?_
           rintro e wC ⟨vi, rfl, ri, bi⟩))
      all_goals (
        obtain ⟨bo, oo, co, a0, c0, a1, c1, rfl, hlo, q0, r0, q1', r1⟩ := rdj_two (rdj_of ri)
        have hb6 := (HB5.out.drew.trans (ba.mono HB5.out.drew.size)).trans (bb.mono (HB5.out.drew.trans (ba.mono HB5.out.drew.size)).size)
        have HB6 := Lib.hid ((hb6.alloc hb6.size _).trans (bi.mono (by simp; have := hb6.size; omega)))
        have HDw := Lib.hid (fun n => HDc.out _ _ (wC.drewN n) (rdi_drew r0 n) (rdi_drew r1 n))
        clear ra rb ba bb bi ri r0 r1 hb6 z0 z1 z2 z3 z4 z5 hCyA x0 x1 x2 x3 x4 x5 y0 y1 y2 y3 y4 y5 HCy5 HB5 PX PY HId HDc
        have hdd : (0 : Int) ≤ (Lc.dice i1 i2 : Int) := by omega
        generalize Lc.dice i1 i2 = d at *
        generalize i1.length = m1 at *
        generalize i2.length = m2 at *
        go_upto_region 6 with fail
        go_region_with (go_at_call 17; refine (HDw.out _).mono ?_; rintro e w9 ⟨rfl, b9⟩)
        all_goals (
          have HB9 := Lib.hid (HB6.out.trans ((of_drewN b9).mono HB6.out.size))
          clear b9 HB6 HDw q0 q1'
          go_wp2_with fail
          go_ret
          refine ⟨ret_int ?_, HB9.out⟩
          rw [HR.out]
          omega))
    · have HR : Hid (A = 0) := Lib.hid (by
        have h := HAl.out
        rw [if_neg (by simp), if_pos hq] at h
        exact h)
      have g1 : (q1 != q2) = true := by rw [bne_iff_ne]; exact hq
      clear hCx5 hCy5 PX PY HId HDc HAl
      go_wp2_with fail
      go_ret
      exact ⟨ret_int (by rw [HR.out]; rfl), HB5.out⟩
theorem told15 : Told15 := ⟨fun x v w hv hT ht hf => keyP_any x v w hT hv ht hf, fun x y vx vy w hx hy hT h1 h2 f1 f2 => alikeP_any x y vx vy w hx hy hT h1 h2 f1 f2⟩
end Go.Proofs.YtldllbmbcnipoabGreatDoor.Nm

namespace Go.Proofs.YtldllbmbcnipoabGreatDoor.Ln
set_option linter.unusedVariables false
def S (l : List UInt8) : ByteArray := ⟨l.toArray⟩
theorem S_list (l : List UInt8) : (S l).data.toList = l := by simp [S]
theorem S_toList (l : List UInt8) : (S l).toList = l := by rw [Lib.toList_data, S_list]
theorem S_of (s : ByteArray) : S s.data.toList = s := by
  apply ByteArray.ext
  simp [S]
theorem drop_cons (l : List UInt8) (k : Nat) (h : k < l.length) : l.drop k = l[k] :: l.drop (k + 1) := List.drop_eq_getElem_cons h
def run (c : UInt8) : List UInt8 → Nat
  | [] => 0
  | b :: r => if b = c then run c r + 1 else 0
theorem run_le (c : UInt8) : ∀ l, run c l ≤ l.length
  | [] => Nat.le_refl _
  | b :: r => by
    have := run_le c r
    unfold run
    split <;> simp <;> omega
theorem run_yes {c b : UInt8} (h : b = c) (r : List UInt8) : run c (b :: r) = run c r + 1 := if_pos h
theorem run_no {c b : UInt8} (h : b ≠ c) (r : List UInt8) : run c (b :: r) = 0 := if_neg h
def mx (c : UInt8) : List UInt8 → Nat
  | [] => 0
  | b :: r => max (run c (b :: r)) (mx c r)
theorem run_le_mx (c : UInt8) : ∀ l, run c l ≤ mx c l
  | [] => Nat.le_refl _
  | b :: r => Nat.le_max_left _ _
theorem mx_le (c : UInt8) : ∀ l, mx c l ≤ l.length
  | [] => Nat.le_refl _
  | b :: r => by
    have h1 := mx_le c r
    have h2 := run_le c (b :: r)
    show max _ _ ≤ _
    simp only [List.length_cons] at h2 ⊢
    omega
def lg (c : UInt8) (m n : Nat) : List UInt8 → Nat
  | [] => m
  | b :: r => if b = c then lg c (max m (n + 1)) (n + 1) r else lg c m 0 r
theorem lg_eq (c : UInt8) : ∀ (l : List UInt8) (m n : Nat), n ≤ m → lg c m n l = max m (max (n + run c l) (mx c l))
  | [], m, n, h => by
    show m = max m (max (n + 0) 0)
    omega
  | b :: r, m, n, h => by
    have h0 := run_le_mx c r
    unfold lg
    by_cases e : b = c
    · rw [if_pos e, lg_eq c r _ _ (Nat.le_max_right _ _), run_yes e]
      show _ = max m (max _ (max (run c (b :: r)) (mx c r)))
      rw [run_yes e]
      omega
    · rw [if_neg e, lg_eq c r _ _ (Nat.zero_le _), run_no e]
      show _ = max m (max _ (max (run c (b :: r)) (mx c r)))
      rw [run_no e]
      omega
theorem lg_mx (c : UInt8) (l : List UInt8) : lg c 0 0 l = mx c l := by
  have := run_le_mx c l
  rw [lg_eq c l 0 0 (Nat.le_refl _)]
  omega
theorem lg_yes {c b : UInt8} (h : b = c) (m n : Nat) (r : List UInt8) : lg c m n (b :: r) = lg c (max m (n + 1)) (n + 1) r := if_pos h
theorem lg_no {c b : UInt8} (h : b ≠ c) (m n : Nat) (r : List UInt8) : lg c m n (b :: r) = lg c m 0 r := if_neg h
theorem mx_zero (c : UInt8) : ∀ l, mx c l = 0 → c ∉ l
  | [], _ => by simp
  | b :: r, h => by
    have h1 : max (run c (b :: r)) (mx c r) = 0 := h
    have h2 := mx_zero c r (by omega)
    have h3 : b ≠ c := fun e => by rw [run_yes e] at h1; omega
    intro hm
    rcases List.mem_cons.1 hm with rfl | hm
    · exact h3 rfl
    · exact h2 hm
theorem mx_none (c : UInt8) : ∀ l, c ∉ l → mx c l = 0
  | [], _ => rfl
  | b :: r, h => by
    have h2 := mx_none c r (fun hm => h (List.mem_cons_of_mem _ hm))
    have h3 : b ≠ c := fun e => h (by rw [e]; exact List.mem_cons_self ..)
    show max (run c (b :: r)) (mx c r) = 0
    rw [run_no h3, h2]
    rfl
def gapB (b : UInt8) : Bool := b == 32 || b == 9
def dl (l : List UInt8) : List UInt8 := l.dropWhile gapB
def dr (l : List UInt8) : List UInt8 := (l.reverse.dropWhile gapB).reverse
def trim (l : List UInt8) : List UInt8 := dl (dr l)
theorem trimS_eq (l : List UInt8) : Lib.trimS l [32, 9] = trim l := by
  have h : (fun b : UInt8 => [32, 9].contains b) = gapB := by
    funext b
    show (b == 32 || (b == 9 || false)) = _
    rw [Bool.or_false]; rfl
  unfold Lib.trimS Lib.trimLeftS Lib.trimRightS trim dl dr
  rw [h]
theorem dl_yes {b : UInt8} (h : gapB b = true) (r : List UInt8) : dl (b :: r) = dl r := by unfold dl; rw [List.dropWhile_cons_of_pos h]
theorem dl_no {b : UInt8} (h : gapB b = false) (r : List UInt8) : dl (b :: r) = b :: r := by unfold dl; rw [List.dropWhile_cons_of_neg (by simp [h])]
theorem dr_cons (b : UInt8) (r : List UInt8) : dr (b :: r) = if dr r = [] then (if gapB b then [] else [b]) else b :: dr r := by
  unfold dr
  rw [List.reverse_cons, List.dropWhile_append]
  by_cases h : (r.reverse.dropWhile gapB).isEmpty = true
  · rw [if_pos h, if_pos (by rw [List.isEmpty_iff.1 h]; rfl)]
    cases hg : gapB b with
    | true => rw [List.dropWhile_cons_of_pos hg]; rfl
    | false => rw [List.dropWhile_cons_of_neg (by simp [hg])]; rfl
  · rw [if_neg h, if_neg (by simpa using h)]
    simp
theorem dr_dl : ∀ l : List UInt8, dr (dl l) = dl (dr l)
  | [] => rfl
  | b :: r => by
    have ih := dr_dl r
    cases h : gapB b with
    | true =>
      rw [dl_yes h, ih, dr_cons, h]
      by_cases e : dr r = []
      · rw [if_pos e, e]; rfl
      · rw [if_neg e, dl_yes h]
    | false =>
      rw [dl_no h, dr_cons, h]
      by_cases e : dr r = []
      · rw [if_pos e]; simp [dl_no h]
      · rw [if_neg e, dl_no h]
theorem dl_head : ∀ (l : List UInt8) (b : UInt8), (dl l).head? = some b → gapB b = false
  | [], b, h => by simp [dl] at h
  | x :: r, b, h => by
    cases hx : gapB x with
    | true => rw [dl_yes hx] at h; exact dl_head r b h
    | false => rw [dl_no hx] at h; simp at h; rw [← h]; exact hx
theorem dr_last (l : List UInt8) (b : UInt8) (h : (dr l).getLast? = some b) : gapB b = false := by
  unfold dr at h
  rw [List.getLast?_reverse] at h
  exact dl_head l.reverse b h
theorem dl_fix (l : List UInt8) (h : ∀ b, l.head? = some b → gapB b = false) : dl l = l := by
  cases l with
  | nil => rfl
  | cons b r => exact dl_no (h b rfl) r
theorem dr_fix (l : List UInt8) (h : ∀ b, l.getLast? = some b → gapB b = false) : dr l = l := by
  unfold dr
  have := dl_fix l.reverse (fun b hb => h b (by rw [List.head?_reverse] at hb; exact hb))
  unfold dl at this
  rw [this, List.reverse_reverse]
theorem trim_head (l : List UInt8) (b : UInt8) (h : (trim l).head? = some b) : gapB b = false := dl_head _ b h
theorem trim_last (l : List UInt8) (b : UInt8) (h : (trim l).getLast? = some b) : gapB b = false := by
  unfold trim at h
  rw [← dr_dl] at h
  exact dr_last _ b h
def strip (l : List UInt8) : List UInt8 := if l.getLast? = some 13 then l.dropLast else l
def ls : List UInt8 → List UInt8 → List (List UInt8) × Bool
  | cur, [] => if cur = [] then ([], true) else ([cur], false)
  | cur, b :: r =>
    if b = 10 then (strip cur :: (ls [] r).1, (ls [] r).2)
    else if b = 13 ∧ r.head? ≠ some 10 then (cur :: (ls [] r).1, (ls [] r).2)
    else ls (cur ++ [b]) r
def split (l : List UInt8) : List (List UInt8) × Bool := ls [] l
theorem ls_lf (cur r : List UInt8) : ls cur (10 :: r) = (strip cur :: (ls [] r).1, (ls [] r).2) := by rw [ls, if_pos rfl]
theorem ls_cr (cur r : List UInt8) (h : r.head? ≠ some 10) : ls cur (13 :: r) = (cur :: (ls [] r).1, (ls [] r).2) := by rw [ls, if_neg (by decide), if_pos ⟨rfl, h⟩]
theorem ls_crlf (cur r : List UInt8) : ls cur (13 :: 10 :: r) = ls (cur ++ [13]) (10 :: r) := by
  rw [ls, if_neg (by decide), if_neg (by simp)]
theorem ls_on (cur : List UInt8) (b : UInt8) (r : List UInt8) (h1 : b ≠ 10) (h2 : b ≠ 13) : ls cur (b :: r) = ls (cur ++ [b]) r := by
  rw [ls, if_neg h1, if_neg (fun h => h2 h.1)]
theorem strip_snoc (cur : List UInt8) : strip (cur ++ [13]) = cur := by simp [strip]
theorem strip_id (cur : List UInt8) (h : (13 : UInt8) ∉ cur) : strip cur = cur := by
  unfold strip
  rw [if_neg (fun e => h (List.mem_of_getLast? e))]
theorem ls_run (r : List UInt8) : ∀ (x cur : List UInt8), (10 : UInt8) ∉ x → (13 : UInt8) ∉ x → ls cur (x ++ r) = ls (cur ++ x) r
  | [], cur, _, _ => by simp
  | b :: x, cur, h1, h2 => by
    rw [List.cons_append, ls_on _ _ _ (fun e => h1 (by simp [e])) (fun e => h2 (by simp [e])), ls_run r x _ (fun h => h1 (List.mem_cons_of_mem _ h)) (fun h => h2 (List.mem_cons_of_mem _ h)), List.append_assoc]
    rfl
def jn : List (List UInt8) → Bool → List UInt8
  | [], _ => []
  | [x], e => if e then x ++ [10] else x
  | x :: y :: r, e => x ++ 10 :: jn (y :: r) e
theorem jn_cons2 (x y : List UInt8) (r : List (List UInt8)) (e : Bool) : jn (x :: y :: r) e = x ++ 10 :: jn (y :: r) e := rfl
theorem jn_false : ∀ l, jn l false = Lib.join l [10]
  | [] => by simp [jn, Lib.join, List.intercalate]
  | [x] => by simp [jn, Lib.join, List.intercalate]
  | x :: y :: r => by
    rw [jn_cons2, jn_false (y :: r)]
    simp [Lib.join, List.intercalate]
theorem jn_true : ∀ l, l ≠ [] → jn l true = jn l false ++ [10]
  | [], h => absurd rfl h
  | [x], _ => by simp [jn]
  | x :: y :: r, _ => by
    rw [jn_cons2, jn_cons2, jn_true (y :: r) (by simp)]
    simp
theorem split_jn_true : ∀ l, (∀ x ∈ l, (10 : UInt8) ∉ x ∧ (13 : UInt8) ∉ x) → split (jn l true) = (l, true)
  | [], _ => by simp [split, jn, ls]
  | [x], h => by
    obtain ⟨h1, h2⟩ := h x (by simp)
    show ls [] (x ++ 10 :: []) = _
    rw [ls_run _ x [] h1 h2, ls_lf, List.nil_append, strip_id x h2]
    simp [ls]
  | x :: y :: r, h => by
    obtain ⟨h1, h2⟩ := h x (by simp)
    have ih : ls [] (jn (y :: r) true) = _ := split_jn_true (y :: r) (fun z hz => h z (List.mem_cons_of_mem _ hz))
    show ls [] (x ++ 10 :: jn (y :: r) true) = _
    rw [ls_run _ x [] h1 h2, ls_lf, List.nil_append, strip_id x h2, ih]
end Go.Proofs.YtldllbmbcnipoabGreatDoor.Ln
