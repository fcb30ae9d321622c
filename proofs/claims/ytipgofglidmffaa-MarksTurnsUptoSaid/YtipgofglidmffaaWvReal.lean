/-
  CONTRACT of weave's Chunks.
-/
import Derived.Test.YtipgofglidmffaaWvRun
import Derived.Test.YtipgofglidmffaaWvChunks
import Derived.Test.YtipgofglidmffaaLpPackC
namespace Go.Proofs.Ytipgofglidmffaa.Wv
open Go.RowKit Go.Proofs.Ytipgofglidmffaa.Cm Go.Proofs.Ytipgofglidmffaa.Lc
set_option linter.unusedVariables false

theorem first_next {B O T : List Int} {k q : Nat → Option Nat} (K : Keeps B O k) {x : Nat} {S : List Spot} (h : Stb k q x S) (hx : x ≤ B.length) :
    ∃ fx fy fz, S.head?.getD ⟨B.length, O.length, T.length⟩ = ⟨fx, fy, fz⟩ ∧ next B k q x = fx ∧ nextO B O k fx = fy ∧ nextO B T q fx = fz ∧ Stb k q fx S := by
  cases S with
  | nil =>
    refine ⟨_, _, _, rfl, next_nil h hx, by unfold nextO; rw [if_neg (by omega)], by unfold nextO; rw [if_neg (by omega)], ⟨fun s => ⟨fun hs => (by cases hs), fun hs => (h.mem s).2 ⟨by omega, hs.2⟩⟩, h.up⟩⟩
  | cons s S =>
    obtain ⟨h1, h2, h3, _⟩ := next_cons (O := O) (T := T) K h
    exact ⟨s.b, s.o, s.t, rfl, h1, h2, h3, h.head⟩
/-- Seven cells, one after another. -/
def set7 (w : World) (C : Nat) (a b c d e f g : Value) : World :=
  ((((((w.setCell ⟨C, 0, none⟩ a).setCell ⟨C, 1, none⟩ b).setCell ⟨C, 2, none⟩ c).setCell ⟨C, 3, none⟩ d).setCell ⟨C, 4, none⟩ e).setCell ⟨C, 5, none⟩ f).setCell ⟨C, 6, none⟩ g
theorem set7_at {w : World} {C : Nat} {u0 u1 u2 u3 u4 u5 u6 : Value} {T : TypeId} (h : w.heap[C]? = some (.cells #[u0, u1, u2, u3, u4, u5, u6] T (0, 0))) (a b c d e f g : Value) : (set7 w C a b c d e f g).heap[C]? = some (.cells #[a, b, c, d, e, f, g] T (0, 0)) := by
  have h0 : (w.setCell ⟨C, 0, none⟩ a).heap[C]? = some (.cells #[a, u1, u2, u3, u4, u5, u6] T (0, 0)) := by simpa using set_at h 0 a
  have h1 : ((w.setCell ⟨C, 0, none⟩ a).setCell ⟨C, 1, none⟩ b).heap[C]? = some (.cells #[a, b, u2, u3, u4, u5, u6] T (0, 0)) := by simpa using set_at h0 1 b
  have h2 : (((w.setCell ⟨C, 0, none⟩ a).setCell ⟨C, 1, none⟩ b).setCell ⟨C, 2, none⟩ c).heap[C]? = some (.cells #[a, b, c, u3, u4, u5, u6] T (0, 0)) := by simpa using set_at h1 2 c
  have h3 : ((((w.setCell ⟨C, 0, none⟩ a).setCell ⟨C, 1, none⟩ b).setCell ⟨C, 2, none⟩ c).setCell ⟨C, 3, none⟩ d).heap[C]? = some (.cells #[a, b, c, d, u4, u5, u6] T (0, 0)) := by simpa using set_at h2 3 d
  have h4 : (((((w.setCell ⟨C, 0, none⟩ a).setCell ⟨C, 1, none⟩ b).setCell ⟨C, 2, none⟩ c).setCell ⟨C, 3, none⟩ d).setCell ⟨C, 4, none⟩ e).heap[C]? = some (.cells #[a, b, c, d, e, u5, u6] T (0, 0)) := by simpa using set_at h3 4 e
  have h5 : ((((((w.setCell ⟨C, 0, none⟩ a).setCell ⟨C, 1, none⟩ b).setCell ⟨C, 2, none⟩ c).setCell ⟨C, 3, none⟩ d).setCell ⟨C, 4, none⟩ e).setCell ⟨C, 5, none⟩ f).heap[C]? = some (.cells #[a, b, c, d, e, f, u6] T (0, 0)) := by simpa using set_at h4 5 f
  have h6 : (((((((w.setCell ⟨C, 0, none⟩ a).setCell ⟨C, 1, none⟩ b).setCell ⟨C, 2, none⟩ c).setCell ⟨C, 3, none⟩ d).setCell ⟨C, 4, none⟩ e).setCell ⟨C, 5, none⟩ f).setCell ⟨C, 6, none⟩ g).heap[C]? = some (.cells #[a, b, c, d, e, f, g] T (0, 0)) := by simpa using set_at h5 6 g
  exact h6
theorem set7_keep {w0 w : World} {C : Nat} (a b c d e f g : Value) {S : Nat → Prop} (h : Keep S w0 w) (hC : S C ∨ w0.heap.size ≤ C) : Keep S w0 (set7 w C a b c d e f g) :=
  ((((((h.setCell (p := ⟨C, 0, none⟩) hC a).setCell (p := ⟨C, 1, none⟩) hC b).setCell (p := ⟨C, 2, none⟩) hC c).setCell (p := ⟨C, 3, none⟩) hC d).setCell (p := ⟨C, 4, none⟩) hC e).setCell (p := ⟨C, 5, none⟩) hC f).setCell (p := ⟨C, 6, none⟩) hC g
theorem set7_other {w : World} {C P : Nat} {o : Obj} (a b c d e f g : Value) (h : w.heap[P]? = some o) (hne : P ≠ C) : (set7 w C a b c d e f g).heap[P]? = some o :=
  set_other (set_other (set_other (set_other (set_other (set_other (set_other h hne) hne) hne) hne) hne) hne) hne
/-- Three boxes. -/
structure Bxs (w : World) (a b c : Nat) (u v x : Value) (T : TypeId) : Prop where
  one : w.heap[a]? = some (.cells #[u] T (0, 0))
  two : w.heap[b]? = some (.cells #[v] T (0, 0))
  three : w.heap[c]? = some (.cells #[x] T (0, 0))
theorem Bxs.new (w : World) (u v x : Value) (T : TypeId) : Bxs (((w.alloc (.cells #[u] T)).alloc (.cells #[v] T)).alloc (.cells #[x] T)) w.heap.size (w.heap.size + 1) (w.heap.size + 1 + 1) u v x T where
  one := alloc_at (alloc_at (alloc_new w _) _) _
  two := by
    have := alloc_new (w.alloc (.cells #[u] T)) (.cells #[v] T)
    rw [World.size_alloc] at this
    exact alloc_at this _
  three := by
    have := alloc_new ((w.alloc (.cells #[u] T)).alloc (.cells #[v] T)) (.cells #[x] T)
    rw [World.size_alloc, World.size_alloc] at this
    exact this
theorem Bxs.keep {w w' : World} {a b c : Nat} {u v x : Value} {T : TypeId} (h : Bxs w a b c u v x T) (k : Keep (fun _ => False) w w') : Bxs w' a b c u v x T :=
  ⟨k.at h.one (fun e => e), k.at h.two (fun e => e), k.at h.three (fun e => e)⟩
theorem Bxs.cells {w : World} {a b c : Nat} {u v x : Value} {T : TypeId} (h : Bxs w a b c u v x T) : w.cell? ⟨a, 0, none⟩ = some u ∧ w.cell? ⟨b, 0, none⟩ = some v ∧ w.cell? ⟨c, 0, none⟩ = some x :=
  ⟨cell_at h.one 0, cell_at h.two 0, cell_at h.three 0⟩

set_option maxHeartbeats 6400000 in
set_option maxRecDepth 100000 in
theorem wchunks_any (va vb vc : Value) (B O T : List Int) (w : World) (hB : Rz w va B) (hO : Rz w vb O) (hT : Rz w vc T) (lB : B.length ≤ 8000) (lO : O.length ≤ 8000) (lT : T.length ≤ 8000) :
    Calls Try.prog 23 #[va, vb, vc] w fun e w' => ∃ v, e = .returned v ∧ Rk 7 encC w' v (chunks B O T) ∧ Below w.heap.size w w' := by
  have HB := Lib.hid hB
  have HO := Lib.hid hO
  have HT := Lib.hid hT
  obtain ⟨i0, hi, hz0, hz1, hz2⟩ := info_parts (show (Try.prog.info? 60).map (fun i => (i.zero, i.size, i.bytes)) = some (some (.agg #[.int .i64 0, .int .i64 0, .int .i64 0, .int .i64 0, .int .i64 0, .int .i64 0, .int .i64 0]), 7, 56) by kernel_rfl)
  have K := keeps_pairs B O
  have Q := keeps_pairs B T
  have hcl := chunks_len B O T
  have S0 := Lib.hid (Left.start B O T)
  have ST0 := Lib.hid (stb_start B O T)
  have lp : (pairs B O).length ≤ 8000 := by rw [pairs_len]; exact Nat.le_trans (lcs_le_left _ _) lB
  have lq : (pairs B T).length ≤ 8000 := by rw [pairs_len]; exact Nat.le_trans (lcs_le_left _ _) lB
  have lS : (spots (pairs B O) (pairs B T)).length ≤ 8000 := Nat.le_trans (spots_len _ _ _ (Nat.le_refl _)) lp
  obtain ⟨aoB, cB, rfl⟩ := hB.len
  obtain ⟨aoO, cO, rfl⟩ := hO.len
  obtain ⟨aoT, cT, rfl⟩ := hT.len
  clear hB hO hT
  go_enter Try.func23, Try.ntmps23
  go_upto_region 2 with fail
  have HX := Lib.hid (Bxs.new w (.slice aoB B.length cB) (.slice aoO O.length cO) (.slice aoT T.length cT) 56)
  have HK1 := Lib.hid ((((Keep.refl (fun _ => False) w).alloc (.cells #[.slice aoB B.length cB] 56)).alloc (.cells #[.slice aoO O.length cO] 56)).alloc (.cells #[.slice aoT T.length cT] 56))
  generalize ((w.alloc (.cells #[.slice aoB B.length cB] 56)).alloc (.cells #[.slice aoO O.length cO] 56)).alloc (.cells #[.slice aoT T.length cT] 56) = w1 at *
  have HBl : Hid (∀ w', Keep (fun _ => False) w1 w' → Below w.heap.size w w') := Lib.hid (fun w' h => (HK1.out.trans h).below (fun _ e => e.elim) (Nat.le_refl _))
  go_cut [8] from 15 (fun s wx => Hid (Rk 3 encS wx s (spots (pairs B O) (pairs B T))) ∧ Hid (Keep (fun _ => False) w1 wx))
  case first =>
    have HS := Lib.hid (fun w' (h : Keep (fun _ => False) w1 w') => (HX.out.keep h).cells)
    have P1 := Lib.hid (fun w' (h : Keep (fun _ => False) w1 w') => Go.Proofs.Ytipgofglidmffaa.Lp.pairs_any _ _ B O w' (HB.out.below (HBl.out w' h)) (HO.out.below (HBl.out w' h)) lB lO)
    have P2 := Lib.hid (fun w' (h : Keep (fun _ => False) w1 w') => Go.Proofs.Ytipgofglidmffaa.Lp.pairs_any _ _ B T w' (HB.out.below (HBl.out w' h)) (HT.out.below (HBl.out w' h)) lB lT)
    have hx1 := lt_of_at HX.out.one
    have hx2 := lt_of_at HX.out.two
    have hx3 := lt_of_at HX.out.three
    obtain ⟨k1, k2, k3⟩ := HX.out.cells
    go_region_held3 (fun w' => w'.cell? ⟨w.heap.size, 0, none⟩ = some (.slice aoB B.length cB) ∧ w'.cell? ⟨w.heap.size + 1, 0, none⟩ = some (.slice aoO O.length cO) ∧ w'.cell? ⟨w.heap.size + 1 + 1, 0, none⟩ = some (.slice aoT T.length cT))
      (first
        | (exact ⟨k1, k2, k3⟩)
        | (exact HS.out _ (Keep.refl _ _))
        | (exact HS.out _ (Keep.refl _ _).drew)
        | (exact HS.out _ ((Keep.refl _ _).drewN _))
        | (exact HS.out _ HK4.out)
        | (exact HS.out _ HK4.out.drew)
        | (exact HS.out _ HK5.out)
        | (exact HS.out _ HK5.out.drew)
        | (exact HS.out _ HK6.out)
        | (exact HS.out _ HK6.out.drew))
      (first
        | (go_at_call 35
           refine calls_at (args := #[.slice aoB B.length cB, .slice aoO O.length cO]) rfl (P1.out _ (by first | exact (Keep.refl _ _) | exact (Keep.refl _ _).drew | exact (Keep.refl _ _).drewN _)) ?_
           rintro e w4 ⟨v4, rfl, r4, b4⟩
           have HK4 := Lib.hid (Keep.trans (a := w1) (S := fun _ => False) (by first | exact (Keep.refl _ _) | exact (Keep.refl _ _).drew | exact (Keep.refl _ _).drewN _) (Keep.of_below b4))
           have R4 := Lib.hid r4
           clear r4 b4)
        | (go_at_call 35
           refine calls_at (args := #[.slice aoB B.length cB, .slice aoT T.length cT]) rfl (P2.out _ (by first | exact HK4.out | exact HK4.out.drew | exact HK4.out.drewN _)) ?_
           rintro e w5 ⟨v5, rfl, r5, b5⟩
           have HK45 := Lib.hid (Keep.trans (a := w4) (S := fun _ => False) (by first | exact (Keep.refl _ _) | exact (Keep.refl _ _).drew | exact (Keep.refl _ _).drewN _) (Keep.of_below b5))
           have HK5 := Lib.hid (HK4.out.trans HK45.out)
           have R5 := Lib.hid r5
           clear r5 b5)
        | (go_at_call 34
           refine calls_at (args := #[v4, v5]) rfl (stable_any v4 v5 (pairs B O) (pairs B T) _ (by first | exact R4.out.below (HK45.out.below (fun _ e => e.elim) (Nat.le_refl _)) | exact R4.out.below (HK45.out.drew.below (fun _ e => e.elim) (Nat.le_refl _))) (by first | exact R5.out | exact R5.out.below ((Keep.refl (fun _ => False) _).drew.below (fun _ e => e.elim) (Nat.le_refl _))) (by omega) (by omega)) ?_
           rintro e w6 ⟨v6, rfl, r6, b6⟩
           have HK56 := Lib.hid (Keep.trans (a := w5) (S := fun _ => False) (by first | exact (Keep.refl _ _) | exact (Keep.refl _ _).drew | exact (Keep.refl _ _).drewN _) (Keep.of_below b6))
           have HK6 := Lib.hid (HK5.out.trans HK56.out)
           have R6 := Lib.hid r6
           clear r6 b6))
    go_wp2_with fail
    go_meet
    exact ⟨R6, HK6⟩
  case rest =>
    obtain ⟨RS, HKc⟩ := hcut
    have HX2 := Lib.hid (HX.out.keep HKc.out)
    obtain ⟨k1, k2, k3⟩ := HX2.out.cells
    go_upto_block 0 with fail
    have HE0 := alloc_new wc (.cells #[.int .i64 (B.length : Int), .int .i64 (O.length : Int), .int .i64 (T.length : Int)] 76)
    have HK40 := (Keep.refl (fun _ => False) wc).alloc (.cells #[.int .i64 (B.length : Int), .int .i64 (O.length : Int), .int .i64 (T.length : Int)] 76)
    have hs : wc.heap.size + 1 = (wc.alloc (.cells #[.int .i64 (B.length : Int), .int .i64 (O.length : Int), .int .i64 (T.length : Int)] 76)).heap.size := by simp
    rw [hs]
    clear hs k1 k2 k3
    generalize wc.alloc (.cells #[.int .i64 (B.length : Int), .int .i64 (O.length : Int), .int .i64 (T.length : Int)] 76) = w4 at *
    have HX4 := Lib.hid (HX2.out.keep HK40)
    have HBl4 : Hid (∀ w', Keep (fun _ => False) w4 w' → Below w.heap.size w w') := Lib.hid (fun w' h => HBl.out w' ((HKc.out.trans HK40).trans h))
    have HE := Lib.hid HE0
    have RS4 := Lib.hid (RS.out.below (HK40.below (fun _ e => e.elim) (Nat.le_refl _)))
    have hPE : wc.heap.size < w4.heap.size := lt_of_at HE0
    have HA0 := Lib.hid (alloc_new w4 (.cells #[.int .i64 0, .int .i64 0, .int .i64 0] 76))
    have HK5 := Lib.hid ((Keep.refl (fun _ => False) w4).alloc (.cells #[.int .i64 0, .int .i64 0, .int .i64 0] 76))
    clear HE0 HK40 RS HX2 HX HBl HK1 HKc
    generalize w4.alloc (.cells #[.int .i64 0, .int .i64 0, .int .i64 0] 76) = w5 at *
    generalize wc.heap.size = PE at *
    obtain ⟨all, hall⟩ : ∃ all, chunks B O T = all := ⟨_, rfl⟩
    rw [hall] at hcl S0
    have HAll := Lib.hid hall
    clear hall lp lq
    generalize spots (pairs B O) (pairs B T) = S1 at *
    generalize kp (pairs B O) = k at *
    generalize kp (pairs B T) = q at *
    go_wp2_with fail
    go_loopw [8, 10, 11] (fun s8 s10 s11 wr => ∃ (x y z : Nat) (o : List Ch) (S : List Spot) (PA : Nat), s11 = .pointer (some ⟨PA, 0, none⟩) ∧ x ≤ B.length ∧ y ≤ O.length ∧ z ≤ T.length ∧ S.length ≤ 8000 ∧ w4.heap.size ≤ PA ∧ Hid (Rk 3 encS w4 s8 S) ∧ Hid (wr.ownsRow w4.heap.size 60 7 s10 o.length (o.flatMap encC)) ∧ Hid (Keep (fun _ => False) w4 wr) ∧ Hid (wr.heap[PA]? = some (.cells #[.int .i64 (x : Int), .int .i64 (y : Int), .int .i64 (z : Int)] 76 (0, 0))) ∧ Hid (Left B O T k q all o x y z) ∧ Hid (Stb k q x S))
      (fun _ _ s11 wr => match s11 with | .pointer (some ⟨b, _, _⟩) => rest B O T (intOf ((wr.cell? ⟨b, 0, none⟩).getD undef)).toNat (intOf ((wr.cell? ⟨b, 1, none⟩).getD undef)).toNat (intOf ((wr.cell? ⟨b, 2, none⟩).getD undef)).toNat | _ => 0)
    case atStart => exact ⟨0, 0, 0, [], S1, _, rfl, Nat.zero_le _, Nat.zero_le _, Nat.zero_le _, lS, Nat.le_refl _, RS4, Lib.hid (World.ownsRow_nil _ _ _ _), HK5, HA0, S0, ST0⟩
    case round =>
      clear S0 ST0 HA0 HK5 RS4
      obtain ⟨x, y, z, o, S, PA, rfl, hx, hy, hz, hS, hPA, RS, Ho, HKr, HA, HL, HST⟩ := hrel
      have hol : o.length ≤ 30000 := Nat.le_trans HL.out.len (by omega)
      obtain ⟨ao8, c8, rfl⟩ := RS.out.len
      obtain ⟨j, hj⟩ : ∃ j : Bool, decide (x < B.length ∨ y < O.length ∨ z < T.length) = j := ⟨_, rfl⟩
      have HJ := Lib.hid hj
      clear hj
      have HEr := Lib.hid (HKr.out.at HE.out (fun e => e))
      go_upto_region 6 with fail
      go_cut [32] from 30 to 62 (fun s wx => s = .bool j ∧ wr = wx)
      case first =>
        have a0 : wr.cell? ⟨PA, 0, none⟩ = some (.int .i64 (x : Int)) := cell_at HA.out 0
        have a1 : wr.cell? ⟨PA, 1, none⟩ = some (.int .i64 (y : Int)) := cell_at HA.out 1
        have a2 : wr.cell? ⟨PA, 2, none⟩ = some (.int .i64 (z : Int)) := cell_at HA.out 2
        have e0 : wr.cell? ⟨PE, 0, none⟩ = some (.int .i64 (B.length : Int)) := cell_at HEr.out 0
        have e1 : wr.cell? ⟨PE, 1, none⟩ = some (.int .i64 (O.length : Int)) := cell_at HEr.out 1
        have e2 : wr.cell? ⟨PE, 2, none⟩ = some (.int .i64 (T.length : Int)) := cell_at HEr.out 2
        by_cases heq : (⟨x, y, z⟩ : Spot) = ⟨B.length, O.length, T.length⟩
        · simp only [Spot.mk.injEq] at heq
          obtain ⟨h1, h2, h3⟩ := heq
          rw [h1] at a0
          rw [h2] at a1
          rw [h3] at a2
          have HF : Hid (j = false) := Lib.hid (by rw [← HJ.out, h1, h2, h3]; exact decide_eq_false (by omega))
          clear h1 h2 h3 HJ
          go_wp2_with fail
          go_meet
          exact ⟨by rw [HF.out], rfl⟩
        · have hne := spot_off heq
          simp only at hne
          have HF : Hid (j = true) := Lib.hid (by
            rw [← HJ.out]
            refine decide_eq_true ?_
            have : ¬ (x = B.length ∧ y = O.length ∧ z = T.length) := fun h => heq (by rw [h.1, h.2.1, h.2.2])
            omega)
          clear heq HJ
          rcases hne with g0 | ⟨g0, g1⟩ | ⟨g0, g1, g2⟩
          all_goals (
            go_wp2_with fail
            go_meet
            exact ⟨by rw [HF.out], rfl⟩)
      case rest =>
        obtain ⟨rfl, rfl⟩ := hcut
        rcases j with _ | _
        · have HE := Lib.hid (HL.out.done (of_decide_eq_false HJ.out))
          have HR := Lib.hid (Rk.of_own encC_len Ho.out)
          have HBE := Lib.hid (HBl4.out _ HKr.out)
          clear HL HJ
          go_wp2_with fail
          go_ret
          rw [HAll.out, HE.out]
          exact ⟨_, rfl, HR.out, HBE.out⟩
        have HR := Lib.hid (of_decide_eq_true HJ.out)
        have hrun := rn_pre K S x y z HST.out
        replace hrun : runs B k q x y z = pre S x y z := hrun
        have hpl := pre_le S x y z
        obtain ⟨n, hn⟩ : ∃ n, pre S x y z = n := ⟨_, rfl⟩
        rw [hn] at hrun hpl
        have CR := Lib.hid (fun w' h => runFrom_any (.slice ao8 S.length c8) S x y z w' h (by omega) (by omega) (by omega) (by omega))
        rw [hn] at CR
        have HN := Lib.hid hn
        have HRun := Lib.hid hrun
        clear HJ hn hrun
        have a0 : wr.cell? ⟨PA, 0, none⟩ = some (.int .i64 (x : Int)) := cell_at HA.out 0
        have a1 : wr.cell? ⟨PA, 1, none⟩ = some (.int .i64 (y : Int)) := cell_at HA.out 1
        have a2 : wr.cell? ⟨PA, 2, none⟩ = some (.int .i64 (z : Int)) := cell_at HA.out 2
        have hPAr := lt_of_at HA.out
        replace CR : Hid (∀ w', Rk 3 encS w' (.slice ao8 S.length c8) S → Calls Try.prog 36 #[.agg #[.int .i64 (x : Nat), .int .i64 (y : Nat), .int .i64 (z : Nat)], .slice ao8 S.length c8] w' fun e w'' => e = .returned (.int .i64 (n : Nat)) ∧ Below w'.heap.size w' w'') := CR
        have CR1 := Lib.hid (CR.out (wr.alloc (.cells #[.int .i64 0, .int .i64 0, .int .i64 0, .int .i64 0, .int .i64 0, .int .i64 0, .int .i64 0] 60)) (RS.out.below ((HKr.out.alloc _).below (fun _ e => e.elim) (Nat.le_refl _))))
        clear CR
        go_wp2_with fail
        refine CR1.out.mono ?_
        rintro e w7 ⟨rfl, b7⟩
        have HC7 := Lib.hid ((Keep.of_below (S := fun _ => False) b7).at (alloc_new wr _) (fun e => e))
        have HK7 := Lib.hid (((Keep.refl (fun _ => False) wr).alloc _).trans (Keep.of_below b7))
        clear b7 CR1 a0 a1 a2
        go_upto_if 37 with fail
        have HAw7 := Lib.hid (HK7.out.at HA.out (fun e => e))
        have HEw7 := Lib.hid (HK7.out.at HEr.out (fun e => e))
        have RS7 := Lib.hid (RS.out.below ((HKr.out.trans HK7.out).below (fun _ e => e.elim) (Nat.le_refl _)))
        go_cut [8] from 30 to 62 (fun s8 wx => ∃ (c : Ch) (S' : List Spot), S'.length ≤ 8000 ∧ Hid (Nxt B O T k q all o x y z c) ∧ Hid (Stb k q c.b2 S') ∧ Hid (Rk 3 encS w4 s8 S') ∧ Hid (wx.heap[wr.heap.size]? = some (.cells (encC c).toArray 60 (0, 0))) ∧ Hid (Keep (fun _ => False) wr wx))
        case first =>
          have lC := lt_of_at HC7.out
          have lPA := lt_of_at HAw7.out
          have lPE := lt_of_at HEw7.out
          have a0 : w7.cell? ⟨PA, 0, none⟩ = some (.int .i64 (x : Int)) := cell_at HAw7.out 0
          have a1 : w7.cell? ⟨PA, 1, none⟩ = some (.int .i64 (y : Int)) := cell_at HAw7.out 1
          have a2 : w7.cell? ⟨PA, 2, none⟩ = some (.int .i64 (z : Int)) := cell_at HAw7.out 2
          by_cases h0 : n = 0
          · subst h0
            obtain ⟨fx, fy, fz, hf, hf1, hf2, hf3, hfs⟩ := first_next (O := O) (T := T) K HST.out hx
            have HG := Lib.hid (HL.out.gap K Q HR.out HRun.out)
            rw [hf1, hf2, hf3] at HG
            have HFS := Lib.hid hfs
            have hl1 := HG.out.2.2.2.2.2
            have CF : Hid (∀ w', Rk 3 encS w' (.slice ao8 S.length c8) S → Calls Try.prog 39 #[.slice ao8 S.length c8, .agg #[.int .i64 (B.length : Nat), .int .i64 (O.length : Nat), .int .i64 (T.length : Nat)]] w' fun e w'' => e = .returned (.agg #[.int .i64 (fx : Nat), .int .i64 (fy : Nat), .int .i64 (fz : Nat)]) ∧ Below w'.heap.size w' w'') := Lib.hid (fun w' h => by
              have := firstOf_any (.slice ao8 S.length c8) S ⟨B.length, O.length, T.length⟩ w' h
              rw [hf] at this
              exact this)
            have CB : Hid (∀ w', Calls Try.prog 37 #[.agg #[.int .i64 (x : Nat), .int .i64 (y : Nat), .int .i64 (z : Nat)], .agg #[.int .i64 (fx : Nat), .int .i64 (fy : Nat), .int .i64 (fz : Nat)]] w' fun e w'' => e = .returned (.agg #[.int .i64 (x : Nat), .int .i64 (fx : Nat), .int .i64 (y : Nat), .int .i64 (fy : Nat), .int .i64 (z : Nat), .int .i64 (fz : Nat), .int .i64 0]) ∧ Below w'.heap.size w' w'') := Lib.hid (fun w' => between_any ⟨x, y, z⟩ ⟨fx, fy, fz⟩ w')
            rw [show decide (0 < 0) = false from rfl]
            have q0 : w7.cell? ⟨PE, 0, none⟩ = some (.int .i64 (B.length : Int)) := cell_at HEw7.out 0
            have q1 : w7.cell? ⟨PE, 1, none⟩ = some (.int .i64 (O.length : Int)) := cell_at HEw7.out 1
            have q2 : w7.cell? ⟨PE, 2, none⟩ = some (.int .i64 (T.length : Int)) := cell_at HEw7.out 2
            have HS3 : Hid (∀ w', Keep (fun _ => False) w7 w' → w'.cell? ⟨PA, 0, none⟩ = some (.int .i64 (x : Int)) ∧ w'.cell? ⟨PA, 1, none⟩ = some (.int .i64 (y : Int)) ∧ w'.cell? ⟨PA, 2, none⟩ = some (.int .i64 (z : Int)) ∧ w'.cell? ⟨PE, 0, none⟩ = some (.int .i64 (B.length : Int)) ∧ w'.cell? ⟨PE, 1, none⟩ = some (.int .i64 (O.length : Int)) ∧ w'.cell? ⟨PE, 2, none⟩ = some (.int .i64 (T.length : Int))) := Lib.hid (fun w' h => by
              have h2 := h.at HAw7.out (fun e => e)
              have h3 := h.at HEw7.out (fun e => e)
              exact ⟨cell_at h2 0, cell_at h2 1, cell_at h2 2, cell_at h3 0, cell_at h3 1, cell_at h3 2⟩)
            have hPC : PA ≠ wr.heap.size := Nat.ne_of_lt hPAr
            have hPEC : PE ≠ wr.heap.size := Nat.ne_of_lt (lt_of_at HEr.out)
            have TL : Hid (∀ w', Keep (fun _ => False) w4 w' → Calls Try.prog 31 #[.agg #[.int .i64 (x : Nat), .int .i64 (fx : Nat), .int .i64 (y : Nat), .int .i64 (fy : Nat), .int .i64 (z : Nat), .int .i64 (fz : Nat), .int .i64 (0 : Nat)], .pointer (some ⟨w.heap.size, 0, none⟩), .pointer (some ⟨w.heap.size + 1, 0, none⟩), .pointer (some ⟨w.heap.size + 1 + 1, 0, none⟩)] w' fun e w'' => e = .returned (.int .i64 (outc (part B x fx) (part O y fy) (part T z fz) : Nat)) ∧ Below w'.heap.size w' w'') := Lib.hid (fun w' h => by
              have hb := HX4.out.keep h
              have hB := HBl4.out w' h
              exact tells_any _ _ _ _ _ _ B O T x fx y fy z fz 0 w' hb.cells.1 hb.cells.2.1 hb.cells.2.2 (HB.out.below hB) (HO.out.below hB) (HT.out.below hB) (by omega) (by omega) (by omega) hl1.b hl1.b' hl1.o hl1.o' hl1.t hl1.t' (lt_of_at hb.one) (lt_of_at hb.two) (lt_of_at hb.three))
            clear hf hf1 hf2 hf3 hfs hl1
            generalize outc (part B x fx) (part O y fy) (part T z fz) = oc at *
            generalize hC : wr.heap.size = C at *
            have HCe := Lib.hid hC
            clear hC
            go_upto_region 13 with fail
            go_region_held3 (fun w' => w'.cell? ⟨PA, 0, none⟩ = some (.int .i64 (x : Int)) ∧ w'.cell? ⟨PA, 1, none⟩ = some (.int .i64 (y : Int)) ∧ w'.cell? ⟨PA, 2, none⟩ = some (.int .i64 (z : Int)) ∧ w'.cell? ⟨PE, 0, none⟩ = some (.int .i64 (B.length : Int)) ∧ w'.cell? ⟨PE, 1, none⟩ = some (.int .i64 (O.length : Int)) ∧ w'.cell? ⟨PE, 2, none⟩ = some (.int .i64 (T.length : Int)))
              (first
                | (with_reducible exact HX9.out)
                | (exact ⟨a0, a1, a2, q0, q1, q2⟩)
                | (exact HS3.out _ (Keep.refl _ _))
                | (exact HS3.out _ (Keep.refl _ _).drew)
                | (exact HS3.out _ ((Keep.refl _ _).drewN _))
                | (exact HS3.out _ HK8.out)
                | (exact HS3.out _ HK8.out.drew)
                | (exact HS3.out _ HK9.out)
                | (exact HS3.out _ HK9.out.drew))
              (first
                | (go_at_call 39
                   refine calls_at (args := #[.slice ao8 S.length c8, .agg #[.int .i64 (B.length : Nat), .int .i64 (O.length : Nat), .int .i64 (T.length : Nat)]]) rfl (CF.out _ (by first | exact RS7.out | exact RS7.out.below ((Keep.refl (fun _ => False) _).drew.below (fun _ e => e.elim) (Nat.le_refl _)))) ?_
                   rintro e w8 ⟨rfl, b8⟩
                   have HK8 := Lib.hid (Keep.trans (a := w7) (S := fun _ => False) (by first | exact (Keep.refl _ _) | exact (Keep.refl _ _).drew | exact (Keep.refl _ _).drewN _) (Keep.of_below b8))
                   clear b8)
                | (go_at_call 37
                   refine calls_at (args := #[.agg #[.int .i64 (x : Nat), .int .i64 (y : Nat), .int .i64 (z : Nat)], .agg #[.int .i64 (fx : Nat), .int .i64 (fy : Nat), .int .i64 (fz : Nat)]]) rfl (CB.out _) ?_
                   rintro e w9 ⟨rfl, b9⟩
                   have HK89 := Lib.hid (Keep.trans (a := w8) (S := fun _ => False) (by first | exact (Keep.refl _ _) | exact (Keep.refl _ _).drew | exact (Keep.refl _ _).drewN _) (Keep.of_below b9))
                   have HK9 := Lib.hid (HK8.out.trans HK89.out)
                   have hc9 := HK9.out.at HC7.out (fun e => e)
                   have f0 := frozen_at hc9 0
                   have f1 := frozen_at hc9 1
                   have f2 := frozen_at hc9 2
                   have f3 := frozen_at hc9 3
                   have f4 := frozen_at hc9 4
                   have f5 := frozen_at hc9 5
                   have f6 := frozen_at hc9 6
                   have d0 : w9.cell? ⟨C, 0, none⟩ = some (.int .i64 0) := cell_at hc9 0
                   have d1 : w9.cell? ⟨C, 1, none⟩ = some (.int .i64 0) := cell_at hc9 1
                   have d2 : w9.cell? ⟨C, 2, none⟩ = some (.int .i64 0) := cell_at hc9 2
                   have d3 : w9.cell? ⟨C, 3, none⟩ = some (.int .i64 0) := cell_at hc9 3
                   have d4 : w9.cell? ⟨C, 4, none⟩ = some (.int .i64 0) := cell_at hc9 4
                   have d5 : w9.cell? ⟨C, 5, none⟩ = some (.int .i64 0) := cell_at hc9 5
                   have d6 : w9.cell? ⟨C, 6, none⟩ = some (.int .i64 0) := cell_at hc9 6
                   have HC9 := Lib.hid hc9
                   have hp9 := set7_other (C := C) (.int .i64 (x : Int)) (.int .i64 (fx : Int)) (.int .i64 (y : Int)) (.int .i64 (fy : Int)) (.int .i64 (z : Int)) (.int .i64 (fz : Int)) (.int .i64 0) (HK9.out.at HAw7.out (fun e => e)) hPC
                   have hq9 := set7_other (C := C) (.int .i64 (x : Int)) (.int .i64 (fx : Int)) (.int .i64 (y : Int)) (.int .i64 (fy : Int)) (.int .i64 (z : Int)) (.int .i64 (fz : Int)) (.int .i64 0) (HK9.out.at HEw7.out (fun e => e)) hPEC
                   have HX9 : Hid ((((((((w9.setCell ⟨C, 0, none⟩ (.int .i64 (x : Int))).setCell ⟨C, 1, none⟩ (.int .i64 (fx : Int))).setCell ⟨C, 2, none⟩ (.int .i64 (y : Int))).setCell ⟨C, 3, none⟩ (.int .i64 (fy : Int))).setCell ⟨C, 4, none⟩ (.int .i64 (z : Int))).setCell ⟨C, 5, none⟩ (.int .i64 (fz : Int))).setCell ⟨C, 6, none⟩ (.int .i64 0)).cell? ⟨PA, 0, none⟩ = some (.int .i64 (x : Int)) ∧ (((((((w9.setCell ⟨C, 0, none⟩ (.int .i64 (x : Int))).setCell ⟨C, 1, none⟩ (.int .i64 (fx : Int))).setCell ⟨C, 2, none⟩ (.int .i64 (y : Int))).setCell ⟨C, 3, none⟩ (.int .i64 (fy : Int))).setCell ⟨C, 4, none⟩ (.int .i64 (z : Int))).setCell ⟨C, 5, none⟩ (.int .i64 (fz : Int))).setCell ⟨C, 6, none⟩ (.int .i64 0)).cell? ⟨PA, 1, none⟩ = some (.int .i64 (y : Int)) ∧ (((((((w9.setCell ⟨C, 0, none⟩ (.int .i64 (x : Int))).setCell ⟨C, 1, none⟩ (.int .i64 (fx : Int))).setCell ⟨C, 2, none⟩ (.int .i64 (y : Int))).setCell ⟨C, 3, none⟩ (.int .i64 (fy : Int))).setCell ⟨C, 4, none⟩ (.int .i64 (z : Int))).setCell ⟨C, 5, none⟩ (.int .i64 (fz : Int))).setCell ⟨C, 6, none⟩ (.int .i64 0)).cell? ⟨PA, 2, none⟩ = some (.int .i64 (z : Int)) ∧ (((((((w9.setCell ⟨C, 0, none⟩ (.int .i64 (x : Int))).setCell ⟨C, 1, none⟩ (.int .i64 (fx : Int))).setCell ⟨C, 2, none⟩ (.int .i64 (y : Int))).setCell ⟨C, 3, none⟩ (.int .i64 (fy : Int))).setCell ⟨C, 4, none⟩ (.int .i64 (z : Int))).setCell ⟨C, 5, none⟩ (.int .i64 (fz : Int))).setCell ⟨C, 6, none⟩ (.int .i64 0)).cell? ⟨PE, 0, none⟩ = some (.int .i64 (B.length : Int)) ∧ (((((((w9.setCell ⟨C, 0, none⟩ (.int .i64 (x : Int))).setCell ⟨C, 1, none⟩ (.int .i64 (fx : Int))).setCell ⟨C, 2, none⟩ (.int .i64 (y : Int))).setCell ⟨C, 3, none⟩ (.int .i64 (fy : Int))).setCell ⟨C, 4, none⟩ (.int .i64 (z : Int))).setCell ⟨C, 5, none⟩ (.int .i64 (fz : Int))).setCell ⟨C, 6, none⟩ (.int .i64 0)).cell? ⟨PE, 1, none⟩ = some (.int .i64 (O.length : Int)) ∧ (((((((w9.setCell ⟨C, 0, none⟩ (.int .i64 (x : Int))).setCell ⟨C, 1, none⟩ (.int .i64 (fx : Int))).setCell ⟨C, 2, none⟩ (.int .i64 (y : Int))).setCell ⟨C, 3, none⟩ (.int .i64 (fy : Int))).setCell ⟨C, 4, none⟩ (.int .i64 (z : Int))).setCell ⟨C, 5, none⟩ (.int .i64 (fz : Int))).setCell ⟨C, 6, none⟩ (.int .i64 0)).cell? ⟨PE, 2, none⟩ = some (.int .i64 (T.length : Int))) := Lib.hid ⟨cell_at hp9 0, cell_at hp9 1, cell_at hp9 2, cell_at hq9 0, cell_at hq9 1, cell_at hq9 2⟩
                   have HC10 : Hid ((((((((w9.setCell ⟨C, 0, none⟩ (.int .i64 (x : Int))).setCell ⟨C, 1, none⟩ (.int .i64 (fx : Int))).setCell ⟨C, 2, none⟩ (.int .i64 (y : Int))).setCell ⟨C, 3, none⟩ (.int .i64 (fy : Int))).setCell ⟨C, 4, none⟩ (.int .i64 (z : Int))).setCell ⟨C, 5, none⟩ (.int .i64 (fz : Int))).setCell ⟨C, 6, none⟩ (.int .i64 0)).heap[C]? = some (.cells #[.int .i64 (x : Int), .int .i64 (fx : Int), .int .i64 (y : Int), .int .i64 (fy : Int), .int .i64 (z : Int), .int .i64 (fz : Int), .int .i64 0] 60 (0, 0))) := Lib.hid (set7_at hc9 _ _ _ _ _ _ _)
                   have HK10 : Hid (Keep (fun _ => False) wr (((((((w9.setCell ⟨C, 0, none⟩ (.int .i64 (x : Int))).setCell ⟨C, 1, none⟩ (.int .i64 (fx : Int))).setCell ⟨C, 2, none⟩ (.int .i64 (y : Int))).setCell ⟨C, 3, none⟩ (.int .i64 (fy : Int))).setCell ⟨C, 4, none⟩ (.int .i64 (z : Int))).setCell ⟨C, 5, none⟩ (.int .i64 (fz : Int))).setCell ⟨C, 6, none⟩ (.int .i64 0))) := Lib.hid (set7_keep _ _ _ _ _ _ _ (HK7.out.trans HK9.out) (Or.inr (Nat.le_of_eq HCe.out)))
                   clear b9 hc9 hp9 hq9))
            clear HX9 HC9
            generalize (((((((w9.setCell ⟨C, 0, none⟩ (.int .i64 (x : Int))).setCell ⟨C, 1, none⟩ (.int .i64 (fx : Int))).setCell ⟨C, 2, none⟩ (.int .i64 (y : Int))).setCell ⟨C, 3, none⟩ (.int .i64 (fy : Int))).setCell ⟨C, 4, none⟩ (.int .i64 (z : Int))).setCell ⟨C, 5, none⟩ (.int .i64 (fz : Int))).setCell ⟨C, 6, none⟩ (.int .i64 0)) = w10 at *
            have lC10 := lt_of_at HC10.out
            have d0' : w10.cell? ⟨C, 0, none⟩ = some (.int .i64 (x : Int)) := cell_at HC10.out 0
            have d1' : w10.cell? ⟨C, 1, none⟩ = some (.int .i64 (fx : Int)) := cell_at HC10.out 1
            have d2' : w10.cell? ⟨C, 2, none⟩ = some (.int .i64 (y : Int)) := cell_at HC10.out 2
            have d3' : w10.cell? ⟨C, 3, none⟩ = some (.int .i64 (fy : Int)) := cell_at HC10.out 3
            have d4' : w10.cell? ⟨C, 4, none⟩ = some (.int .i64 (z : Int)) := cell_at HC10.out 4
            have d5' : w10.cell? ⟨C, 5, none⟩ = some (.int .i64 (fz : Int)) := cell_at HC10.out 5
            have d6' : w10.cell? ⟨C, 6, none⟩ = some (.int .i64 0) := cell_at HC10.out 6
            have TL1 := Lib.hid (TL.out w10 (HKr.out.trans HK10.out))
            clear f0 f1 f2 f3 f4 f5 f6 d0 d1 d2 d3 d4 d5 d6
            go_wp2_with fail
            refine calls_at (args := #[.agg #[.int .i64 (x : Nat), .int .i64 (fx : Nat), .int .i64 (y : Nat), .int .i64 (fy : Nat), .int .i64 (z : Nat), .int .i64 (fz : Nat), .int .i64 (0 : Nat)], .pointer (some ⟨w.heap.size, 0, none⟩), .pointer (some ⟨w.heap.size + 1, 0, none⟩), .pointer (some ⟨w.heap.size + 1 + 1, 0, none⟩)]) rfl TL1.out ?_
            rintro e w11 ⟨rfl, b11⟩
            have HK11 := Lib.hid (HK10.out.trans (Keep.of_below b11))
            have HC11 := Lib.hid ((Keep.of_below (S := fun _ => False) b11).at HC10.out (fun e => e))
            have e6' : w11.cell? ⟨C, 6, none⟩ = some (.int .i64 0) := cell_at HC11.out 6
            have f6' := frozen_at HC11.out 6
            have lC11 := lt_of_at HC11.out
            have HFin : Hid ((w11.setCell ⟨C, 6, none⟩ (.int .i64 (oc : Int))).heap[C]? = some (.cells #[.int .i64 (x : Int), .int .i64 (fx : Int), .int .i64 (y : Int), .int .i64 (fy : Int), .int .i64 (z : Int), .int .i64 (fz : Int), .int .i64 (oc : Int)] 60 (0, 0))) := Lib.hid (by simpa using set_at HC11.out 6 (.int .i64 (oc : Int)))
            have HKF := Lib.hid (HK11.out.setCell (p := ⟨C, 6, none⟩) (Or.inr (Nat.le_of_eq HCe.out)) (.int .i64 (oc : Int)))
            have HSF := RS
            clear HC10 HC11 b11 TL1 TL d0' d1' d2' d3' d4' d5' d6'
            go_wp2_with fail
            go_meet
            exact ⟨⟨x, fx, y, fy, z, fz, oc⟩, S, hS, HG, HFS, HSF, Lib.hid (by first | exact HFin.out | (rw [HCe.out]; exact HFin.out)), HKF⟩
          · have HG := Lib.hid (HL.out.run K Q HR.out (by rw [HRun.out]; exact h0))
            have HD := Lib.hid (Stb.drop S x y z HST.out (by rw [HN.out]; exact h0))
            rw [HRun.out] at HG
            rw [HN.out] at HD
            obtain ⟨xn, hxn⟩ : ∃ xn, x + n = xn := ⟨_, rfl⟩
            obtain ⟨yn, hyn⟩ : ∃ yn, y + n = yn := ⟨_, rfl⟩
            obtain ⟨zn, hzn⟩ : ∃ zn, z + n = zn := ⟨_, rfl⟩
            have CO : Hid (∀ w', Calls Try.prog 38 #[.agg #[.int .i64 (x : Nat), .int .i64 (y : Nat), .int .i64 (z : Nat)], .int .i64 n] w' fun e w'' => e = .returned (.agg #[.int .i64 (xn : Nat), .int .i64 (yn : Nat), .int .i64 (zn : Nat)]) ∧ Below w'.heap.size w' w'') := Lib.hid (fun w' => on_any x y z n xn yn zn w' hxn hyn hzn (by omega) (by omega) (by omega))
            rw [hxn, hyn, hzn] at HG
            rw [hxn] at HD
            have CB : Hid (∀ w', Calls Try.prog 37 #[.agg #[.int .i64 (x : Nat), .int .i64 (y : Nat), .int .i64 (z : Nat)], .agg #[.int .i64 (xn : Nat), .int .i64 (yn : Nat), .int .i64 (zn : Nat)]] w' fun e w'' => e = .returned (.agg #[.int .i64 (x : Nat), .int .i64 (xn : Nat), .int .i64 (y : Nat), .int .i64 (yn : Nat), .int .i64 (z : Nat), .int .i64 (zn : Nat), .int .i64 0]) ∧ Below w'.heap.size w' w'') := Lib.hid (fun w' => between_any ⟨x, y, z⟩ ⟨xn, yn, zn⟩ w')
            have g0 : decide (0 < n) = true := decide_eq_true (by omega)
            rw [g0]
            have HS3 : Hid (∀ w', Keep (fun _ => False) w7 w' → w'.cell? ⟨PA, 0, none⟩ = some (.int .i64 (x : Int)) ∧ w'.cell? ⟨PA, 1, none⟩ = some (.int .i64 (y : Int)) ∧ w'.cell? ⟨PA, 2, none⟩ = some (.int .i64 (z : Int))) := Lib.hid (fun w' h => by
              have h2 := h.at HAw7.out (fun e => e)
              exact ⟨cell_at h2 0, cell_at h2 1, cell_at h2 2⟩)
            clear hxn hyn hzn h0
            have hPC : PA ≠ wr.heap.size := Nat.ne_of_lt hPAr
            generalize hC : wr.heap.size = C at *
            have HCe := Lib.hid hC
            clear hC
            go_upto_region 10 with fail
            go_region_held3 (fun w' => w'.cell? ⟨PA, 0, none⟩ = some (.int .i64 (x : Int)) ∧ w'.cell? ⟨PA, 1, none⟩ = some (.int .i64 (y : Int)) ∧ w'.cell? ⟨PA, 2, none⟩ = some (.int .i64 (z : Int)))
              (first
                | (with_reducible exact HX9.out)
                | (exact ⟨a0, a1, a2⟩)
                | (exact HS3.out _ (Keep.refl _ _))
                | (exact HS3.out _ (Keep.refl _ _).drew)
                | (exact HS3.out _ ((Keep.refl _ _).drewN _))
                | (exact HS3.out _ HK8.out)
                | (exact HS3.out _ HK8.out.drew)
                | (exact HS3.out _ HK9.out)
                | (exact HS3.out _ HK9.out.drew))
              (first
                | (go_at_call 38
                   refine calls_at (args := #[.agg #[.int .i64 (x : Nat), .int .i64 (y : Nat), .int .i64 (z : Nat)], .int .i64 n]) rfl (CO.out _) ?_
                   rintro e w8 ⟨rfl, b8⟩
                   have HK8 := Lib.hid (Keep.trans (a := w7) (S := fun _ => False) (by first | exact (Keep.refl _ _) | exact (Keep.refl _ _).drew | exact (Keep.refl _ _).drewN _) (Keep.of_below b8))
                   clear b8)
                | (go_at_call 37
                   refine calls_at (args := #[.agg #[.int .i64 (x : Nat), .int .i64 (y : Nat), .int .i64 (z : Nat)], .agg #[.int .i64 (xn : Nat), .int .i64 (yn : Nat), .int .i64 (zn : Nat)]]) rfl (CB.out _) ?_
                   rintro e w9 ⟨rfl, b9⟩
                   have HK89 := Lib.hid (Keep.trans (a := w8) (S := fun _ => False) (by first | exact (Keep.refl _ _) | exact (Keep.refl _ _).drew | exact (Keep.refl _ _).drewN _) (Keep.of_below b9))
                   have HK9 := Lib.hid (HK8.out.trans HK89.out)
                   have hc9 := HK9.out.at HC7.out (fun e => e)
                   have f0 := frozen_at hc9 0
                   have f1 := frozen_at hc9 1
                   have f2 := frozen_at hc9 2
                   have f3 := frozen_at hc9 3
                   have f4 := frozen_at hc9 4
                   have f5 := frozen_at hc9 5
                   have f6 := frozen_at hc9 6
                   have d0 : w9.cell? ⟨C, 0, none⟩ = some (.int .i64 0) := cell_at hc9 0
                   have d1 : w9.cell? ⟨C, 1, none⟩ = some (.int .i64 0) := cell_at hc9 1
                   have d2 : w9.cell? ⟨C, 2, none⟩ = some (.int .i64 0) := cell_at hc9 2
                   have d3 : w9.cell? ⟨C, 3, none⟩ = some (.int .i64 0) := cell_at hc9 3
                   have d4 : w9.cell? ⟨C, 4, none⟩ = some (.int .i64 0) := cell_at hc9 4
                   have d5 : w9.cell? ⟨C, 5, none⟩ = some (.int .i64 0) := cell_at hc9 5
                   have d6 : w9.cell? ⟨C, 6, none⟩ = some (.int .i64 0) := cell_at hc9 6
                   have HC9 := Lib.hid hc9
                   have hp9 := set7_other (C := C) (.int .i64 (x : Int)) (.int .i64 (xn : Int)) (.int .i64 (y : Int)) (.int .i64 (yn : Int)) (.int .i64 (z : Int)) (.int .i64 (zn : Int)) (.int .i64 0) (HK9.out.at HAw7.out (fun e => e)) hPC
                   have HX9 : Hid ((((((((w9.setCell ⟨C, 0, none⟩ (.int .i64 (x : Int))).setCell ⟨C, 1, none⟩ (.int .i64 (xn : Int))).setCell ⟨C, 2, none⟩ (.int .i64 (y : Int))).setCell ⟨C, 3, none⟩ (.int .i64 (yn : Int))).setCell ⟨C, 4, none⟩ (.int .i64 (z : Int))).setCell ⟨C, 5, none⟩ (.int .i64 (zn : Int))).setCell ⟨C, 6, none⟩ (.int .i64 0)).cell? ⟨PA, 0, none⟩ = some (.int .i64 (x : Int)) ∧ (((((((w9.setCell ⟨C, 0, none⟩ (.int .i64 (x : Int))).setCell ⟨C, 1, none⟩ (.int .i64 (xn : Int))).setCell ⟨C, 2, none⟩ (.int .i64 (y : Int))).setCell ⟨C, 3, none⟩ (.int .i64 (yn : Int))).setCell ⟨C, 4, none⟩ (.int .i64 (z : Int))).setCell ⟨C, 5, none⟩ (.int .i64 (zn : Int))).setCell ⟨C, 6, none⟩ (.int .i64 0)).cell? ⟨PA, 1, none⟩ = some (.int .i64 (y : Int)) ∧ (((((((w9.setCell ⟨C, 0, none⟩ (.int .i64 (x : Int))).setCell ⟨C, 1, none⟩ (.int .i64 (xn : Int))).setCell ⟨C, 2, none⟩ (.int .i64 (y : Int))).setCell ⟨C, 3, none⟩ (.int .i64 (yn : Int))).setCell ⟨C, 4, none⟩ (.int .i64 (z : Int))).setCell ⟨C, 5, none⟩ (.int .i64 (zn : Int))).setCell ⟨C, 6, none⟩ (.int .i64 0)).cell? ⟨PA, 2, none⟩ = some (.int .i64 (z : Int))) := Lib.hid ⟨cell_at hp9 0, cell_at hp9 1, cell_at hp9 2⟩
                   have HC10 : Hid ((((((((w9.setCell ⟨C, 0, none⟩ (.int .i64 (x : Int))).setCell ⟨C, 1, none⟩ (.int .i64 (xn : Int))).setCell ⟨C, 2, none⟩ (.int .i64 (y : Int))).setCell ⟨C, 3, none⟩ (.int .i64 (yn : Int))).setCell ⟨C, 4, none⟩ (.int .i64 (z : Int))).setCell ⟨C, 5, none⟩ (.int .i64 (zn : Int))).setCell ⟨C, 6, none⟩ (.int .i64 0)).heap[C]? = some (.cells #[.int .i64 (x : Int), .int .i64 (xn : Int), .int .i64 (y : Int), .int .i64 (yn : Int), .int .i64 (z : Int), .int .i64 (zn : Int), .int .i64 0] 60 (0, 0))) := Lib.hid (set7_at hc9 _ _ _ _ _ _ _)
                   have HK10 : Hid (Keep (fun _ => False) wr (((((((w9.setCell ⟨C, 0, none⟩ (.int .i64 (x : Int))).setCell ⟨C, 1, none⟩ (.int .i64 (xn : Int))).setCell ⟨C, 2, none⟩ (.int .i64 (y : Int))).setCell ⟨C, 3, none⟩ (.int .i64 (yn : Int))).setCell ⟨C, 4, none⟩ (.int .i64 (z : Int))).setCell ⟨C, 5, none⟩ (.int .i64 (zn : Int))).setCell ⟨C, 6, none⟩ (.int .i64 0))) := Lib.hid (set7_keep _ _ _ _ _ _ _ (HK7.out.trans HK9.out) (Or.inr (Nat.le_of_eq HCe.out)))
                   clear b9 hc9 hp9))
            clear HX9 HC9
            generalize (((((((w9.setCell ⟨C, 0, none⟩ (.int .i64 (x : Int))).setCell ⟨C, 1, none⟩ (.int .i64 (xn : Int))).setCell ⟨C, 2, none⟩ (.int .i64 (y : Int))).setCell ⟨C, 3, none⟩ (.int .i64 (yn : Int))).setCell ⟨C, 4, none⟩ (.int .i64 (z : Int))).setCell ⟨C, 5, none⟩ (.int .i64 (zn : Int))).setCell ⟨C, 6, none⟩ (.int .i64 0)) = w10 at *
            have d6' : w10.cell? ⟨C, 6, none⟩ = some (.int .i64 0) := cell_at HC10.out 6
            have f6' := frozen_at HC10.out 6
            have lC10 := lt_of_at HC10.out
            obtain ⟨v', rS, kS⟩ := slice_fromS RS.out n hpl (by omega)
            have HFin : Hid ((w10.setCell ⟨C, 6, none⟩ (.int .i64 1)).heap[C]? = some (.cells #[.int .i64 (x : Int), .int .i64 (xn : Int), .int .i64 (y : Int), .int .i64 (yn : Int), .int .i64 (z : Int), .int .i64 (zn : Int), .int .i64 1] 60 (0, 0))) := Lib.hid (by simpa using set_at HC10.out 6 (.int .i64 1))
            have HKF := Lib.hid (HK10.out.setCell (p := ⟨C, 6, none⟩) (Or.inr (Nat.le_of_eq HCe.out)) (.int .i64 1))
            have HSF := Lib.hid (kS w4 (Below.refl _ _))
            clear kS f0 f1 f2 f3 f4 f5 f6 d0 d1 d2 d3 d4 d5 d6 HC10
            go_wp2_with fail
            go_meet
            exact ⟨⟨x, xn, y, yn, z, zn, 1⟩, S.drop n, by rw [List.length_drop]; omega, HG, HD, HSF, Lib.hid (by first | exact HFin.out | (rw [HCe.out]; exact HFin.out)), HKF⟩
        case rest =>
          obtain ⟨c, S', hS', HC, HST', RS', HA', HK⟩ := hcut
          have HPAc := Lib.hid (HK.out.at HA.out (fun e => e))
          have c0 : wc.cell? ⟨wr.heap.size, 0, none⟩ = some (.int .i64 (c.b1 : Int)) := cell_at HA'.out 0
          have c1 : wc.cell? ⟨wr.heap.size, 1, none⟩ = some (.int .i64 (c.b2 : Int)) := cell_at HA'.out 1
          have c2 : wc.cell? ⟨wr.heap.size, 2, none⟩ = some (.int .i64 (c.o1 : Int)) := cell_at HA'.out 2
          have c3 : wc.cell? ⟨wr.heap.size, 3, none⟩ = some (.int .i64 (c.o2 : Int)) := cell_at HA'.out 3
          have c4 : wc.cell? ⟨wr.heap.size, 4, none⟩ = some (.int .i64 (c.t1 : Int)) := cell_at HA'.out 4
          have c5 : wc.cell? ⟨wr.heap.size, 5, none⟩ = some (.int .i64 (c.t2 : Int)) := cell_at HA'.out 5
          have c6 : wc.cell? ⟨wr.heap.size, 6, none⟩ = some (.int .i64 (c.out : Int)) := cell_at HA'.out 6
          have HK4c := Lib.hid (HKr.out.trans HK.out)
          have hw4 : w4.heap.size ≤ wc.heap.size := HK4c.out.size
          have Ho2 := Lib.hid (own_keep Ho.out HK.out (fun _ _ h => h))
          have Hlt9 := Lib.hid Ho.out.lt
          have hPC : PA ≠ wr.heap.size := Nat.ne_of_lt (lt_of_at HA.out)
          generalize wr.heap.size = C at *
          go_wp2_with (at_builtin; refine wpList_append_own _ rfl _ _ 54 rfl w4.heap.size 60 i0 (.agg #[.int .i64 0, .int .i64 0, .int .i64 0, .int .i64 0, .int .i64 0, .int .i64 0, .int .i64 0]) 7 56 Try.underlying54 hi hz0 hz1 hz2 rfl (by decide) _ _ _ rfl (Ho2.out.alloc _) ⟨wc.heap.size, 0, none⟩ 1 1 (encC c) rfl rfl newsK (encC_one _) (by unfold maxLen; omega) (by omega) (by simp; omega) ?_)
          intro v' w9 hown' hgrow _
          have R : w9.ownsRow w4.heap.size 60 7 v' (o ++ [c]).length ((o ++ [c]).flatMap encC) := by
            rw [List.length_append, List.flatMap_append]
            simpa using hown'
          have HC9 : Hid (w9.heap[C]? = some (.cells (encC c).toArray 60 (0, 0))) := Lib.hid (by
            have h1 := alloc_at HA'.out (.cells (encC c).toArray 60)
            exact (hgrow.block C (lt_of_at h1) (fun e => by have := (Hlt9.out C e.symm).2; omega)).trans h1)
          have HP9 : Hid (w9.heap[PA]? = some (.cells #[.int .i64 (x : Int), .int .i64 (y : Int), .int .i64 (z : Int)] 76 (0, 0))) := Lib.hid (by
            have h1 := alloc_at HPAc.out (.cells (encC c).toArray 60)
            refine (hgrow.block PA (lt_of_at h1) (fun e => ?_)).trans h1
            obtain ⟨cur, hc⟩ := own_obj Ho2.out e.symm
            have h2 := HPAc.out
            rw [hc] at h2
            simp at h2)
          have HK9 := Lib.hid ((HK4c.out.alloc (.cells (encC c).toArray 60)).grown hgrow (fun g hg => Or.inr (Ho2.out.lt g hg).1))
          have R1 := Lib.hid R
          have e0 : w9.cell? ⟨C, 0, none⟩ = some (.int .i64 (c.b1 : Int)) := cell_at HC9.out 0
          have e1 : w9.cell? ⟨C, 1, none⟩ = some (.int .i64 (c.b2 : Int)) := cell_at HC9.out 1
          have e2 : w9.cell? ⟨C, 2, none⟩ = some (.int .i64 (c.o1 : Int)) := cell_at HC9.out 2
          have e3 : w9.cell? ⟨C, 3, none⟩ = some (.int .i64 (c.o2 : Int)) := cell_at HC9.out 3
          have e4 : w9.cell? ⟨C, 4, none⟩ = some (.int .i64 (c.t1 : Int)) := cell_at HC9.out 4
          have e5 : w9.cell? ⟨C, 5, none⟩ = some (.int .i64 (c.t2 : Int)) := cell_at HC9.out 5
          have e6 : w9.cell? ⟨C, 6, none⟩ = some (.int .i64 (c.out : Int)) := cell_at HC9.out 6
          have lC9 := lt_of_at HC9.out
          have CBH : Hid (∀ w', Calls Try.prog 40 #[.agg #[.int .i64 (c.b1 : Nat), .int .i64 (c.b2 : Nat), .int .i64 (c.o1 : Nat), .int .i64 (c.o2 : Nat), .int .i64 (c.t1 : Nat), .int .i64 (c.t2 : Nat), .int .i64 (c.out : Nat)]] w' fun e w'' => e = .returned (.agg #[.int .i64 (c.b2 : Nat), .int .i64 (c.o2 : Nat), .int .i64 (c.t2 : Nat)]) ∧ Below w'.heap.size w' w'') := Lib.hid (fun w' => behind_any c w')
          clear R hown' hgrow c0 c1 c2 c3 c4 c5 c6
          go_wp2_with fail
          refine calls_at (args := #[.agg #[.int .i64 (c.b1 : Nat), .int .i64 (c.b2 : Nat), .int .i64 (c.o1 : Nat), .int .i64 (c.o2 : Nat), .int .i64 (c.t1 : Nat), .int .i64 (c.t2 : Nat), .int .i64 (c.out : Nat)]]) rfl (CBH.out _) ?_
          rintro e w10 ⟨rfl, b10⟩
          have hk10 : Keep (fun _ => False) w9 w10 := Keep.of_below b10
          have HP10 := Lib.hid (hk10.at HP9.out (fun e => e))
          have HK10 := Lib.hid (HK9.out.trans hk10)
          have HO10 := Lib.hid (own_keep R1.out hk10 (fun _ _ e => e))
          have lP10 := lt_of_at HP10.out
          have p0 : w10.cell? ⟨PA, 0, none⟩ = some (.int .i64 (x : Int)) := cell_at HP10.out 0
          have p1 : w10.cell? ⟨PA, 1, none⟩ = some (.int .i64 (y : Int)) := cell_at HP10.out 1
          have p2 : w10.cell? ⟨PA, 2, none⟩ = some (.int .i64 (z : Int)) := cell_at HP10.out 2
          have f0 := frozen_at HP10.out 0
          have f1 := frozen_at HP10.out 1
          have f2 := frozen_at HP10.out 2
          clear b10 hk10 e0 e1 e2 e3 e4 e5 e6 CBH
          go_upto_region 17 with fail
          have HP11 : Hid ((((w10.setCell ⟨PA, 0, none⟩ (.int .i64 (c.b2 : Int))).setCell ⟨PA, 1, none⟩ (.int .i64 (c.o2 : Int))).setCell ⟨PA, 2, none⟩ (.int .i64 (c.t2 : Int))).heap[PA]? = some (.cells #[.int .i64 (c.b2 : Int), .int .i64 (c.o2 : Int), .int .i64 (c.t2 : Int)] 76 (0, 0))) := Lib.hid (by
            have h0 : (w10.setCell ⟨PA, 0, none⟩ (.int .i64 (c.b2 : Int))).heap[PA]? = some (.cells #[.int .i64 (c.b2 : Int), .int .i64 (y : Int), .int .i64 (z : Int)] 76 (0, 0)) := by simpa using set_at HP10.out 0 (.int .i64 (c.b2 : Int))
            have h1 : ((w10.setCell ⟨PA, 0, none⟩ (.int .i64 (c.b2 : Int))).setCell ⟨PA, 1, none⟩ (.int .i64 (c.o2 : Int))).heap[PA]? = some (.cells #[.int .i64 (c.b2 : Int), .int .i64 (c.o2 : Int), .int .i64 (z : Int)] 76 (0, 0)) := by simpa using set_at h0 1 (.int .i64 (c.o2 : Int))
            simpa using set_at h1 2 (.int .i64 (c.t2 : Int)))
          have kst : Keep (fun g => g = PA) w10 (((w10.setCell ⟨PA, 0, none⟩ (.int .i64 (c.b2 : Int))).setCell ⟨PA, 1, none⟩ (.int .i64 (c.o2 : Int))).setCell ⟨PA, 2, none⟩ (.int .i64 (c.t2 : Int))) :=
            (((Keep.refl (fun g => g = PA) w10).setCell (p := ⟨PA, 0, none⟩) (Or.inl rfl) _).setCell (p := ⟨PA, 1, none⟩) (Or.inl rfl) _).setCell (p := ⟨PA, 2, none⟩) (Or.inl rfl) _
          have HO11 := Lib.hid (own_keep HO10.out kst (fun g hg e => by
            subst e
            obtain ⟨cur, hc⟩ := own_obj HO10.out hg
            have h2 := HP10.out
            rw [hc] at h2
            simp at h2))
          have HK11 := Lib.hid (((HK10.out.setCell (p := ⟨PA, 0, none⟩) (Or.inr hPA) (.int .i64 (c.b2 : Int))).setCell (p := ⟨PA, 1, none⟩) (Or.inr hPA) (.int .i64 (c.o2 : Int))).setCell (p := ⟨PA, 2, none⟩) (Or.inr hPA) (.int .i64 (c.t2 : Int)))
          clear kst p0 p1 p2 f0 f1 f2
          generalize ((w10.setCell ⟨PA, 0, none⟩ (.int .i64 (c.b2 : Int))).setCell ⟨PA, 1, none⟩ (.int .i64 (c.o2 : Int))).setCell ⟨PA, 2, none⟩ (.int .i64 (c.t2 : Int)) = w11 at *
          have p0 : w11.cell? ⟨PA, 0, none⟩ = some (.int .i64 (c.b2 : Int)) := cell_at HP11.out 0
          have p1 : w11.cell? ⟨PA, 1, none⟩ = some (.int .i64 (c.o2 : Int)) := cell_at HP11.out 1
          have p2 : w11.cell? ⟨PA, 2, none⟩ = some (.int .i64 (c.t2 : Int)) := cell_at HP11.out 2
          have lP11 := lt_of_at HP11.out
          have HNew := Lib.hid (alloc_new w11 (.cells #[.int .i64 (c.b2 : Int), .int .i64 (c.o2 : Int), .int .i64 (c.t2 : Int)] 76))
          go_wp2_with fail
          go_roundw
          case rel => exact ⟨c.b2, c.o2, c.t2, o ++ [c], S', _, rfl, HC.out.2.2.2.2.2.b', HC.out.2.2.2.2.2.o', HC.out.2.2.2.2.2.t', hS', HK11.out.size, RS', Lib.hid (HO11.out.alloc _), Lib.hid (HK11.out.alloc _), HNew, Lib.hid HC.out.2.2.2.1, HST'⟩
          case measure =>
            have n0 : (w11.alloc (.cells #[.int .i64 (c.b2 : Int), .int .i64 (c.o2 : Int), .int .i64 (c.t2 : Int)] 76)).cell? ⟨w11.heap.size, 0, none⟩ = some (.int .i64 (c.b2 : Int)) := cell_at HNew.out 0
            have n1 : (w11.alloc (.cells #[.int .i64 (c.b2 : Int), .int .i64 (c.o2 : Int), .int .i64 (c.t2 : Int)] 76)).cell? ⟨w11.heap.size, 1, none⟩ = some (.int .i64 (c.o2 : Int)) := cell_at HNew.out 1
            have n2 : (w11.alloc (.cells #[.int .i64 (c.b2 : Int), .int .i64 (c.o2 : Int), .int .i64 (c.t2 : Int)] 76)).cell? ⟨w11.heap.size, 2, none⟩ = some (.int .i64 (c.t2 : Int)) := cell_at HNew.out 2
            have o0 : wr.cell? ⟨PA, 0, none⟩ = some (.int .i64 (x : Int)) := cell_at HA.out 0
            have o1 : wr.cell? ⟨PA, 1, none⟩ = some (.int .i64 (y : Int)) := cell_at HA.out 1
            have o2 : wr.cell? ⟨PA, 2, none⟩ = some (.int .i64 (z : Int)) := cell_at HA.out 2
            have HM := HC.out.2.2.2.2.1
            simp only [Option.getD_some, n0, n1, n2, o0, o1, o2, intOf, Int.toNat_natCast]
            exact HM

end Go.Proofs.Ytipgofglidmffaa.Wv
