/-
  The statement about WeaveFar: for every input the law returns true, and each argument reads afterwards as it read before. No condition.
-/
import Derived.Test.YtbfclmhcoelplaaWvRun
import Derived.Test.YtbfclmhcoelplaaWvChunks
import Derived.Test.YtbfclmhcoelplaaLpPairs
import Derived.Test.YtbfclmhcoelplaaWvClean
import Derived.Lib.AppendZeros
import Derived.Test.YtbfclmhcoelplaaRows
import Derived.Test.YtbfclmhcoelplaaWvFarWalk
import Derived.WalkKit
import Derived.ProofKit
import Derived.OpenShut
import Derived.ShutString
import Derived.SizedLaws
import Derived.Laws.AppendOwnNone
namespace Go.Proofs.Ytbfclmhcoelplaa.Wv
open Go.RowKit Go.Proofs.Ytbfclmhcoelplaa.Cm Go.Proofs.Ytbfclmhcoelplaa.Lc
set_option linter.unusedVariables false

theorem first_next {B O T : List Int} {k q : Nat → Option Nat} (K : Keeps B O k) {x : Nat} {S : List Spot} (h : Stb k q x S) (hx : x ≤ B.length) :
    ∃ fx fy fz, S.head?.getD ⟨B.length, O.length, T.length⟩ = ⟨fx, fy, fz⟩ ∧ next B k q x = fx ∧ nextO B O k fx = fy ∧ nextO B T q fx = fz ∧ Stb k q fx S := by
  cases S with
  | nil =>
    refine ⟨_, _, _, rfl, next_nil h hx, by unfold nextO; rw [if_neg (by omega)], by unfold nextO; rw [if_neg (by omega)], ⟨fun s => ⟨fun hs => (by cases hs), fun hs => (h.mem s).2 ⟨by omega, hs.2⟩⟩, h.up⟩⟩
  | cons s S =>
    obtain ⟨h1, h2, h3, _⟩ := next_cons (O := O) (T := T) K h
    exact ⟨s.b, s.o, s.t, rfl, h1, h2, h3, h.head⟩
/-- Seven cells, one after another. -/
def set7 (w : World) (C : Nat) (a b c d e f g : Value) : World :=
  ((((((w.setCell ⟨C, 0, none⟩ a).setCell ⟨C, 1, none⟩ b).setCell ⟨C, 2, none⟩ c).setCell ⟨C, 3, none⟩ d).setCell ⟨C, 4, none⟩ e).setCell ⟨C, 5, none⟩ f).setCell ⟨C, 6, none⟩ g
theorem set7_at {w : World} {C : Nat} {u0 u1 u2 u3 u4 u5 u6 : Value} {T : TypeId} (h : w.heap[C]? = some (.cells #[u0, u1, u2, u3, u4, u5, u6] T (0, 0))) (a b c d e f g : Value) : (set7 w C a b c d e f g).heap[C]? = some (.cells #[a, b, c, d, e, f, g] T (0, 0)) := by
  have h0 : (w.setCell ⟨C, 0, none⟩ a).heap[C]? = some (.cells #[a, u1, u2, u3, u4, u5, u6] T (0, 0)) := by simpa using set_at h 0 a
  have h1 : ((w.setCell ⟨C, 0, none⟩ a).setCell ⟨C, 1, none⟩ b).heap[C]? = some (.cells #[a, b, u2, u3, u4, u5, u6] T (0, 0)) := by simpa using set_at h0 1 b
  have h2 : (((w.setCell ⟨C, 0, none⟩ a).setCell ⟨C, 1, none⟩ b).setCell ⟨C, 2, none⟩ c).heap[C]? = some (.cells #[a, b, c, u3, u4, u5, u6] T (0, 0)) := by simpa using set_at h1 2 c
  have h3 : ((((w.setCell ⟨C, 0, none⟩ a).setCell ⟨C, 1, none⟩ b).setCell ⟨C, 2, none⟩ c).setCell ⟨C, 3, none⟩ d).heap[C]? = some (.cells #[a, b, c, d, u4, u5, u6] T (0, 0)) := by simpa using set_at h2 3 d
  have h4 : (((((w.setCell ⟨C, 0, none⟩ a).setCell ⟨C, 1, none⟩ b).setCell ⟨C, 2, none⟩ c).setCell ⟨C, 3, none⟩ d).setCell ⟨C, 4, none⟩ e).heap[C]? = some (.cells #[a, b, c, d, e, u5, u6] T (0, 0)) := by simpa using set_at h3 4 e
  have h5 : ((((((w.setCell ⟨C, 0, none⟩ a).setCell ⟨C, 1, none⟩ b).setCell ⟨C, 2, none⟩ c).setCell ⟨C, 3, none⟩ d).setCell ⟨C, 4, none⟩ e).setCell ⟨C, 5, none⟩ f).heap[C]? = some (.cells #[a, b, c, d, e, f, u6] T (0, 0)) := by simpa using set_at h4 5 f
  have h6 : (((((((w.setCell ⟨C, 0, none⟩ a).setCell ⟨C, 1, none⟩ b).setCell ⟨C, 2, none⟩ c).setCell ⟨C, 3, none⟩ d).setCell ⟨C, 4, none⟩ e).setCell ⟨C, 5, none⟩ f).setCell ⟨C, 6, none⟩ g).heap[C]? = some (.cells #[a, b, c, d, e, f, g] T (0, 0)) := by simpa using set_at h5 6 g
  exact h6
theorem set7_keep {w0 w : World} {C : Nat} (a b c d e f g : Value) {S : Nat → Prop} (h : Keep S w0 w) (hC : S C ∨ w0.heap.size ≤ C) : Keep S w0 (set7 w C a b c d e f g) :=
  ((((((h.setCell (p := ⟨C, 0, none⟩) hC a).setCell (p := ⟨C, 1, none⟩) hC b).setCell (p := ⟨C, 2, none⟩) hC c).setCell (p := ⟨C, 3, none⟩) hC d).setCell (p := ⟨C, 4, none⟩) hC e).setCell (p := ⟨C, 5, none⟩) hC f).setCell (p := ⟨C, 6, none⟩) hC g
theorem set7_other {w : World} {C P : Nat} {o : Obj} (a b c d e f g : Value) (h : w.heap[P]? = some o) (hne : P ≠ C) : (set7 w C a b c d e f g).heap[P]? = some o :=
  set_other (set_other (set_other (set_other (set_other (set_other (set_other h hne) hne) hne) hne) hne) hne) hne
/-- Three boxes. -/
structure Bxs (w : World) (a b c : Nat) (u v x : Value) (T : TypeId) : Prop where
  one : w.heap[a]? = some (.cells #[u] T (0, 0))
  two : w.heap[b]? = some (.cells #[v] T (0, 0))
  three : w.heap[c]? = some (.cells #[x] T (0, 0))
theorem Bxs.new (w : World) (u v x : Value) (T : TypeId) : Bxs (((w.alloc (.cells #[u] T)).alloc (.cells #[v] T)).alloc (.cells #[x] T)) w.heap.size (w.heap.size + 1) (w.heap.size + 1 + 1) u v x T where
  one := alloc_at (alloc_at (alloc_new w _) _) _
  two := by
    have := alloc_new (w.alloc (.cells #[u] T)) (.cells #[v] T)
    rw [World.size_alloc] at this
    exact alloc_at this _
  three := by
    have := alloc_new ((w.alloc (.cells #[u] T)).alloc (.cells #[v] T)) (.cells #[x] T)
    rw [World.size_alloc, World.size_alloc] at this
    exact this
theorem Bxs.keep {w w' : World} {a b c : Nat} {u v x : Value} {T : TypeId} (h : Bxs w a b c u v x T) (k : Keep (fun _ => False) w w') : Bxs w' a b c u v x T :=
  ⟨k.at h.one (fun e => e), k.at h.two (fun e => e), k.at h.three (fun e => e)⟩
theorem Bxs.cells {w : World} {a b c : Nat} {u v x : Value} {T : TypeId} (h : Bxs w a b c u v x T) : w.cell? ⟨a, 0, none⟩ = some u ∧ w.cell? ⟨b, 0, none⟩ = some v ∧ w.cell? ⟨c, 0, none⟩ = some x :=
  ⟨cell_at h.one 0, cell_at h.two 0, cell_at h.three 0⟩

set_option maxHeartbeats 6400000 in
set_option maxRecDepth 100000 in
theorem wchunks_any (va vb vc : Value) (B O T : List Int) (w : World) (hB : Rz w va B) (hO : Rz w vb O) (hT : Rz w vc T) (lB : B.length ≤ 8000) (lO : O.length ≤ 8000) (lT : T.length ≤ 8000) :
    Calls Try.prog 12 #[va, vb, vc] w fun e w' => ∃ v, e = .returned v ∧ Rk 7 encC w' v (chunks B O T) ∧ Below w.heap.size w w' := by
  have HB := Lib.hid hB
  have HO := Lib.hid hO
  have HT := Lib.hid hT
  obtain ⟨i0, hi, hz0, hz1, hz2⟩ := info_parts (show (Try.prog.info? 39).map (fun i => (i.zero, i.size, i.bytes)) = some (some (.agg #[.int .i64 0, .int .i64 0, .int .i64 0, .int .i64 0, .int .i64 0, .int .i64 0, .int .i64 0]), 7, 56) by kernel_rfl)
  have K := keeps_pairs B O
  have Q := keeps_pairs B T
  have hcl := chunks_len B O T
  have S0 := Lib.hid (Left.start B O T)
  have ST0 := Lib.hid (stb_start B O T)
  have lp : (pairs B O).length ≤ 8000 := by rw [pairs_len]; exact Nat.le_trans (lcs_le_left _ _) lB
  have lq : (pairs B T).length ≤ 8000 := by rw [pairs_len]; exact Nat.le_trans (lcs_le_left _ _) lB
  have lS : (spots (pairs B O) (pairs B T)).length ≤ 8000 := Nat.le_trans (spots_len _ _ _ (Nat.le_refl _)) lp
  obtain ⟨aoB, cB, rfl⟩ := hB.len
  obtain ⟨aoO, cO, rfl⟩ := hO.len
  obtain ⟨aoT, cT, rfl⟩ := hT.len
  clear hB hO hT
  go_enter Try.func12, Try.ntmps12
  go_upto_region 2 with fail
  have HX := Lib.hid (Bxs.new w (.slice aoB B.length cB) (.slice aoO O.length cO) (.slice aoT T.length cT) 22)
  have HK1 := Lib.hid ((((Keep.refl (fun _ => False) w).alloc (.cells #[.slice aoB B.length cB] 22)).alloc (.cells #[.slice aoO O.length cO] 22)).alloc (.cells #[.slice aoT T.length cT] 22))
  generalize ((w.alloc (.cells #[.slice aoB B.length cB] 22)).alloc (.cells #[.slice aoO O.length cO] 22)).alloc (.cells #[.slice aoT T.length cT] 22) = w1 at *
  have HBl : Hid (∀ w', Keep (fun _ => False) w1 w' → Below w.heap.size w w') := Lib.hid (fun w' h => (HK1.out.trans h).below (fun _ e => e.elim) (Nat.le_refl _))
  go_cut [8] from 15 (fun s wx => Hid (Rk 3 encS wx s (spots (pairs B O) (pairs B T))) ∧ Hid (Keep (fun _ => False) w1 wx))
  case first =>
    have HS := Lib.hid (fun w' (h : Keep (fun _ => False) w1 w') => (HX.out.keep h).cells)
    have P1 := Lib.hid (fun w' (h : Keep (fun _ => False) w1 w') => Go.Proofs.Ytbfclmhcoelplaa.Lp.pairs_any _ _ B O w' (HB.out.below (HBl.out w' h)) (HO.out.below (HBl.out w' h)) lB lO)
    have P2 := Lib.hid (fun w' (h : Keep (fun _ => False) w1 w') => Go.Proofs.Ytbfclmhcoelplaa.Lp.pairs_any _ _ B T w' (HB.out.below (HBl.out w' h)) (HT.out.below (HBl.out w' h)) lB lT)
    have hx1 := lt_of_at HX.out.one
    have hx2 := lt_of_at HX.out.two
    have hx3 := lt_of_at HX.out.three
    obtain ⟨k1, k2, k3⟩ := HX.out.cells
    go_region_held3 (fun w' => w'.cell? ⟨w.heap.size, 0, none⟩ = some (.slice aoB B.length cB) ∧ w'.cell? ⟨w.heap.size + 1, 0, none⟩ = some (.slice aoO O.length cO) ∧ w'.cell? ⟨w.heap.size + 1 + 1, 0, none⟩ = some (.slice aoT T.length cT))
      (first
        | (exact ⟨k1, k2, k3⟩)
        | (exact HS.out _ (Keep.refl _ _))
        | (exact HS.out _ (Keep.refl _ _).drew)
        | (exact HS.out _ ((Keep.refl _ _).drewN _))
        | (exact HS.out _ HK4.out)
        | (exact HS.out _ HK4.out.drew)
        | (exact HS.out _ HK5.out)
        | (exact HS.out _ HK5.out.drew)
        | (exact HS.out _ HK6.out)
        | (exact HS.out _ HK6.out.drew))
      (first
        | (go_at_call 25
           refine calls_at (args := #[.slice aoB B.length cB, .slice aoO O.length cO]) rfl (P1.out _ (by first | exact (Keep.refl _ _) | exact (Keep.refl _ _).drew | exact (Keep.refl _ _).drewN _)) ?_
           rintro e w4 ⟨v4, rfl, r4, b4⟩
           have HK4 := Lib.hid (Keep.trans (a := w1) (S := fun _ => False) (by first | exact (Keep.refl _ _) | exact (Keep.refl _ _).drew | exact (Keep.refl _ _).drewN _) (Keep.of_below b4))
           have R4 := Lib.hid r4
           clear r4 b4)
        | (go_at_call 25
           refine calls_at (args := #[.slice aoB B.length cB, .slice aoT T.length cT]) rfl (P2.out _ (by first | exact HK4.out | exact HK4.out.drew | exact HK4.out.drewN _)) ?_
           rintro e w5 ⟨v5, rfl, r5, b5⟩
           have HK45 := Lib.hid (Keep.trans (a := w4) (S := fun _ => False) (by first | exact (Keep.refl _ _) | exact (Keep.refl _ _).drew | exact (Keep.refl _ _).drewN _) (Keep.of_below b5))
           have HK5 := Lib.hid (HK4.out.trans HK45.out)
           have R5 := Lib.hid r5
           clear r5 b5)
        | (go_at_call 24
           refine calls_at (args := #[v4, v5]) rfl (stable_any v4 v5 (pairs B O) (pairs B T) _ (by first | exact R4.out.below (HK45.out.below (fun _ e => e.elim) (Nat.le_refl _)) | exact R4.out.below (HK45.out.drew.below (fun _ e => e.elim) (Nat.le_refl _))) (by first | exact R5.out | exact R5.out.below ((Keep.refl (fun _ => False) _).drew.below (fun _ e => e.elim) (Nat.le_refl _))) (by omega) (by omega)) ?_
           rintro e w6 ⟨v6, rfl, r6, b6⟩
           have HK56 := Lib.hid (Keep.trans (a := w5) (S := fun _ => False) (by first | exact (Keep.refl _ _) | exact (Keep.refl _ _).drew | exact (Keep.refl _ _).drewN _) (Keep.of_below b6))
           have HK6 := Lib.hid (HK5.out.trans HK56.out)
           have R6 := Lib.hid r6
           clear r6 b6))
    go_wp2_with fail
    go_meet
    exact ⟨R6, HK6⟩
  case rest =>
    obtain ⟨RS, HKc⟩ := hcut
    have HX2 := Lib.hid (HX.out.keep HKc.out)
    obtain ⟨k1, k2, k3⟩ := HX2.out.cells
    go_upto_block 0 with fail
    have HE0 := alloc_new wc (.cells #[.int .i64 (B.length : Int), .int .i64 (O.length : Int), .int .i64 (T.length : Int)] 51)
    have HK40 := (Keep.refl (fun _ => False) wc).alloc (.cells #[.int .i64 (B.length : Int), .int .i64 (O.length : Int), .int .i64 (T.length : Int)] 51)
    have hs : wc.heap.size + 1 = (wc.alloc (.cells #[.int .i64 (B.length : Int), .int .i64 (O.length : Int), .int .i64 (T.length : Int)] 51)).heap.size := by simp
    rw [hs]
    clear hs k1 k2 k3
    generalize wc.alloc (.cells #[.int .i64 (B.length : Int), .int .i64 (O.length : Int), .int .i64 (T.length : Int)] 51) = w4 at *
    have HX4 := Lib.hid (HX2.out.keep HK40)
    have HBl4 : Hid (∀ w', Keep (fun _ => False) w4 w' → Below w.heap.size w w') := Lib.hid (fun w' h => HBl.out w' ((HKc.out.trans HK40).trans h))
    have HE := Lib.hid HE0
    have RS4 := Lib.hid (RS.out.below (HK40.below (fun _ e => e.elim) (Nat.le_refl _)))
    have hPE : wc.heap.size < w4.heap.size := lt_of_at HE0
    have HA0 := Lib.hid (alloc_new w4 (.cells #[.int .i64 0, .int .i64 0, .int .i64 0] 51))
    have HK5 := Lib.hid ((Keep.refl (fun _ => False) w4).alloc (.cells #[.int .i64 0, .int .i64 0, .int .i64 0] 51))
    clear HE0 HK40 RS HX2 HX HBl HK1 HKc
    generalize w4.alloc (.cells #[.int .i64 0, .int .i64 0, .int .i64 0] 51) = w5 at *
    generalize wc.heap.size = PE at *
    obtain ⟨all, hall⟩ : ∃ all, chunks B O T = all := ⟨_, rfl⟩
    rw [hall] at hcl S0
    have HAll := Lib.hid hall
    clear hall lp lq
    generalize spots (pairs B O) (pairs B T) = S1 at *
    generalize kp (pairs B O) = k at *
    generalize kp (pairs B T) = q at *
    go_wp2_with fail
    go_loopw [8, 10, 11] (fun s8 s10 s11 wr => ∃ (x y z : Nat) (o : List Ch) (S : List Spot) (PA : Nat), s11 = .pointer (some ⟨PA, 0, none⟩) ∧ x ≤ B.length ∧ y ≤ O.length ∧ z ≤ T.length ∧ S.length ≤ 8000 ∧ w4.heap.size ≤ PA ∧ Hid (Rk 3 encS w4 s8 S) ∧ Hid (wr.ownsRow w4.heap.size 39 7 s10 o.length (o.flatMap encC)) ∧ Hid (Keep (fun _ => False) w4 wr) ∧ Hid (wr.heap[PA]? = some (.cells #[.int .i64 (x : Int), .int .i64 (y : Int), .int .i64 (z : Int)] 51 (0, 0))) ∧ Hid (Left B O T k q all o x y z) ∧ Hid (Stb k q x S))
      (fun _ _ s11 wr => match s11 with | .pointer (some ⟨b, _, _⟩) => rest B O T (intOf ((wr.cell? ⟨b, 0, none⟩).getD undef)).toNat (intOf ((wr.cell? ⟨b, 1, none⟩).getD undef)).toNat (intOf ((wr.cell? ⟨b, 2, none⟩).getD undef)).toNat | _ => 0)
    case atStart => exact ⟨0, 0, 0, [], S1, _, rfl, Nat.zero_le _, Nat.zero_le _, Nat.zero_le _, lS, Nat.le_refl _, RS4, Lib.hid (World.ownsRow_nil _ _ _ _), HK5, HA0, S0, ST0⟩
    case round =>
      clear S0 ST0 HA0 HK5 RS4
      obtain ⟨x, y, z, o, S, PA, rfl, hx, hy, hz, hS, hPA, RS, Ho, HKr, HA, HL, HST⟩ := hrel
      have hol : o.length ≤ 30000 := Nat.le_trans HL.out.len (by omega)
      obtain ⟨ao8, c8, rfl⟩ := RS.out.len
      obtain ⟨j, hj⟩ : ∃ j : Bool, decide (x < B.length ∨ y < O.length ∨ z < T.length) = j := ⟨_, rfl⟩
      have HJ := Lib.hid hj
      clear hj
      have HEr := Lib.hid (HKr.out.at HE.out (fun e => e))
      go_upto_region 6 with fail
      go_cut [32] from 30 to 62 (fun s wx => s = .bool j ∧ wr = wx)
      case first =>
        have a0 : wr.cell? ⟨PA, 0, none⟩ = some (.int .i64 (x : Int)) := cell_at HA.out 0
        have a1 : wr.cell? ⟨PA, 1, none⟩ = some (.int .i64 (y : Int)) := cell_at HA.out 1
        have a2 : wr.cell? ⟨PA, 2, none⟩ = some (.int .i64 (z : Int)) := cell_at HA.out 2
        have e0 : wr.cell? ⟨PE, 0, none⟩ = some (.int .i64 (B.length : Int)) := cell_at HEr.out 0
        have e1 : wr.cell? ⟨PE, 1, none⟩ = some (.int .i64 (O.length : Int)) := cell_at HEr.out 1
        have e2 : wr.cell? ⟨PE, 2, none⟩ = some (.int .i64 (T.length : Int)) := cell_at HEr.out 2
        by_cases heq : (⟨x, y, z⟩ : Spot) = ⟨B.length, O.length, T.length⟩
        · simp only [Spot.mk.injEq] at heq
          obtain ⟨h1, h2, h3⟩ := heq
          rw [h1] at a0
          rw [h2] at a1
          rw [h3] at a2
          have HF : Hid (j = false) := Lib.hid (by rw [← HJ.out, h1, h2, h3]; exact decide_eq_false (by omega))
          clear h1 h2 h3 HJ
          go_wp2_with fail
          go_meet
          exact ⟨by rw [HF.out], rfl⟩
        · have hne := spot_off heq
          simp only at hne
          have HF : Hid (j = true) := Lib.hid (by
            rw [← HJ.out]
            refine decide_eq_true ?_
            have : ¬ (x = B.length ∧ y = O.length ∧ z = T.length) := fun h => heq (by rw [h.1, h.2.1, h.2.2])
            omega)
          clear heq HJ
          rcases hne with g0 | ⟨g0, g1⟩ | ⟨g0, g1, g2⟩
          all_goals (
            go_wp2_with fail
            go_meet
            exact ⟨by rw [HF.out], rfl⟩)
      case rest =>
        obtain ⟨rfl, rfl⟩ := hcut
        rcases j with _ | _
        · have HE := Lib.hid (HL.out.done (of_decide_eq_false HJ.out))
          have HR := Lib.hid (Rk.of_own encC_len Ho.out)
          have HBE := Lib.hid (HBl4.out _ HKr.out)
          clear HL HJ
          go_wp2_with fail
          go_ret
          rw [HAll.out, HE.out]
          exact ⟨_, rfl, HR.out, HBE.out⟩
        have HR := Lib.hid (of_decide_eq_true HJ.out)
        have hrun := rn_pre K S x y z HST.out
        replace hrun : runs B k q x y z = pre S x y z := hrun
        have hpl := pre_le S x y z
        obtain ⟨n, hn⟩ : ∃ n, pre S x y z = n := ⟨_, rfl⟩
        rw [hn] at hrun hpl
        have CR := Lib.hid (fun w' h => runFrom_any (.slice ao8 S.length c8) S x y z w' h (by omega) (by omega) (by omega) (by omega))
        rw [hn] at CR
        have HN := Lib.hid hn
        have HRun := Lib.hid hrun
        clear HJ hn hrun
        have a0 : wr.cell? ⟨PA, 0, none⟩ = some (.int .i64 (x : Int)) := cell_at HA.out 0
        have a1 : wr.cell? ⟨PA, 1, none⟩ = some (.int .i64 (y : Int)) := cell_at HA.out 1
        have a2 : wr.cell? ⟨PA, 2, none⟩ = some (.int .i64 (z : Int)) := cell_at HA.out 2
        have hPAr := lt_of_at HA.out
        replace CR : Hid (∀ w', Rk 3 encS w' (.slice ao8 S.length c8) S → Calls Try.prog 26 #[.agg #[.int .i64 (x : Nat), .int .i64 (y : Nat), .int .i64 (z : Nat)], .slice ao8 S.length c8] w' fun e w'' => e = .returned (.int .i64 (n : Nat)) ∧ Below w'.heap.size w' w'') := CR
        have CR1 := Lib.hid (CR.out (wr.alloc (.cells #[.int .i64 0, .int .i64 0, .int .i64 0, .int .i64 0, .int .i64 0, .int .i64 0, .int .i64 0] 39)) (RS.out.below ((HKr.out.alloc _).below (fun _ e => e.elim) (Nat.le_refl _))))
        clear CR
        go_wp2_with fail
        refine CR1.out.mono ?_
        rintro e w7 ⟨rfl, b7⟩
        have HC7 := Lib.hid ((Keep.of_below (S := fun _ => False) b7).at (alloc_new wr _) (fun e => e))
        have HK7 := Lib.hid (((Keep.refl (fun _ => False) wr).alloc _).trans (Keep.of_below b7))
        clear b7 CR1 a0 a1 a2
        go_upto_if 37 with fail
        have HAw7 := Lib.hid (HK7.out.at HA.out (fun e => e))
        have HEw7 := Lib.hid (HK7.out.at HEr.out (fun e => e))
        have RS7 := Lib.hid (RS.out.below ((HKr.out.trans HK7.out).below (fun _ e => e.elim) (Nat.le_refl _)))
        go_cut [8] from 30 to 62 (fun s8 wx => ∃ (c : Ch) (S' : List Spot), S'.length ≤ 8000 ∧ Hid (Nxt B O T k q all o x y z c) ∧ Hid (Stb k q c.b2 S') ∧ Hid (Rk 3 encS w4 s8 S') ∧ Hid (wx.heap[wr.heap.size]? = some (.cells (encC c).toArray 39 (0, 0))) ∧ Hid (Keep (fun _ => False) wr wx))
        case first =>
          have lC := lt_of_at HC7.out
          have lPA := lt_of_at HAw7.out
          have lPE := lt_of_at HEw7.out
          have a0 : w7.cell? ⟨PA, 0, none⟩ = some (.int .i64 (x : Int)) := cell_at HAw7.out 0
          have a1 : w7.cell? ⟨PA, 1, none⟩ = some (.int .i64 (y : Int)) := cell_at HAw7.out 1
          have a2 : w7.cell? ⟨PA, 2, none⟩ = some (.int .i64 (z : Int)) := cell_at HAw7.out 2
          by_cases h0 : n = 0
          · subst h0
            obtain ⟨fx, fy, fz, hf, hf1, hf2, hf3, hfs⟩ := first_next (O := O) (T := T) K HST.out hx
            have HG := Lib.hid (HL.out.gap K Q HR.out HRun.out)
            rw [hf1, hf2, hf3] at HG
            have HFS := Lib.hid hfs
            have hl1 := HG.out.2.2.2.2.2
            have CF : Hid (∀ w', Rk 3 encS w' (.slice ao8 S.length c8) S → Calls Try.prog 29 #[.slice ao8 S.length c8, .agg #[.int .i64 (B.length : Nat), .int .i64 (O.length : Nat), .int .i64 (T.length : Nat)]] w' fun e w'' => e = .returned (.agg #[.int .i64 (fx : Nat), .int .i64 (fy : Nat), .int .i64 (fz : Nat)]) ∧ Below w'.heap.size w' w'') := Lib.hid (fun w' h => by
              have := firstOf_any (.slice ao8 S.length c8) S ⟨B.length, O.length, T.length⟩ w' h
              rw [hf] at this
              exact this)
            have CB : Hid (∀ w', Calls Try.prog 27 #[.agg #[.int .i64 (x : Nat), .int .i64 (y : Nat), .int .i64 (z : Nat)], .agg #[.int .i64 (fx : Nat), .int .i64 (fy : Nat), .int .i64 (fz : Nat)]] w' fun e w'' => e = .returned (.agg #[.int .i64 (x : Nat), .int .i64 (fx : Nat), .int .i64 (y : Nat), .int .i64 (fy : Nat), .int .i64 (z : Nat), .int .i64 (fz : Nat), .int .i64 0]) ∧ Below w'.heap.size w' w'') := Lib.hid (fun w' => between_any ⟨x, y, z⟩ ⟨fx, fy, fz⟩ w')
            rw [show decide (0 < 0) = false from rfl]
            have q0 : w7.cell? ⟨PE, 0, none⟩ = some (.int .i64 (B.length : Int)) := cell_at HEw7.out 0
            have q1 : w7.cell? ⟨PE, 1, none⟩ = some (.int .i64 (O.length : Int)) := cell_at HEw7.out 1
            have q2 : w7.cell? ⟨PE, 2, none⟩ = some (.int .i64 (T.length : Int)) := cell_at HEw7.out 2
            have HS3 : Hid (∀ w', Keep (fun _ => False) w7 w' → w'.cell? ⟨PA, 0, none⟩ = some (.int .i64 (x : Int)) ∧ w'.cell? ⟨PA, 1, none⟩ = some (.int .i64 (y : Int)) ∧ w'.cell? ⟨PA, 2, none⟩ = some (.int .i64 (z : Int)) ∧ w'.cell? ⟨PE, 0, none⟩ = some (.int .i64 (B.length : Int)) ∧ w'.cell? ⟨PE, 1, none⟩ = some (.int .i64 (O.length : Int)) ∧ w'.cell? ⟨PE, 2, none⟩ = some (.int .i64 (T.length : Int))) := Lib.hid (fun w' h => by
              have h2 := h.at HAw7.out (fun e => e)
              have h3 := h.at HEw7.out (fun e => e)
              exact ⟨cell_at h2 0, cell_at h2 1, cell_at h2 2, cell_at h3 0, cell_at h3 1, cell_at h3 2⟩)
            have hPC : PA ≠ wr.heap.size := Nat.ne_of_lt hPAr
            have hPEC : PE ≠ wr.heap.size := Nat.ne_of_lt (lt_of_at HEr.out)
            have TL : Hid (∀ w', Keep (fun _ => False) w4 w' → Calls Try.prog 21 #[.agg #[.int .i64 (x : Nat), .int .i64 (fx : Nat), .int .i64 (y : Nat), .int .i64 (fy : Nat), .int .i64 (z : Nat), .int .i64 (fz : Nat), .int .i64 (0 : Nat)], .pointer (some ⟨w.heap.size, 0, none⟩), .pointer (some ⟨w.heap.size + 1, 0, none⟩), .pointer (some ⟨w.heap.size + 1 + 1, 0, none⟩)] w' fun e w'' => e = .returned (.int .i64 (outc (part B x fx) (part O y fy) (part T z fz) : Nat)) ∧ Below w'.heap.size w' w'') := Lib.hid (fun w' h => by
              have hb := HX4.out.keep h
              have hB := HBl4.out w' h
              exact tells_any _ _ _ _ _ _ B O T x fx y fy z fz 0 w' hb.cells.1 hb.cells.2.1 hb.cells.2.2 (HB.out.below hB) (HO.out.below hB) (HT.out.below hB) (by omega) (by omega) (by omega) hl1.b hl1.b' hl1.o hl1.o' hl1.t hl1.t' (lt_of_at hb.one) (lt_of_at hb.two) (lt_of_at hb.three))
            clear hf hf1 hf2 hf3 hfs hl1
            generalize outc (part B x fx) (part O y fy) (part T z fz) = oc at *
            generalize hC : wr.heap.size = C at *
            have HCe := Lib.hid hC
            clear hC
            go_upto_region 13 with fail
            go_region_held3 (fun w' => w'.cell? ⟨PA, 0, none⟩ = some (.int .i64 (x : Int)) ∧ w'.cell? ⟨PA, 1, none⟩ = some (.int .i64 (y : Int)) ∧ w'.cell? ⟨PA, 2, none⟩ = some (.int .i64 (z : Int)) ∧ w'.cell? ⟨PE, 0, none⟩ = some (.int .i64 (B.length : Int)) ∧ w'.cell? ⟨PE, 1, none⟩ = some (.int .i64 (O.length : Int)) ∧ w'.cell? ⟨PE, 2, none⟩ = some (.int .i64 (T.length : Int)))
              (first
                | (with_reducible exact HX9.out)
                | (exact ⟨a0, a1, a2, q0, q1, q2⟩)
                | (exact HS3.out _ (Keep.refl _ _))
                | (exact HS3.out _ (Keep.refl _ _).drew)
                | (exact HS3.out _ ((Keep.refl _ _).drewN _))
                | (exact HS3.out _ HK8.out)
                | (exact HS3.out _ HK8.out.drew)
                | (exact HS3.out _ HK9.out)
                | (exact HS3.out _ HK9.out.drew))
              (first
                | (go_at_call 29
                   refine calls_at (args := #[.slice ao8 S.length c8, .agg #[.int .i64 (B.length : Nat), .int .i64 (O.length : Nat), .int .i64 (T.length : Nat)]]) rfl (CF.out _ (by first | exact RS7.out | exact RS7.out.below ((Keep.refl (fun _ => False) _).drew.below (fun _ e => e.elim) (Nat.le_refl _)))) ?_
                   rintro e w8 ⟨rfl, b8⟩
                   have HK8 := Lib.hid (Keep.trans (a := w7) (S := fun _ => False) (by first | exact (Keep.refl _ _) | exact (Keep.refl _ _).drew | exact (Keep.refl _ _).drewN _) (Keep.of_below b8))
                   clear b8)
                | (go_at_call 27
                   refine calls_at (args := #[.agg #[.int .i64 (x : Nat), .int .i64 (y : Nat), .int .i64 (z : Nat)], .agg #[.int .i64 (fx : Nat), .int .i64 (fy : Nat), .int .i64 (fz : Nat)]]) rfl (CB.out _) ?_
                   rintro e w9 ⟨rfl, b9⟩
                   have HK89 := Lib.hid (Keep.trans (a := w8) (S := fun _ => False) (by first | exact (Keep.refl _ _) | exact (Keep.refl _ _).drew | exact (Keep.refl _ _).drewN _) (Keep.of_below b9))
                   have HK9 := Lib.hid (HK8.out.trans HK89.out)
                   have hc9 := HK9.out.at HC7.out (fun e => e)
                   have f0 := frozen_at hc9 0
                   have f1 := frozen_at hc9 1
                   have f2 := frozen_at hc9 2
                   have f3 := frozen_at hc9 3
                   have f4 := frozen_at hc9 4
                   have f5 := frozen_at hc9 5
                   have f6 := frozen_at hc9 6
                   have d0 : w9.cell? ⟨C, 0, none⟩ = some (.int .i64 0) := cell_at hc9 0
                   have d1 : w9.cell? ⟨C, 1, none⟩ = some (.int .i64 0) := cell_at hc9 1
                   have d2 : w9.cell? ⟨C, 2, none⟩ = some (.int .i64 0) := cell_at hc9 2
                   have d3 : w9.cell? ⟨C, 3, none⟩ = some (.int .i64 0) := cell_at hc9 3
                   have d4 : w9.cell? ⟨C, 4, none⟩ = some (.int .i64 0) := cell_at hc9 4
                   have d5 : w9.cell? ⟨C, 5, none⟩ = some (.int .i64 0) := cell_at hc9 5
                   have d6 : w9.cell? ⟨C, 6, none⟩ = some (.int .i64 0) := cell_at hc9 6
                   have HC9 := Lib.hid hc9
                   have hp9 := set7_other (C := C) (.int .i64 (x : Int)) (.int .i64 (fx : Int)) (.int .i64 (y : Int)) (.int .i64 (fy : Int)) (.int .i64 (z : Int)) (.int .i64 (fz : Int)) (.int .i64 0) (HK9.out.at HAw7.out (fun e => e)) hPC
                   have hq9 := set7_other (C := C) (.int .i64 (x : Int)) (.int .i64 (fx : Int)) (.int .i64 (y : Int)) (.int .i64 (fy : Int)) (.int .i64 (z : Int)) (.int .i64 (fz : Int)) (.int .i64 0) (HK9.out.at HEw7.out (fun e => e)) hPEC
                   have HX9 : Hid ((((((((w9.setCell ⟨C, 0, none⟩ (.int .i64 (x : Int))).setCell ⟨C, 1, none⟩ (.int .i64 (fx : Int))).setCell ⟨C, 2, none⟩ (.int .i64 (y : Int))).setCell ⟨C, 3, none⟩ (.int .i64 (fy : Int))).setCell ⟨C, 4, none⟩ (.int .i64 (z : Int))).setCell ⟨C, 5, none⟩ (.int .i64 (fz : Int))).setCell ⟨C, 6, none⟩ (.int .i64 0)).cell? ⟨PA, 0, none⟩ = some (.int .i64 (x : Int)) ∧ (((((((w9.setCell ⟨C, 0, none⟩ (.int .i64 (x : Int))).setCell ⟨C, 1, none⟩ (.int .i64 (fx : Int))).setCell ⟨C, 2, none⟩ (.int .i64 (y : Int))).setCell ⟨C, 3, none⟩ (.int .i64 (fy : Int))).setCell ⟨C, 4, none⟩ (.int .i64 (z : Int))).setCell ⟨C, 5, none⟩ (.int .i64 (fz : Int))).setCell ⟨C, 6, none⟩ (.int .i64 0)).cell? ⟨PA, 1, none⟩ = some (.int .i64 (y : Int)) ∧ (((((((w9.setCell ⟨C, 0, none⟩ (.int .i64 (x : Int))).setCell ⟨C, 1, none⟩ (.int .i64 (fx : Int))).setCell ⟨C, 2, none⟩ (.int .i64 (y : Int))).setCell ⟨C, 3, none⟩ (.int .i64 (fy : Int))).setCell ⟨C, 4, none⟩ (.int .i64 (z : Int))).setCell ⟨C, 5, none⟩ (.int .i64 (fz : Int))).setCell ⟨C, 6, none⟩ (.int .i64 0)).cell? ⟨PA, 2, none⟩ = some (.int .i64 (z : Int)) ∧ (((((((w9.setCell ⟨C, 0, none⟩ (.int .i64 (x : Int))).setCell ⟨C, 1, none⟩ (.int .i64 (fx : Int))).setCell ⟨C, 2, none⟩ (.int .i64 (y : Int))).setCell ⟨C, 3, none⟩ (.int .i64 (fy : Int))).setCell ⟨C, 4, none⟩ (.int .i64 (z : Int))).setCell ⟨C, 5, none⟩ (.int .i64 (fz : Int))).setCell ⟨C, 6, none⟩ (.int .i64 0)).cell? ⟨PE, 0, none⟩ = some (.int .i64 (B.length : Int)) ∧ (((((((w9.setCell ⟨C, 0, none⟩ (.int .i64 (x : Int))).setCell ⟨C, 1, none⟩ (.int .i64 (fx : Int))).setCell ⟨C, 2, none⟩ (.int .i64 (y : Int))).setCell ⟨C, 3, none⟩ (.int .i64 (fy : Int))).setCell ⟨C, 4, none⟩ (.int .i64 (z : Int))).setCell ⟨C, 5, none⟩ (.int .i64 (fz : Int))).setCell ⟨C, 6, none⟩ (.int .i64 0)).cell? ⟨PE, 1, none⟩ = some (.int .i64 (O.length : Int)) ∧ (((((((w9.setCell ⟨C, 0, none⟩ (.int .i64 (x : Int))).setCell ⟨C, 1, none⟩ (.int .i64 (fx : Int))).setCell ⟨C, 2, none⟩ (.int .i64 (y : Int))).setCell ⟨C, 3, none⟩ (.int .i64 (fy : Int))).setCell ⟨C, 4, none⟩ (.int .i64 (z : Int))).setCell ⟨C, 5, none⟩ (.int .i64 (fz : Int))).setCell ⟨C, 6, none⟩ (.int .i64 0)).cell? ⟨PE, 2, none⟩ = some (.int .i64 (T.length : Int))) := Lib.hid ⟨cell_at hp9 0, cell_at hp9 1, cell_at hp9 2, cell_at hq9 0, cell_at hq9 1, cell_at hq9 2⟩
                   have HC10 : Hid ((((((((w9.setCell ⟨C, 0, none⟩ (.int .i64 (x : Int))).setCell ⟨C, 1, none⟩ (.int .i64 (fx : Int))).setCell ⟨C, 2, none⟩ (.int .i64 (y : Int))).setCell ⟨C, 3, none⟩ (.int .i64 (fy : Int))).setCell ⟨C, 4, none⟩ (.int .i64 (z : Int))).setCell ⟨C, 5, none⟩ (.int .i64 (fz : Int))).setCell ⟨C, 6, none⟩ (.int .i64 0)).heap[C]? = some (.cells #[.int .i64 (x : Int), .int .i64 (fx : Int), .int .i64 (y : Int), .int .i64 (fy : Int), .int .i64 (z : Int), .int .i64 (fz : Int), .int .i64 0] 39 (0, 0))) := Lib.hid (set7_at hc9 _ _ _ _ _ _ _)
                   have HK10 : Hid (Keep (fun _ => False) wr (((((((w9.setCell ⟨C, 0, none⟩ (.int .i64 (x : Int))).setCell ⟨C, 1, none⟩ (.int .i64 (fx : Int))).setCell ⟨C, 2, none⟩ (.int .i64 (y : Int))).setCell ⟨C, 3, none⟩ (.int .i64 (fy : Int))).setCell ⟨C, 4, none⟩ (.int .i64 (z : Int))).setCell ⟨C, 5, none⟩ (.int .i64 (fz : Int))).setCell ⟨C, 6, none⟩ (.int .i64 0))) := Lib.hid (set7_keep _ _ _ _ _ _ _ (HK7.out.trans HK9.out) (Or.inr (Nat.le_of_eq HCe.out)))
                   clear b9 hc9 hp9 hq9))
            clear HX9 HC9
            generalize (((((((w9.setCell ⟨C, 0, none⟩ (.int .i64 (x : Int))).setCell ⟨C, 1, none⟩ (.int .i64 (fx : Int))).setCell ⟨C, 2, none⟩ (.int .i64 (y : Int))).setCell ⟨C, 3, none⟩ (.int .i64 (fy : Int))).setCell ⟨C, 4, none⟩ (.int .i64 (z : Int))).setCell ⟨C, 5, none⟩ (.int .i64 (fz : Int))).setCell ⟨C, 6, none⟩ (.int .i64 0)) = w10 at *
            have lC10 := lt_of_at HC10.out
            have d0' : w10.cell? ⟨C, 0, none⟩ = some (.int .i64 (x : Int)) := cell_at HC10.out 0
            have d1' : w10.cell? ⟨C, 1, none⟩ = some (.int .i64 (fx : Int)) := cell_at HC10.out 1
            have d2' : w10.cell? ⟨C, 2, none⟩ = some (.int .i64 (y : Int)) := cell_at HC10.out 2
            have d3' : w10.cell? ⟨C, 3, none⟩ = some (.int .i64 (fy : Int)) := cell_at HC10.out 3
            have d4' : w10.cell? ⟨C, 4, none⟩ = some (.int .i64 (z : Int)) := cell_at HC10.out 4
            have d5' : w10.cell? ⟨C, 5, none⟩ = some (.int .i64 (fz : Int)) := cell_at HC10.out 5
            have d6' : w10.cell? ⟨C, 6, none⟩ = some (.int .i64 0) := cell_at HC10.out 6
            have TL1 := Lib.hid (TL.out w10 (HKr.out.trans HK10.out))
            clear f0 f1 f2 f3 f4 f5 f6 d0 d1 d2 d3 d4 d5 d6
            go_wp2_with fail
            refine calls_at (args := #[.agg #[.int .i64 (x : Nat), .int .i64 (fx : Nat), .int .i64 (y : Nat), .int .i64 (fy : Nat), .int .i64 (z : Nat), .int .i64 (fz : Nat), .int .i64 (0 : Nat)], .pointer (some ⟨w.heap.size, 0, none⟩), .pointer (some ⟨w.heap.size + 1, 0, none⟩), .pointer (some ⟨w.heap.size + 1 + 1, 0, none⟩)]) rfl TL1.out ?_
            rintro e w11 ⟨rfl, b11⟩
            have HK11 := Lib.hid (HK10.out.trans (Keep.of_below b11))
            have HC11 := Lib.hid ((Keep.of_below (S := fun _ => False) b11).at HC10.out (fun e => e))
            have e6' : w11.cell? ⟨C, 6, none⟩ = some (.int .i64 0) := cell_at HC11.out 6
            have f6' := frozen_at HC11.out 6
            have lC11 := lt_of_at HC11.out
            have HFin : Hid ((w11.setCell ⟨C, 6, none⟩ (.int .i64 (oc : Int))).heap[C]? = some (.cells #[.int .i64 (x : Int), .int .i64 (fx : Int), .int .i64 (y : Int), .int .i64 (fy : Int), .int .i64 (z : Int), .int .i64 (fz : Int), .int .i64 (oc : Int)] 39 (0, 0))) := Lib.hid (by simpa using set_at HC11.out 6 (.int .i64 (oc : Int)))
            have HKF := Lib.hid (HK11.out.setCell (p := ⟨C, 6, none⟩) (Or.inr (Nat.le_of_eq HCe.out)) (.int .i64 (oc : Int)))
            have HSF := RS
            clear HC10 HC11 b11 TL1 TL d0' d1' d2' d3' d4' d5' d6'
            go_wp2_with fail
            go_meet
            exact ⟨⟨x, fx, y, fy, z, fz, oc⟩, S, hS, HG, HFS, HSF, Lib.hid (by first | exact HFin.out | (rw [HCe.out]; exact HFin.out)), HKF⟩
          · have HG := Lib.hid (HL.out.run K Q HR.out (by rw [HRun.out]; exact h0))
            have HD := Lib.hid (Stb.drop S x y z HST.out (by rw [HN.out]; exact h0))
            rw [HRun.out] at HG
            rw [HN.out] at HD
            obtain ⟨xn, hxn⟩ : ∃ xn, x + n = xn := ⟨_, rfl⟩
            obtain ⟨yn, hyn⟩ : ∃ yn, y + n = yn := ⟨_, rfl⟩
            obtain ⟨zn, hzn⟩ : ∃ zn, z + n = zn := ⟨_, rfl⟩
            have CO : Hid (∀ w', Calls Try.prog 28 #[.agg #[.int .i64 (x : Nat), .int .i64 (y : Nat), .int .i64 (z : Nat)], .int .i64 n] w' fun e w'' => e = .returned (.agg #[.int .i64 (xn : Nat), .int .i64 (yn : Nat), .int .i64 (zn : Nat)]) ∧ Below w'.heap.size w' w'') := Lib.hid (fun w' => on_any x y z n xn yn zn w' hxn hyn hzn (by omega) (by omega) (by omega))
            rw [hxn, hyn, hzn] at HG
            rw [hxn] at HD
            have CB : Hid (∀ w', Calls Try.prog 27 #[.agg #[.int .i64 (x : Nat), .int .i64 (y : Nat), .int .i64 (z : Nat)], .agg #[.int .i64 (xn : Nat), .int .i64 (yn : Nat), .int .i64 (zn : Nat)]] w' fun e w'' => e = .returned (.agg #[.int .i64 (x : Nat), .int .i64 (xn : Nat), .int .i64 (y : Nat), .int .i64 (yn : Nat), .int .i64 (z : Nat), .int .i64 (zn : Nat), .int .i64 0]) ∧ Below w'.heap.size w' w'') := Lib.hid (fun w' => between_any ⟨x, y, z⟩ ⟨xn, yn, zn⟩ w')
            have g0 : decide (0 < n) = true := decide_eq_true (by omega)
            rw [g0]
            have HS3 : Hid (∀ w', Keep (fun _ => False) w7 w' → w'.cell? ⟨PA, 0, none⟩ = some (.int .i64 (x : Int)) ∧ w'.cell? ⟨PA, 1, none⟩ = some (.int .i64 (y : Int)) ∧ w'.cell? ⟨PA, 2, none⟩ = some (.int .i64 (z : Int))) := Lib.hid (fun w' h => by
              have h2 := h.at HAw7.out (fun e => e)
              exact ⟨cell_at h2 0, cell_at h2 1, cell_at h2 2⟩)
            clear hxn hyn hzn h0
            have hPC : PA ≠ wr.heap.size := Nat.ne_of_lt hPAr
            generalize hC : wr.heap.size = C at *
            have HCe := Lib.hid hC
            clear hC
            go_upto_region 10 with fail
            go_region_held3 (fun w' => w'.cell? ⟨PA, 0, none⟩ = some (.int .i64 (x : Int)) ∧ w'.cell? ⟨PA, 1, none⟩ = some (.int .i64 (y : Int)) ∧ w'.cell? ⟨PA, 2, none⟩ = some (.int .i64 (z : Int)))
              (first
                | (with_reducible exact HX9.out)
                | (exact ⟨a0, a1, a2⟩)
                | (exact HS3.out _ (Keep.refl _ _))
                | (exact HS3.out _ (Keep.refl _ _).drew)
                | (exact HS3.out _ ((Keep.refl _ _).drewN _))
                | (exact HS3.out _ HK8.out)
                | (exact HS3.out _ HK8.out.drew)
                | (exact HS3.out _ HK9.out)
                | (exact HS3.out _ HK9.out.drew))
              (first
                | (go_at_call 28
                   refine calls_at (args := #[.agg #[.int .i64 (x : Nat), .int .i64 (y : Nat), .int .i64 (z : Nat)], .int .i64 n]) rfl (CO.out _) ?_
                   rintro e w8 ⟨rfl, b8⟩
                   have HK8 := Lib.hid (Keep.trans (a := w7) (S := fun _ => False) (by first | exact (Keep.refl _ _) | exact (Keep.refl _ _).drew | exact (Keep.refl _ _).drewN _) (Keep.of_below b8))
                   clear b8)
                | (go_at_call 27
                   refine calls_at (args := #[.agg #[.int .i64 (x : Nat), .int .i64 (y : Nat), .int .i64 (z : Nat)], .agg #[.int .i64 (xn : Nat), .int .i64 (yn : Nat), .int .i64 (zn : Nat)]]) rfl (CB.out _) ?_
                   rintro e w9 ⟨rfl, b9⟩
                   have HK89 := Lib.hid (Keep.trans (a := w8) (S := fun _ => False) (by first | exact (Keep.refl _ _) | exact (Keep.refl _ _).drew | exact (Keep.refl _ _).drewN _) (Keep.of_below b9))
                   have HK9 := Lib.hid (HK8.out.trans HK89.out)
                   have hc9 := HK9.out.at HC7.out (fun e => e)
                   have f0 := frozen_at hc9 0
                   have f1 := frozen_at hc9 1
                   have f2 := frozen_at hc9 2
                   have f3 := frozen_at hc9 3
                   have f4 := frozen_at hc9 4
                   have f5 := frozen_at hc9 5
                   have f6 := frozen_at hc9 6
                   have d0 : w9.cell? ⟨C, 0, none⟩ = some (.int .i64 0) := cell_at hc9 0
                   have d1 : w9.cell? ⟨C, 1, none⟩ = some (.int .i64 0) := cell_at hc9 1
                   have d2 : w9.cell? ⟨C, 2, none⟩ = some (.int .i64 0) := cell_at hc9 2
                   have d3 : w9.cell? ⟨C, 3, none⟩ = some (.int .i64 0) := cell_at hc9 3
                   have d4 : w9.cell? ⟨C, 4, none⟩ = some (.int .i64 0) := cell_at hc9 4
                   have d5 : w9.cell? ⟨C, 5, none⟩ = some (.int .i64 0) := cell_at hc9 5
                   have d6 : w9.cell? ⟨C, 6, none⟩ = some (.int .i64 0) := cell_at hc9 6
                   have HC9 := Lib.hid hc9
                   have hp9 := set7_other (C := C) (.int .i64 (x : Int)) (.int .i64 (xn : Int)) (.int .i64 (y : Int)) (.int .i64 (yn : Int)) (.int .i64 (z : Int)) (.int .i64 (zn : Int)) (.int .i64 0) (HK9.out.at HAw7.out (fun e => e)) hPC
                   have HX9 : Hid ((((((((w9.setCell ⟨C, 0, none⟩ (.int .i64 (x : Int))).setCell ⟨C, 1, none⟩ (.int .i64 (xn : Int))).setCell ⟨C, 2, none⟩ (.int .i64 (y : Int))).setCell ⟨C, 3, none⟩ (.int .i64 (yn : Int))).setCell ⟨C, 4, none⟩ (.int .i64 (z : Int))).setCell ⟨C, 5, none⟩ (.int .i64 (zn : Int))).setCell ⟨C, 6, none⟩ (.int .i64 0)).cell? ⟨PA, 0, none⟩ = some (.int .i64 (x : Int)) ∧ (((((((w9.setCell ⟨C, 0, none⟩ (.int .i64 (x : Int))).setCell ⟨C, 1, none⟩ (.int .i64 (xn : Int))).setCell ⟨C, 2, none⟩ (.int .i64 (y : Int))).setCell ⟨C, 3, none⟩ (.int .i64 (yn : Int))).setCell ⟨C, 4, none⟩ (.int .i64 (z : Int))).setCell ⟨C, 5, none⟩ (.int .i64 (zn : Int))).setCell ⟨C, 6, none⟩ (.int .i64 0)).cell? ⟨PA, 1, none⟩ = some (.int .i64 (y : Int)) ∧ (((((((w9.setCell ⟨C, 0, none⟩ (.int .i64 (x : Int))).setCell ⟨C, 1, none⟩ (.int .i64 (xn : Int))).setCell ⟨C, 2, none⟩ (.int .i64 (y : Int))).setCell ⟨C, 3, none⟩ (.int .i64 (yn : Int))).setCell ⟨C, 4, none⟩ (.int .i64 (z : Int))).setCell ⟨C, 5, none⟩ (.int .i64 (zn : Int))).setCell ⟨C, 6, none⟩ (.int .i64 0)).cell? ⟨PA, 2, none⟩ = some (.int .i64 (z : Int))) := Lib.hid ⟨cell_at hp9 0, cell_at hp9 1, cell_at hp9 2⟩
                   have HC10 : Hid ((((((((w9.setCell ⟨C, 0, none⟩ (.int .i64 (x : Int))).setCell ⟨C, 1, none⟩ (.int .i64 (xn : Int))).setCell ⟨C, 2, none⟩ (.int .i64 (y : Int))).setCell ⟨C, 3, none⟩ (.int .i64 (yn : Int))).setCell ⟨C, 4, none⟩ (.int .i64 (z : Int))).setCell ⟨C, 5, none⟩ (.int .i64 (zn : Int))).setCell ⟨C, 6, none⟩ (.int .i64 0)).heap[C]? = some (.cells #[.int .i64 (x : Int), .int .i64 (xn : Int), .int .i64 (y : Int), .int .i64 (yn : Int), .int .i64 (z : Int), .int .i64 (zn : Int), .int .i64 0] 39 (0, 0))) := Lib.hid (set7_at hc9 _ _ _ _ _ _ _)
                   have HK10 : Hid (Keep (fun _ => False) wr (((((((w9.setCell ⟨C, 0, none⟩ (.int .i64 (x : Int))).setCell ⟨C, 1, none⟩ (.int .i64 (xn : Int))).setCell ⟨C, 2, none⟩ (.int .i64 (y : Int))).setCell ⟨C, 3, none⟩ (.int .i64 (yn : Int))).setCell ⟨C, 4, none⟩ (.int .i64 (z : Int))).setCell ⟨C, 5, none⟩ (.int .i64 (zn : Int))).setCell ⟨C, 6, none⟩ (.int .i64 0))) := Lib.hid (set7_keep _ _ _ _ _ _ _ (HK7.out.trans HK9.out) (Or.inr (Nat.le_of_eq HCe.out)))
                   clear b9 hc9 hp9))
            clear HX9 HC9
            generalize (((((((w9.setCell ⟨C, 0, none⟩ (.int .i64 (x : Int))).setCell ⟨C, 1, none⟩ (.int .i64 (xn : Int))).setCell ⟨C, 2, none⟩ (.int .i64 (y : Int))).setCell ⟨C, 3, none⟩ (.int .i64 (yn : Int))).setCell ⟨C, 4, none⟩ (.int .i64 (z : Int))).setCell ⟨C, 5, none⟩ (.int .i64 (zn : Int))).setCell ⟨C, 6, none⟩ (.int .i64 0)) = w10 at *
            have d6' : w10.cell? ⟨C, 6, none⟩ = some (.int .i64 0) := cell_at HC10.out 6
            have f6' := frozen_at HC10.out 6
            have lC10 := lt_of_at HC10.out
            obtain ⟨v', rS, kS⟩ := slice_fromS RS.out n hpl (by omega)
            have HFin : Hid ((w10.setCell ⟨C, 6, none⟩ (.int .i64 1)).heap[C]? = some (.cells #[.int .i64 (x : Int), .int .i64 (xn : Int), .int .i64 (y : Int), .int .i64 (yn : Int), .int .i64 (z : Int), .int .i64 (zn : Int), .int .i64 1] 39 (0, 0))) := Lib.hid (by simpa using set_at HC10.out 6 (.int .i64 1))
            have HKF := Lib.hid (HK10.out.setCell (p := ⟨C, 6, none⟩) (Or.inr (Nat.le_of_eq HCe.out)) (.int .i64 1))
            have HSF := Lib.hid (kS w4 (Below.refl _ _))
            clear kS f0 f1 f2 f3 f4 f5 f6 d0 d1 d2 d3 d4 d5 d6 HC10
            go_wp2_with fail
            go_meet
            exact ⟨⟨x, xn, y, yn, z, zn, 1⟩, S.drop n, by rw [List.length_drop]; omega, HG, HD, HSF, Lib.hid (by first | exact HFin.out | (rw [HCe.out]; exact HFin.out)), HKF⟩
        case rest =>
          obtain ⟨c, S', hS', HC, HST', RS', HA', HK⟩ := hcut
          have HPAc := Lib.hid (HK.out.at HA.out (fun e => e))
          have c0 : wc.cell? ⟨wr.heap.size, 0, none⟩ = some (.int .i64 (c.b1 : Int)) := cell_at HA'.out 0
          have c1 : wc.cell? ⟨wr.heap.size, 1, none⟩ = some (.int .i64 (c.b2 : Int)) := cell_at HA'.out 1
          have c2 : wc.cell? ⟨wr.heap.size, 2, none⟩ = some (.int .i64 (c.o1 : Int)) := cell_at HA'.out 2
          have c3 : wc.cell? ⟨wr.heap.size, 3, none⟩ = some (.int .i64 (c.o2 : Int)) := cell_at HA'.out 3
          have c4 : wc.cell? ⟨wr.heap.size, 4, none⟩ = some (.int .i64 (c.t1 : Int)) := cell_at HA'.out 4
          have c5 : wc.cell? ⟨wr.heap.size, 5, none⟩ = some (.int .i64 (c.t2 : Int)) := cell_at HA'.out 5
          have c6 : wc.cell? ⟨wr.heap.size, 6, none⟩ = some (.int .i64 (c.out : Int)) := cell_at HA'.out 6
          have HK4c := Lib.hid (HKr.out.trans HK.out)
          have hw4 : w4.heap.size ≤ wc.heap.size := HK4c.out.size
          have Ho2 := Lib.hid (own_keep Ho.out HK.out (fun _ _ h => h))
          have Hlt9 := Lib.hid Ho.out.lt
          have hPC : PA ≠ wr.heap.size := Nat.ne_of_lt (lt_of_at HA.out)
          generalize wr.heap.size = C at *
          go_wp2_with (at_builtin; refine wpList_append_own _ rfl _ _ 25 rfl w4.heap.size 39 i0 (.agg #[.int .i64 0, .int .i64 0, .int .i64 0, .int .i64 0, .int .i64 0, .int .i64 0, .int .i64 0]) 7 56 Try.underlying25 hi hz0 hz1 hz2 rfl (by decide) _ _ _ rfl (Ho2.out.alloc _) ⟨wc.heap.size, 0, none⟩ 1 1 (encC c) rfl rfl newsK (encC_one _) (by unfold maxLen; omega) (by omega) (by simp; omega) ?_)
          intro v' w9 hown' hgrow _
          have R : w9.ownsRow w4.heap.size 39 7 v' (o ++ [c]).length ((o ++ [c]).flatMap encC) := by
            rw [List.length_append, List.flatMap_append]
            simpa using hown'
          have HC9 : Hid (w9.heap[C]? = some (.cells (encC c).toArray 39 (0, 0))) := Lib.hid (by
            have h1 := alloc_at HA'.out (.cells (encC c).toArray 39)
            exact (hgrow.block C (lt_of_at h1) (fun e => by have := (Hlt9.out C e.symm).2; omega)).trans h1)
          have HP9 : Hid (w9.heap[PA]? = some (.cells #[.int .i64 (x : Int), .int .i64 (y : Int), .int .i64 (z : Int)] 51 (0, 0))) := Lib.hid (by
            have h1 := alloc_at HPAc.out (.cells (encC c).toArray 39)
            refine (hgrow.block PA (lt_of_at h1) (fun e => ?_)).trans h1
            obtain ⟨cur, hc⟩ := own_obj Ho2.out e.symm
            have h2 := HPAc.out
            rw [hc] at h2
            simp at h2)
          have HK9 := Lib.hid ((HK4c.out.alloc (.cells (encC c).toArray 39)).grown hgrow (fun g hg => Or.inr (Ho2.out.lt g hg).1))
          have R1 := Lib.hid R
          have e0 : w9.cell? ⟨C, 0, none⟩ = some (.int .i64 (c.b1 : Int)) := cell_at HC9.out 0
          have e1 : w9.cell? ⟨C, 1, none⟩ = some (.int .i64 (c.b2 : Int)) := cell_at HC9.out 1
          have e2 : w9.cell? ⟨C, 2, none⟩ = some (.int .i64 (c.o1 : Int)) := cell_at HC9.out 2
          have e3 : w9.cell? ⟨C, 3, none⟩ = some (.int .i64 (c.o2 : Int)) := cell_at HC9.out 3
          have e4 : w9.cell? ⟨C, 4, none⟩ = some (.int .i64 (c.t1 : Int)) := cell_at HC9.out 4
          have e5 : w9.cell? ⟨C, 5, none⟩ = some (.int .i64 (c.t2 : Int)) := cell_at HC9.out 5
          have e6 : w9.cell? ⟨C, 6, none⟩ = some (.int .i64 (c.out : Int)) := cell_at HC9.out 6
          have lC9 := lt_of_at HC9.out
          have CBH : Hid (∀ w', Calls Try.prog 30 #[.agg #[.int .i64 (c.b1 : Nat), .int .i64 (c.b2 : Nat), .int .i64 (c.o1 : Nat), .int .i64 (c.o2 : Nat), .int .i64 (c.t1 : Nat), .int .i64 (c.t2 : Nat), .int .i64 (c.out : Nat)]] w' fun e w'' => e = .returned (.agg #[.int .i64 (c.b2 : Nat), .int .i64 (c.o2 : Nat), .int .i64 (c.t2 : Nat)]) ∧ Below w'.heap.size w' w'') := Lib.hid (fun w' => behind_any c w')
          clear R hown' hgrow c0 c1 c2 c3 c4 c5 c6
          go_wp2_with fail
          refine calls_at (args := #[.agg #[.int .i64 (c.b1 : Nat), .int .i64 (c.b2 : Nat), .int .i64 (c.o1 : Nat), .int .i64 (c.o2 : Nat), .int .i64 (c.t1 : Nat), .int .i64 (c.t2 : Nat), .int .i64 (c.out : Nat)]]) rfl (CBH.out _) ?_
          rintro e w10 ⟨rfl, b10⟩
          have hk10 : Keep (fun _ => False) w9 w10 := Keep.of_below b10
          have HP10 := Lib.hid (hk10.at HP9.out (fun e => e))
          have HK10 := Lib.hid (HK9.out.trans hk10)
          have HO10 := Lib.hid (own_keep R1.out hk10 (fun _ _ e => e))
          have lP10 := lt_of_at HP10.out
          have p0 : w10.cell? ⟨PA, 0, none⟩ = some (.int .i64 (x : Int)) := cell_at HP10.out 0
          have p1 : w10.cell? ⟨PA, 1, none⟩ = some (.int .i64 (y : Int)) := cell_at HP10.out 1
          have p2 : w10.cell? ⟨PA, 2, none⟩ = some (.int .i64 (z : Int)) := cell_at HP10.out 2
          have f0 := frozen_at HP10.out 0
          have f1 := frozen_at HP10.out 1
          have f2 := frozen_at HP10.out 2
          clear b10 hk10 e0 e1 e2 e3 e4 e5 e6 CBH
          go_upto_region 17 with fail
          have HP11 : Hid ((((w10.setCell ⟨PA, 0, none⟩ (.int .i64 (c.b2 : Int))).setCell ⟨PA, 1, none⟩ (.int .i64 (c.o2 : Int))).setCell ⟨PA, 2, none⟩ (.int .i64 (c.t2 : Int))).heap[PA]? = some (.cells #[.int .i64 (c.b2 : Int), .int .i64 (c.o2 : Int), .int .i64 (c.t2 : Int)] 51 (0, 0))) := Lib.hid (by
            have h0 : (w10.setCell ⟨PA, 0, none⟩ (.int .i64 (c.b2 : Int))).heap[PA]? = some (.cells #[.int .i64 (c.b2 : Int), .int .i64 (y : Int), .int .i64 (z : Int)] 51 (0, 0)) := by simpa using set_at HP10.out 0 (.int .i64 (c.b2 : Int))
            have h1 : ((w10.setCell ⟨PA, 0, none⟩ (.int .i64 (c.b2 : Int))).setCell ⟨PA, 1, none⟩ (.int .i64 (c.o2 : Int))).heap[PA]? = some (.cells #[.int .i64 (c.b2 : Int), .int .i64 (c.o2 : Int), .int .i64 (z : Int)] 51 (0, 0)) := by simpa using set_at h0 1 (.int .i64 (c.o2 : Int))
            simpa using set_at h1 2 (.int .i64 (c.t2 : Int)))
          have kst : Keep (fun g => g = PA) w10 (((w10.setCell ⟨PA, 0, none⟩ (.int .i64 (c.b2 : Int))).setCell ⟨PA, 1, none⟩ (.int .i64 (c.o2 : Int))).setCell ⟨PA, 2, none⟩ (.int .i64 (c.t2 : Int))) :=
            (((Keep.refl (fun g => g = PA) w10).setCell (p := ⟨PA, 0, none⟩) (Or.inl rfl) _).setCell (p := ⟨PA, 1, none⟩) (Or.inl rfl) _).setCell (p := ⟨PA, 2, none⟩) (Or.inl rfl) _
          have HO11 := Lib.hid (own_keep HO10.out kst (fun g hg e => by
            subst e
            obtain ⟨cur, hc⟩ := own_obj HO10.out hg
            have h2 := HP10.out
            rw [hc] at h2
            simp at h2))
          have HK11 := Lib.hid (((HK10.out.setCell (p := ⟨PA, 0, none⟩) (Or.inr hPA) (.int .i64 (c.b2 : Int))).setCell (p := ⟨PA, 1, none⟩) (Or.inr hPA) (.int .i64 (c.o2 : Int))).setCell (p := ⟨PA, 2, none⟩) (Or.inr hPA) (.int .i64 (c.t2 : Int)))
          clear kst p0 p1 p2 f0 f1 f2
          generalize ((w10.setCell ⟨PA, 0, none⟩ (.int .i64 (c.b2 : Int))).setCell ⟨PA, 1, none⟩ (.int .i64 (c.o2 : Int))).setCell ⟨PA, 2, none⟩ (.int .i64 (c.t2 : Int)) = w11 at *
          have p0 : w11.cell? ⟨PA, 0, none⟩ = some (.int .i64 (c.b2 : Int)) := cell_at HP11.out 0
          have p1 : w11.cell? ⟨PA, 1, none⟩ = some (.int .i64 (c.o2 : Int)) := cell_at HP11.out 1
          have p2 : w11.cell? ⟨PA, 2, none⟩ = some (.int .i64 (c.t2 : Int)) := cell_at HP11.out 2
          have lP11 := lt_of_at HP11.out
          have HNew := Lib.hid (alloc_new w11 (.cells #[.int .i64 (c.b2 : Int), .int .i64 (c.o2 : Int), .int .i64 (c.t2 : Int)] 51))
          go_wp2_with fail
          go_roundw
          case rel => exact ⟨c.b2, c.o2, c.t2, o ++ [c], S', _, rfl, HC.out.2.2.2.2.2.b', HC.out.2.2.2.2.2.o', HC.out.2.2.2.2.2.t', hS', HK11.out.size, RS', Lib.hid (HO11.out.alloc _), Lib.hid (HK11.out.alloc _), HNew, Lib.hid HC.out.2.2.2.1, HST'⟩
          case measure =>
            have n0 : (w11.alloc (.cells #[.int .i64 (c.b2 : Int), .int .i64 (c.o2 : Int), .int .i64 (c.t2 : Int)] 51)).cell? ⟨w11.heap.size, 0, none⟩ = some (.int .i64 (c.b2 : Int)) := cell_at HNew.out 0
            have n1 : (w11.alloc (.cells #[.int .i64 (c.b2 : Int), .int .i64 (c.o2 : Int), .int .i64 (c.t2 : Int)] 51)).cell? ⟨w11.heap.size, 1, none⟩ = some (.int .i64 (c.o2 : Int)) := cell_at HNew.out 1
            have n2 : (w11.alloc (.cells #[.int .i64 (c.b2 : Int), .int .i64 (c.o2 : Int), .int .i64 (c.t2 : Int)] 51)).cell? ⟨w11.heap.size, 2, none⟩ = some (.int .i64 (c.t2 : Int)) := cell_at HNew.out 2
            have o0 : wr.cell? ⟨PA, 0, none⟩ = some (.int .i64 (x : Int)) := cell_at HA.out 0
            have o1 : wr.cell? ⟨PA, 1, none⟩ = some (.int .i64 (y : Int)) := cell_at HA.out 1
            have o2 : wr.cell? ⟨PA, 2, none⟩ = some (.int .i64 (z : Int)) := cell_at HA.out 2
            have HM := HC.out.2.2.2.2.1
            simp only [Option.getD_some, n0, n1, n2, o0, o1, o2, intOf, Int.toNat_natCast]
            exact HM

end Go.Proofs.Ytbfclmhcoelplaa.Wv

namespace Go.Proofs.Ytbfclmhcoelplaa.Wv
open Go.RowKit Go.Proofs.Ytbfclmhcoelplaa.Cm Go.Proofs.Ytbfclmhcoelplaa.Lc
set_option linter.unusedVariables false

theorem merge_yes {B O T : List Int} (h : cleanB (chunks B O T) = true) : merge B O T = (mg O T (chunks B O T), true) := by unfold merge; rw [if_pos h]
theorem merge_no {B O T : List Int} (h : cleanB (chunks B O T) = false) : merge B O T = ([], false) := by unfold merge; rw [if_neg (by simp [h])]
theorem clean_at {l : List Ch} (h : cleanB l = true) {i : Nat} (hi : i < l.length) : l[i].out ≠ 5 := by
  unfold cleanB at h
  rw [List.all_eq_true] at h
  simpa using h _ (List.getElem_mem hi)
theorem mg_zero (O T : List Int) (l : List Ch) : mg O T (l.take 0) = [] := by rw [List.take_zero]; rfl
/-- One more part. -/
theorem part_add (O T : List Int) (B : List Int) {i : Nat} (hi : i < (chunks B O T).length) : (mg O T ((chunks B O T).take i)).length + (mg1 O T (chunks B O T)[i]).length ≤ O.length + T.length := by
  have := mg_take_len B O T (i + 1)
  rw [mg_take hi, List.length_append] at this
  exact this

set_option maxHeartbeats 6400000 in
set_option maxRecDepth 100000 in
theorem wmerge_any (va vb vc : Value) (B O T : List Int) (w : World) (hB : Rz w va B) (hO : Rz w vb O) (hT : Rz w vc T) (lB : B.length ≤ 10000) (lO : O.length ≤ 10000) (lT : T.length ≤ 10000)
    (hch : Calls Try.prog 12 #[va, vb, vc] w fun e w' => ∃ v, e = .returned v ∧ Rk 7 encC w' v (chunks B O T) ∧ Below w.heap.size w w') :
    Calls Try.prog 14 #[va, vb, vc] w (MergeOk B O T w) := by
  have HO := Lib.hid hO
  have HT := Lib.hid hT
  have HCH := Lib.hid (hch)
  have hcl := chunks_len B O T
  obtain ⟨aoB, cB, rfl⟩ := hB.len
  obtain ⟨aoO, cO, rfl⟩ := hO.len
  obtain ⟨aoT, cT, rfl⟩ := hT.len
  clear hB hO hT
  go_enter Try.func14, Try.ntmps14
  go_wp2_with fail
  refine HCH.out.mono ?_
  rintro e w1 ⟨v, rfl, hrk, b1⟩
  have B1 := Lib.hid b1
  have RK := Lib.hid hrk
  have HCL := Lib.hid (wclean_any v _ w1 hrk (by omega))
  clear hrk b1 HCH
  obtain ⟨ao, ca, rfl⟩ := RK.out.len
  go_wp2_with fail
  refine HCL.out.mono ?_
  rintro e w2 ⟨rfl, b2⟩
  have B2 := Lib.hid (B1.out.trans (b2.mono B1.out.size))
  have F := Lib.hid (Rk.seven (RK.out.below (b2)))
  clear HCL RK B1 b2
  cases hc : cleanB (chunks B O T) with
  | false =>
    have HM := Lib.hid (merge_no hc)
    clear hc F
    go_wp2_with fail
    go_ret2
    exact ⟨_, by rw [HM.out]; rfl, by rw [HM.out]; exact ⟨none, 0, rfl, Nat.le_refl _, Or.inl rfl⟩, B2.out⟩
  | true =>
    have HM := Lib.hid (merge_yes hc)
    have HC := Lib.hid (fun i hi => clean_at hc (i := i) hi)
    have HLS := Lib.hid (chunks_lies B O T)
    have HPA := Lib.hid (fun i hi => part_add O T B (i := i) hi)
    have HTK := Lib.hid (fun i hi => mg_take (O := O) (T := T) (l := chunks B O T) (i := i) hi)
    clear hc
    generalize chunks B O T = l at *
    go_wp2_with fail
    go_loopw [9, 21] (fun v s wr => ∃ i : Nat, i ≤ l.length ∧ s = .int .i64 i ∧ wr.ownsRow w2.heap.size 3 1 v (mg O T (l.take i)).length ((mg O T (l.take i)).map (Value.int .i64)) ∧ Below w2.heap.size w2 wr) (fun _ s _ => l.length - (intOf s).toNat)
    case atStart => exact ⟨0, Nat.zero_le _, rfl, by rw [mg_zero]; exact World.ownsRow_nil _ _ _ _, Below.refl _ _⟩
    case round =>
      obtain ⟨i, hil, rfl, hown, hbe⟩ := hrel
      have Ho := Lib.hid hown
      have Hb := Lib.hid hbe
      clear hown hbe
      by_cases hlt : i < l.length
      · obtain ⟨b, o, rfl, hb, f0, f1, f2, f3, f4, f5, f6⟩ := F.out i hlt
        have p0 : wr.cell? ⟨b, o + i * 7, none⟩ = some (.int .i64 l[i].b1) := (Hb.out.cell (by exact hb)).trans f0
        have p1 : wr.cell? ⟨b, o + i * 7 + 1, none⟩ = some (.int .i64 l[i].b2) := (Hb.out.cell (by exact hb)).trans f1
        have p2 : wr.cell? ⟨b, o + i * 7 + 2, none⟩ = some (.int .i64 l[i].o1) := (Hb.out.cell (by exact hb)).trans f2
        have p3 : wr.cell? ⟨b, o + i * 7 + 3, none⟩ = some (.int .i64 l[i].o2) := (Hb.out.cell (by exact hb)).trans f3
        have p4 : wr.cell? ⟨b, o + i * 7 + 4, none⟩ = some (.int .i64 l[i].t1) := (Hb.out.cell (by exact hb)).trans f4
        have p5 : wr.cell? ⟨b, o + i * 7 + 5, none⟩ = some (.int .i64 l[i].t2) := (Hb.out.cell (by exact hb)).trans f5
        have p6 : wr.cell? ⟨b, o + i * 7 + 6, none⟩ = some (.int .i64 l[i].out) := (Hb.out.cell (by exact hb)).trans f6
        have HPO := Lib.hid (fun w' (h : Below w2.heap.size w2 w') => wpart_any (.slice aoO O.length cO) O l[i].o1 l[i].o2 w' (HO.out.below (B2.out.trans (h.mono B2.out.size))) (HLS.out _ (List.getElem_mem hlt)).o (HLS.out _ (List.getElem_mem hlt)).o' (by omega))
        have HPT := Lib.hid (fun w' (h : Below w2.heap.size w2 w') => wpart_any (.slice aoT T.length cT) T l[i].t1 l[i].t2 w' (HT.out.below (B2.out.trans (h.mono B2.out.size))) (HLS.out _ (List.getElem_mem hlt)).t (HLS.out _ (List.getElem_mem hlt)).t' (by omega))
        have hout : l[i].out = 1 ∨ l[i].out = 2 ∨ l[i].out = 3 ∨ l[i].out = 4 := by
          have h1 := (HLS.out _ (List.getElem_mem hlt)).lo
          have h2 := (HLS.out _ (List.getElem_mem hlt)).hi
          have h3 := HC.out i hlt
          omega
        have HN := Lib.hid (HTK.out i hlt)
        have hlen := HPA.out i hlt
        unfold mg1 at HN hlen
        clear f0 f1 f2 f3 f4 f5 f6
        generalize (l[i].b1 : Int) = x0 at *
        generalize (l[i].b2 : Int) = x1 at *
        have tt : True := trivial
        rcases hout with ho | ho | ho | ho
        · rw [ho] at p6
          rw [ho] at HN hlen
          rw [if_pos (by omega)] at HN hlen
          replace p6 : wr.cell? ⟨b, o + i * 7 + 6, none⟩ = some (.int .i64 1) := p6
          have HL := Lib.hid hlen
          clear hlen ho
          generalize l[i].t1 = y1 at *
          generalize l[i].t2 = y2 at *
          generalize part T y1 y2 = ps at *
          go_wp2_with fail
          refine (HPT.out _ (Hb.out.alloc Hb.out.size _)).mono ?_
          rintro e w4 ⟨v4, rfl, r4, b4⟩
          have K4 : Keep (fun _ => False) wr w4 := ((Keep.refl (fun _ => False) wr).alloc _).trans (Keep.of_below b4)
          have hb4 : Below w2.heap.size w2 w4 := Hb.out.trans (K4.below (fun _ h => h.elim) Hb.out.size)
          obtain ⟨v5, w5, q5, o5, g5⟩ := run_append_rz (own_keep Ho.out K4 (fun _ _ h => h)) r4 hb4.size (by have := HL.out; omega)
          have HB5 := Lib.hid (hb4.grown g5 hb4.size (fun k hk => (Ho.out.lt k hk).1))
          rw [← HN.out] at o5
          have HO5 := Lib.hid o5
          clear r4 b4 K4 hb4 o5 g5 p0 p1 p2 p3 p4 p5 p6
          obtain ⟨a9, k9, rfl⟩ := own_len Ho.out
          obtain ⟨a5, k5, rfl⟩ := own_len HO5.out
          go_wp2_with (at_builtin; refine Lib.wpList_append_run _ rfl (.tmp 27) (.tmp 31) _ _ rfl _ _ rfl rfl _ _ (q5 _) ?_)
          go_roundw
          case rel => exact ⟨i + 1, by omega, by go_num, HO5.out, HB5.out⟩
          case measure => simp [intOf] <;> omega
        · rw [ho] at p6
          rw [ho] at HN hlen
          rw [if_neg (by omega)] at HN hlen
          replace p6 : wr.cell? ⟨b, o + i * 7 + 6, none⟩ = some (.int .i64 2) := p6
          have HL := Lib.hid hlen
          clear hlen ho
          generalize l[i].o1 = y1 at *
          generalize l[i].o2 = y2 at *
          generalize part O y1 y2 = ps at *
          go_wp2_with fail
          refine (HPO.out _ (Hb.out.alloc Hb.out.size _)).mono ?_
          rintro e w4 ⟨v4, rfl, r4, b4⟩
          have K4 : Keep (fun _ => False) wr w4 := ((Keep.refl (fun _ => False) wr).alloc _).trans (Keep.of_below b4)
          have hb4 : Below w2.heap.size w2 w4 := Hb.out.trans (K4.below (fun _ h => h.elim) Hb.out.size)
          obtain ⟨v5, w5, q5, o5, g5⟩ := run_append_rz (own_keep Ho.out K4 (fun _ _ h => h)) r4 hb4.size (by have := HL.out; omega)
          have HB5 := Lib.hid (hb4.grown g5 hb4.size (fun k hk => (Ho.out.lt k hk).1))
          rw [← HN.out] at o5
          have HO5 := Lib.hid o5
          clear r4 b4 K4 hb4 o5 g5 p0 p1 p2 p3 p4 p5 p6
          obtain ⟨a9, k9, rfl⟩ := own_len Ho.out
          obtain ⟨a5, k5, rfl⟩ := own_len HO5.out
          go_wp2_with (at_builtin; refine Lib.wpList_append_run _ rfl (.tmp 36) (.tmp 40) _ _ rfl _ _ rfl rfl _ _ (q5 _) ?_)
          go_roundw
          case rel => exact ⟨i + 1, by omega, by go_num, HO5.out, HB5.out⟩
          case measure => simp [intOf] <;> omega
        · rw [ho] at p6
          rw [ho] at HN hlen
          rw [if_pos (by omega)] at HN hlen
          replace p6 : wr.cell? ⟨b, o + i * 7 + 6, none⟩ = some (.int .i64 3) := p6
          have HL := Lib.hid hlen
          clear hlen ho
          generalize l[i].t1 = y1 at *
          generalize l[i].t2 = y2 at *
          generalize part T y1 y2 = ps at *
          go_wp2_with fail
          refine (HPT.out _ (Hb.out.alloc Hb.out.size _)).mono ?_
          rintro e w4 ⟨v4, rfl, r4, b4⟩
          have K4 : Keep (fun _ => False) wr w4 := ((Keep.refl (fun _ => False) wr).alloc _).trans (Keep.of_below b4)
          have hb4 : Below w2.heap.size w2 w4 := Hb.out.trans (K4.below (fun _ h => h.elim) Hb.out.size)
          obtain ⟨v5, w5, q5, o5, g5⟩ := run_append_rz (own_keep Ho.out K4 (fun _ _ h => h)) r4 hb4.size (by have := HL.out; omega)
          have HB5 := Lib.hid (hb4.grown g5 hb4.size (fun k hk => (Ho.out.lt k hk).1))
          rw [← HN.out] at o5
          have HO5 := Lib.hid o5
          clear r4 b4 K4 hb4 o5 g5 p0 p1 p2 p3 p4 p5 p6
          obtain ⟨a9, k9, rfl⟩ := own_len Ho.out
          obtain ⟨a5, k5, rfl⟩ := own_len HO5.out
          go_wp2_with (at_builtin; refine Lib.wpList_append_run _ rfl (.tmp 27) (.tmp 31) _ _ rfl _ _ rfl rfl _ _ (q5 _) ?_)
          go_roundw
          case rel => exact ⟨i + 1, by omega, by go_num, HO5.out, HB5.out⟩
          case measure => simp [intOf] <;> omega
        · rw [ho] at p6
          rw [ho] at HN hlen
          rw [if_neg (by omega)] at HN hlen
          replace p6 : wr.cell? ⟨b, o + i * 7 + 6, none⟩ = some (.int .i64 4) := p6
          have HL := Lib.hid hlen
          clear hlen ho
          generalize l[i].o1 = y1 at *
          generalize l[i].o2 = y2 at *
          generalize part O y1 y2 = ps at *
          go_wp2_with fail
          refine (HPO.out _ (Hb.out.alloc Hb.out.size _)).mono ?_
          rintro e w4 ⟨v4, rfl, r4, b4⟩
          have K4 : Keep (fun _ => False) wr w4 := ((Keep.refl (fun _ => False) wr).alloc _).trans (Keep.of_below b4)
          have hb4 : Below w2.heap.size w2 w4 := Hb.out.trans (K4.below (fun _ h => h.elim) Hb.out.size)
          obtain ⟨v5, w5, q5, o5, g5⟩ := run_append_rz (own_keep Ho.out K4 (fun _ _ h => h)) r4 hb4.size (by have := HL.out; omega)
          have HB5 := Lib.hid (hb4.grown g5 hb4.size (fun k hk => (Ho.out.lt k hk).1))
          rw [← HN.out] at o5
          have HO5 := Lib.hid o5
          clear r4 b4 K4 hb4 o5 g5 p0 p1 p2 p3 p4 p5 p6
          obtain ⟨a9, k9, rfl⟩ := own_len Ho.out
          obtain ⟨a5, k5, rfl⟩ := own_len HO5.out
          go_wp2_with (at_builtin; refine Lib.wpList_append_run _ rfl (.tmp 36) (.tmp 40) _ _ rfl _ _ rfl rfl _ _ (q5 _) ?_)
          go_roundw
          case rel => exact ⟨i + 1, by omega, by go_num, HO5.out, HB5.out⟩
          case measure => simp [intOf] <;> omega
      · obtain rfl : i = l.length := by omega
        have HR := Lib.hid (Rz.of_own Ho.out)
        have HX : Hid (mg O T (l.take l.length) = mg O T l) := Lib.hid (by rw [List.take_length])
        have HB9 := Lib.hid (B2.out.trans (Hb.out.mono B2.out.size))
        clear F HLS HPA HTK HC
        go_wp2_with fail
        go_ret2
        exact ⟨_, by rw [HM.out]; rfl, by rw [HM.out]; have := HR.out; rwa [HX.out] at this, HB9.out⟩

set_option maxHeartbeats 6400000 in
set_option maxRecDepth 100000 in
theorem rmerge_any (va vb vc : Value) (B O T : List Int) (w : World) (hB : Rz w va B) (hO : Rz w vb O) (hT : Rz w vc T) (lB : B.length ≤ 10000) (lO : O.length ≤ 10000) (lT : T.length ≤ 10000) :
    Calls Try.prog 15 #[va, vb, vc] w (MergeOk B O T w) := by
  have HO := Lib.hid hO
  have HT := Lib.hid hT
  have HCH := Lib.hid (rchunks_any va vb vc B O T w hB hO hT lB lO lT)
  have hcl := chunks_len B O T
  obtain ⟨aoB, cB, rfl⟩ := hB.len
  obtain ⟨aoO, cO, rfl⟩ := hO.len
  obtain ⟨aoT, cT, rfl⟩ := hT.len
  clear hB hO hT
  go_enter Try.func15, Try.ntmps15
  go_wp2_with fail
  refine HCH.out.mono ?_
  rintro e w1 ⟨v, rfl, hrk, b1⟩
  have B1 := Lib.hid b1
  have RK := Lib.hid hrk
  have HCL := Lib.hid (rclean_any v _ w1 hrk (by omega))
  clear hrk b1 HCH
  obtain ⟨ao, ca, rfl⟩ := RK.out.len
  go_wp2_with fail
  refine HCL.out.mono ?_
  rintro e w1 ⟨rfl, rfl⟩
  have B2 := Lib.hid (B1.out)
  have F := Lib.hid (Rk.seven (RK.out.below (Below.refl _ _)))
  clear HCL RK B1
  cases hc : cleanB (chunks B O T) with
  | false =>
    have HM := Lib.hid (merge_no hc)
    clear hc F
    go_wp2_with fail
    go_ret2
    exact ⟨_, by rw [HM.out]; rfl, by rw [HM.out]; exact ⟨none, 0, rfl, Nat.le_refl _, Or.inl rfl⟩, B2.out⟩
  | true =>
    have HM := Lib.hid (merge_yes hc)
    have HC := Lib.hid (fun i hi => clean_at hc (i := i) hi)
    have HLS := Lib.hid (chunks_lies B O T)
    have HPA := Lib.hid (fun i hi => part_add O T B (i := i) hi)
    have HTK := Lib.hid (fun i hi => mg_take (O := O) (T := T) (l := chunks B O T) (i := i) hi)
    clear hc
    generalize chunks B O T = l at *
    go_wp2_with fail
    go_loopw [9, 20] (fun v s wr => ∃ i : Nat, i ≤ l.length ∧ s = .int .i64 i ∧ wr.ownsRow w1.heap.size 3 1 v (mg O T (l.take i)).length ((mg O T (l.take i)).map (Value.int .i64)) ∧ Below w1.heap.size w1 wr) (fun _ s _ => l.length - (intOf s).toNat)
    case atStart => exact ⟨0, Nat.zero_le _, rfl, by rw [mg_zero]; exact World.ownsRow_nil _ _ _ _, Below.refl _ _⟩
    case round =>
      obtain ⟨i, hil, rfl, hown, hbe⟩ := hrel
      have Ho := Lib.hid hown
      have Hb := Lib.hid hbe
      clear hown hbe
      by_cases hlt : i < l.length
      · obtain ⟨b, o, rfl, hb, f0, f1, f2, f3, f4, f5, f6⟩ := F.out i hlt
        have p0 : wr.cell? ⟨b, o + i * 7, none⟩ = some (.int .i64 l[i].b1) := (Hb.out.cell (by exact hb)).trans f0
        have p1 : wr.cell? ⟨b, o + i * 7 + 1, none⟩ = some (.int .i64 l[i].b2) := (Hb.out.cell (by exact hb)).trans f1
        have p2 : wr.cell? ⟨b, o + i * 7 + 2, none⟩ = some (.int .i64 l[i].o1) := (Hb.out.cell (by exact hb)).trans f2
        have p3 : wr.cell? ⟨b, o + i * 7 + 3, none⟩ = some (.int .i64 l[i].o2) := (Hb.out.cell (by exact hb)).trans f3
        have p4 : wr.cell? ⟨b, o + i * 7 + 4, none⟩ = some (.int .i64 l[i].t1) := (Hb.out.cell (by exact hb)).trans f4
        have p5 : wr.cell? ⟨b, o + i * 7 + 5, none⟩ = some (.int .i64 l[i].t2) := (Hb.out.cell (by exact hb)).trans f5
        have p6 : wr.cell? ⟨b, o + i * 7 + 6, none⟩ = some (.int .i64 l[i].out) := (Hb.out.cell (by exact hb)).trans f6
        have HPO := Lib.hid (fun w' (h : Below w1.heap.size w1 w') => part_any (.slice aoO O.length cO) O l[i].o1 l[i].o2 w' (HO.out.below (B2.out.trans (h.mono B2.out.size))) (HLS.out _ (List.getElem_mem hlt)).o (HLS.out _ (List.getElem_mem hlt)).o' (by omega))
        have HPT := Lib.hid (fun w' (h : Below w1.heap.size w1 w') => part_any (.slice aoT T.length cT) T l[i].t1 l[i].t2 w' (HT.out.below (B2.out.trans (h.mono B2.out.size))) (HLS.out _ (List.getElem_mem hlt)).t (HLS.out _ (List.getElem_mem hlt)).t' (by omega))
        have hout : l[i].out = 1 ∨ l[i].out = 2 ∨ l[i].out = 3 ∨ l[i].out = 4 := by
          have h1 := (HLS.out _ (List.getElem_mem hlt)).lo
          have h2 := (HLS.out _ (List.getElem_mem hlt)).hi
          have h3 := HC.out i hlt
          omega
        have HN := Lib.hid (HTK.out i hlt)
        have hlen := HPA.out i hlt
        unfold mg1 at HN hlen
        clear f0 f1 f2 f3 f4 f5 f6
        generalize (l[i].b1 : Int) = x0 at *
        generalize (l[i].b2 : Int) = x1 at *
        have tt : True := trivial
        rcases hout with ho | ho | ho | ho
        · rw [ho] at p6
          rw [ho] at HN hlen
          rw [if_pos (by omega)] at HN hlen
          replace p6 : wr.cell? ⟨b, o + i * 7 + 6, none⟩ = some (.int .i64 1) := p6
          have HL := Lib.hid hlen
          clear hlen ho
          generalize l[i].t1 = y1 at *
          generalize l[i].t2 = y2 at *
          generalize part T y1 y2 = ps at *
          go_wp2_with fail
          refine (HPT.out _ Hb.out).mono ?_
          rintro e w4 ⟨v4, rfl, r4, b4⟩
          have K4 : Keep (fun _ => False) wr w4 := (Keep.of_below b4)
          have hb4 : Below w1.heap.size w1 w4 := Hb.out.trans (K4.below (fun _ h => h.elim) Hb.out.size)
          obtain ⟨v5, w5, q5, o5, g5⟩ := run_append_rz (own_keep Ho.out K4 (fun _ _ h => h)) r4 hb4.size (by have := HL.out; omega)
          have HB5 := Lib.hid (hb4.grown g5 hb4.size (fun k hk => (Ho.out.lt k hk).1))
          rw [← HN.out] at o5
          have HO5 := Lib.hid o5
          clear r4 b4 K4 hb4 o5 g5 p0 p1 p2 p3 p4 p5 p6
          obtain ⟨a9, k9, rfl⟩ := own_len Ho.out
          obtain ⟨a5, k5, rfl⟩ := own_len HO5.out
          go_wp2_with (at_builtin; refine Lib.wpList_append_run _ rfl (.tmp 37) (.tmp 44) _ _ rfl _ _ rfl rfl _ _ (q5 _) ?_)
          go_roundw
          case rel => exact ⟨i + 1, by omega, by go_num, HO5.out, HB5.out⟩
          case measure => simp [intOf] <;> omega
        · rw [ho] at p6
          rw [ho] at HN hlen
          rw [if_neg (by omega)] at HN hlen
          replace p6 : wr.cell? ⟨b, o + i * 7 + 6, none⟩ = some (.int .i64 2) := p6
          have HL := Lib.hid hlen
          clear hlen ho
          generalize l[i].o1 = y1 at *
          generalize l[i].o2 = y2 at *
          generalize part O y1 y2 = ps at *
          go_wp2_with fail
          refine (HPO.out _ Hb.out).mono ?_
          rintro e w4 ⟨v4, rfl, r4, b4⟩
          have K4 : Keep (fun _ => False) wr w4 := (Keep.of_below b4)
          have hb4 : Below w1.heap.size w1 w4 := Hb.out.trans (K4.below (fun _ h => h.elim) Hb.out.size)
          obtain ⟨v5, w5, q5, o5, g5⟩ := run_append_rz (own_keep Ho.out K4 (fun _ _ h => h)) r4 hb4.size (by have := HL.out; omega)
          have HB5 := Lib.hid (hb4.grown g5 hb4.size (fun k hk => (Ho.out.lt k hk).1))
          rw [← HN.out] at o5
          have HO5 := Lib.hid o5
          clear r4 b4 K4 hb4 o5 g5 p0 p1 p2 p3 p4 p5 p6
          obtain ⟨a9, k9, rfl⟩ := own_len Ho.out
          obtain ⟨a5, k5, rfl⟩ := own_len HO5.out
          go_wp2_with (at_builtin; refine Lib.wpList_append_run _ rfl (.tmp 46) (.tmp 53) _ _ rfl _ _ rfl rfl _ _ (q5 _) ?_)
          go_roundw
          case rel => exact ⟨i + 1, by omega, by go_num, HO5.out, HB5.out⟩
          case measure => simp [intOf] <;> omega
        · rw [ho] at p6
          rw [ho] at HN hlen
          rw [if_pos (by omega)] at HN hlen
          replace p6 : wr.cell? ⟨b, o + i * 7 + 6, none⟩ = some (.int .i64 3) := p6
          have HL := Lib.hid hlen
          clear hlen ho
          generalize l[i].t1 = y1 at *
          generalize l[i].t2 = y2 at *
          generalize part T y1 y2 = ps at *
          go_wp2_with fail
          refine (HPT.out _ Hb.out).mono ?_
          rintro e w4 ⟨v4, rfl, r4, b4⟩
          have K4 : Keep (fun _ => False) wr w4 := (Keep.of_below b4)
          have hb4 : Below w1.heap.size w1 w4 := Hb.out.trans (K4.below (fun _ h => h.elim) Hb.out.size)
          obtain ⟨v5, w5, q5, o5, g5⟩ := run_append_rz (own_keep Ho.out K4 (fun _ _ h => h)) r4 hb4.size (by have := HL.out; omega)
          have HB5 := Lib.hid (hb4.grown g5 hb4.size (fun k hk => (Ho.out.lt k hk).1))
          rw [← HN.out] at o5
          have HO5 := Lib.hid o5
          clear r4 b4 K4 hb4 o5 g5 p0 p1 p2 p3 p4 p5 p6
          obtain ⟨a9, k9, rfl⟩ := own_len Ho.out
          obtain ⟨a5, k5, rfl⟩ := own_len HO5.out
          go_wp2_with (at_builtin; refine Lib.wpList_append_run _ rfl (.tmp 37) (.tmp 44) _ _ rfl _ _ rfl rfl _ _ (q5 _) ?_)
          go_roundw
          case rel => exact ⟨i + 1, by omega, by go_num, HO5.out, HB5.out⟩
          case measure => simp [intOf] <;> omega
        · rw [ho] at p6
          rw [ho] at HN hlen
          rw [if_neg (by omega)] at HN hlen
          replace p6 : wr.cell? ⟨b, o + i * 7 + 6, none⟩ = some (.int .i64 4) := p6
          have HL := Lib.hid hlen
          clear hlen ho
          generalize l[i].o1 = y1 at *
          generalize l[i].o2 = y2 at *
          generalize part O y1 y2 = ps at *
          go_wp2_with fail
          refine (HPO.out _ Hb.out).mono ?_
          rintro e w4 ⟨v4, rfl, r4, b4⟩
          have K4 : Keep (fun _ => False) wr w4 := (Keep.of_below b4)
          have hb4 : Below w1.heap.size w1 w4 := Hb.out.trans (K4.below (fun _ h => h.elim) Hb.out.size)
          obtain ⟨v5, w5, q5, o5, g5⟩ := run_append_rz (own_keep Ho.out K4 (fun _ _ h => h)) r4 hb4.size (by have := HL.out; omega)
          have HB5 := Lib.hid (hb4.grown g5 hb4.size (fun k hk => (Ho.out.lt k hk).1))
          rw [← HN.out] at o5
          have HO5 := Lib.hid o5
          clear r4 b4 K4 hb4 o5 g5 p0 p1 p2 p3 p4 p5 p6
          obtain ⟨a9, k9, rfl⟩ := own_len Ho.out
          obtain ⟨a5, k5, rfl⟩ := own_len HO5.out
          go_wp2_with (at_builtin; refine Lib.wpList_append_run _ rfl (.tmp 46) (.tmp 53) _ _ rfl _ _ rfl rfl _ _ (q5 _) ?_)
          go_roundw
          case rel => exact ⟨i + 1, by omega, by go_num, HO5.out, HB5.out⟩
          case measure => simp [intOf] <;> omega
      · obtain rfl : i = l.length := by omega
        have HR := Lib.hid (Rz.of_own Ho.out)
        have HX : Hid (mg O T (l.take l.length) = mg O T l) := Lib.hid (by rw [List.take_length])
        have HB9 := Lib.hid (B2.out.trans (Hb.out.mono B2.out.size))
        clear F HLS HPA HTK HC
        go_wp2_with fail
        go_ret2
        exact ⟨_, by rw [HM.out]; rfl, by rw [HM.out]; have := HR.out; rwa [HX.out] at this, HB9.out⟩

end Go.Proofs.Ytbfclmhcoelplaa.Wv

namespace Go.Proofs.Ytbfclmhcoelplaa.Wv
open Go.RowKit Go.Proofs.Ytbfclmhcoelplaa.Cm Go.Proofs.Ytbfclmhcoelplaa.Lc
theorem told : Told where
  chunks := fun va vb vc B O T w hB hO hT lB lO lT => wchunks_any va vb vc B O T w hB hO hT (by omega) (by omega) (by omega)
  clean := fun v l w h hl => wclean_any v l w h (by omega)
  merge := fun va vb vc B O T w hB hO hT lB lO lT => wmerge_any va vb vc B O T w hB hO hT (by omega) (by omega) (by omega) (wchunks_any va vb vc B O T w hB hO hT (by omega) (by omega) (by omega))
end Go.Proofs.Ytbfclmhcoelplaa.Wv

namespace Go.Proofs.Ytbfclmhcoelplaa.weaveFar
open Go.ChangeShapes Go.WideShapes Go.ChangeAt Go.RowKit
open Go.ChangeMaps (open_string shut_string)
open Go.Proofs.Ytbfclmhcoelplaa.Wv Go.Proofs.Ytbfclmhcoelplaa.Cm
set_option linter.unusedVariables false

theorem own : ownKnob Try.prog.godebug = none := by kernel_rfl



set_option maxRecDepth 100000 in
theorem lifted (os : Os) (started : os.Started) (H : Type) (enc : TypeId × Value → H) :
    ReturnsInHanded {} Try.checked os 7 .any (Rows.weaveFarSpec.pre6 enc Try.prog Try.f7 Rows.weaveFarRow.domain false) (Rows.weaveFarSpec.post enc Try.prog Try.f7 false true false false) := by
  refine returnsInHanded_of_change_sized (C := Try.checked) own started (by kernel_rfl) Try.func7
    (ChangeSpec.witness6 (enc := enc) (C := Try.checked) false ⟨#[], #[.int .u8 0, .int .u8 0, .int .u8 0, .slice none 0 0, .slice none 0 0], []⟩ 8 (by kernel_rfl) (by kernel_rfl) (by kernel_rfl) (by kernel_rfl)) ?_
  intro W base args ds gs before hval0 hW hcnd hsz0 _
  have hval : ∀ (j : Nat) t v, Try.f7.params[j]? = some t → args[j]? = some v → Value.okWide Try.prog W .any base t v := hval0
  have hsz : (DataW.weightsEach Try.prog (Try.f7.params.toList ++ Rows.weaveFarSpec.plain.varTypes Try.prog) (ds ++ gs)).all (· ≤ reachBytes) = true := hsz0
  have hW' := hW
  obtain ⟨p, q, hA0, hV, rfl, hfz, hnd⟩ := hW
  have hA : DataW.TrodAll enc Try.prog W 0 (fun _ => true) true Try.f7.params.toList args.toList ds p := hA0
  rw [Try.params7] at hA hval hsz
  obtain ⟨v0, vs0, d0, ds0, p0, q0, hargs, rfl, rfl, h0, r0⟩ := trodAll_cons hA
  obtain ⟨v1, vs1, d1, ds1, p1, q1, rfl, rfl, rfl, h1, r1⟩ := trodAll_cons r0
  obtain ⟨v2, vs2, d2, ds2, p2, q2, rfl, rfl, rfl, h2, r2⟩ := trodAll_cons r1
  obtain ⟨v3, vs3, d3, ds3, p3, q3, rfl, rfl, rfl, h3, r3⟩ := trodAll_cons r2
  obtain ⟨v4, vs4, d4, ds4, p4, q4, rfl, rfl, rfl, h4, r4⟩ := trodAll_cons r3
  obtain ⟨rfl, rfl, rfl⟩ := trodAll_nil r4
  obtain rfl : args = #[v0, v1, v2, v3, v4] := by cases args; simp_all
  obtain ⟨rfl, rfl⟩ := trodVars_none hV
  obtain ⟨s3, l3, c3, rfl⟩ := okWide_slice Try.underlying40 (hval 3 40 v3 rfl rfl)
  obtain ⟨s4, l4, c4, rfl⟩ := okWide_slice Try.underlying40 (hval 4 40 v4 rfl rfl)
  obtain ⟨b0, rfl, rfl, rfl, w0⟩ := open_int Try.underlying5 (hval 0 5 v0 rfl rfl) h0
  obtain ⟨a0, rfl⟩ := u8_of w0
  obtain ⟨b1, rfl, rfl, rfl, w1⟩ := open_int Try.underlying5 (hval 1 5 v1 rfl rfl) h1
  obtain ⟨a1, rfl⟩ := u8_of w1
  obtain ⟨b2, rfl, rfl, rfl, w2⟩ := open_int Try.underlying5 (hval 2 5 v2 rfl rfl) h2
  obtain ⟨a2, rfl⟩ := u8_of w2
  have hlt3 : ∀ x ∈ p3, x.block < W.heap.size := fun x hx => hW'.lt x (by simp [hx])
  obtain ⟨x3, w3⟩ := rdb_of h3 hlt3
  have hlt4 : ∀ x ∈ p4, x.block < W.heap.size := fun x hx => hW'.lt x (by simp [hx])
  obtain ⟨x4, w4⟩ := rdb_of h4 hlt4
  clear hA0 hval0 hsz0
  simp only [List.append_nil] at hW'
  refine (weaveFar_walk told W a0 a1 a2 _ x3 w3 _ x4 w4).mono fun e W' ⟨he, bel⟩ => ?_
  subst he
  exact ⟨_, rfl, _, _, _, [], _, [], hW', trodAll_mk1 (shut_bool Try.underlying4 _), (trodAll_cons_mk (shut_int Try.underlying5 w0) (trodAll_cons_mk (shut_int Try.underlying5 w1) (trodAll_cons_mk (shut_int Try.underlying5 w2) (trodAll_cons_mk (Below.trod laidOut (by kernel_rfl) (of_decide_eq_true (by kernel_rfl)) h3 bel hlt3) (trodAll_cons_mk (Below.trod laidOut (by kernel_rfl) (of_decide_eq_true (by kernel_rfl)) h4 bel hlt4) trodAll_mk0))))), rfl, bel.frame _, fun h => by cases h⟩

theorem over : Rows.weaveFarRow.holds Try.pinned (OpenSpec.ofChange Rows.weaveFarSpec) :=
  OpenClaim.holds_of_wide 7 Try.f7 rfl rfl rfl rfl rfl rfl rfl ⟨rfl, rfl, rfl, rfl, rfl⟩ rfl rfl rfl rfl rfl (by kernel_rfl) Try.func7 (by kernel_rfl)
    (of_decide_eq_true (by kernel_rfl)) (by unfold Func.isWrapper; first | (rw [if_pos (by decide +kernel)]; kernel_rfl) | (rw [if_neg (by decide +kernel)]; exact ⟨rfl, rfl⟩))
    (fun os started H enc _ => lifted os started H enc)

theorem proved : Rows.WeaveFarSaid :=
  over
end Go.Proofs.Ytbfclmhcoelplaa.weaveFar
