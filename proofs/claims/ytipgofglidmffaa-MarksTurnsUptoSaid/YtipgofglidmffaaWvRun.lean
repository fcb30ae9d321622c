/-
  CONTRACTS of weave's runFrom, and of the closure that tells a chunk's outcome.
-/
import Derived.Test.YtipgofglidmffaaWvStable
import Derived.Test.YtipgofglidmffaaWvClean
namespace Go.Proofs.Ytipgofglidmffaa.Wv
open Go.RowKit Go.Proofs.Ytipgofglidmffaa.Cm Go.Proofs.Ytipgofglidmffaa.Lc
set_option linter.unusedVariables false

theorem spot_off {s t : Spot} (h : s ≠ t) : (((s.b : Int) == (t.b : Int)) = false) ∨ (((s.b : Int) == (t.b : Int)) = true ∧ ((s.o : Int) == (t.o : Int)) = false) ∨ (((s.b : Int) == (t.b : Int)) = true ∧ ((s.o : Int) == (t.o : Int)) = true ∧ ((s.t : Int) == (t.t : Int)) = false) := by
  have e : ∀ a b : Nat, ((a : Int) == (b : Int)) = decide (a = b) := fun a b => by rw [Bool.eq_iff_iff, beq_iff_eq, decide_eq_true_eq]; omega
  simp only [e]
  obtain ⟨c0, c1, c2⟩ := s
  obtain ⟨d0, d1, d2⟩ := t
  simp only [ne_eq, Spot.mk.injEq, not_and] at h
  simp only [decide_eq_true_eq, decide_eq_false_iff_not]
  omega

set_option maxHeartbeats 6400000 in
set_option maxRecDepth 100000 in
theorem runFrom_any (v : Value) (S : List Spot) (x y z : Nat) (w : World) (h : Rk 3 encS w v S) (hl : S.length ≤ 10000) (hx : x ≤ 100000) (hy : y ≤ 100000) (hz : z ≤ 100000) :
    Calls Try.prog 36 #[vS ⟨x, y, z⟩, v] w fun e w' => e = .returned (.int .i64 (pre S x y z : Nat)) ∧ Below w.heap.size w w' := by
  obtain ⟨ao, ca, rfl⟩ := h.len
  have F := Lib.hid (Rk.three h)
  clear h
  show Calls Try.prog 36 #[.agg #[.int .i64 (x : Nat), .int .i64 (y : Nat), .int .i64 (z : Nat)], .slice ao S.length ca] w _
  go_enter Try.func36, Try.ntmps36
  go_upto_region 1 with fail
  have HA := Lib.hid (alloc_new w (.cells #[.int .i64 (x : Int), .int .i64 (y : Int), .int .i64 (z : Int)] 76))
  have HK := Lib.hid ((Keep.refl (fun _ => False) w).alloc (.cells #[.int .i64 (x : Int), .int .i64 (y : Int), .int .i64 (z : Int)] 76))
  generalize w.alloc (.cells #[.int .i64 (x : Int), .int .i64 (y : Int), .int .i64 (z : Int)] 76) = w1 at *
  have hb0 := HK.out.below (B := w.heap.size) (fun _ h => h.elim) (Nat.le_refl _)
  have HB0 := Lib.hid hb0
  clear hb0
  go_wp2_with fail
  go_loopw [5] (fun s wr => ∃ n : Nat, n ≤ S.length ∧ s = .int .i64 n ∧ Hid (Keep (fun _ => False) w1 wr) ∧ Hid (∀ m (h : m < S.length), m < n → S[m] = ⟨x + m, y + m, z + m⟩)) (fun s _ => S.length - (intOf s).toNat)
  case atStart => exact ⟨0, Nat.zero_le _, rfl, Lib.hid (Keep.refl _ _), Lib.hid (fun m _ h => absurd h (Nat.not_lt_zero _))⟩
  case round =>
    obtain ⟨n, hn, rfl, HW, HS⟩ := hrel
    by_cases hlt : n < S.length
    · obtain ⟨b, o, rfl, hb, c0, c1, c2⟩ := F.out n hlt
      obtain ⟨xn, hxn⟩ : ∃ xn, x + n = xn := ⟨_, rfl⟩
      obtain ⟨yn, hyn⟩ : ∃ yn, y + n = yn := ⟨_, rfl⟩
      obtain ⟨zn, hzn⟩ : ∃ zn, z + n = zn := ⟨_, rfl⟩
      have CO : Hid (∀ w', Calls Try.prog 38 #[.agg #[.int .i64 (x : Nat), .int .i64 (y : Nat), .int .i64 (z : Nat)], .int .i64 n] w' fun e w'' => e = .returned (.agg #[.int .i64 (xn : Nat), .int .i64 (yn : Nat), .int .i64 (zn : Nat)]) ∧ Below w'.heap.size w' w'') := Lib.hid (fun w' => on_any x y z n xn yn zn w' hxn hyn hzn (by omega) (by omega) (by omega))
      have hi1 : (n : Int) < (S.length : Int) := by omega
      have HSix : Hid (∀ w', Keep (fun _ => False) wr w' → w'.cell? ⟨b, o + n * 3, none⟩ = some (.int .i64 S[n].b) ∧ w'.cell? ⟨b, o + n * 3 + 1, none⟩ = some (.int .i64 S[n].o) ∧ w'.cell? ⟨b, o + n * 3 + 2, none⟩ = some (.int .i64 S[n].t) ∧ w'.cell? ⟨w.heap.size, 0, none⟩ = some (.int .i64 (x : Int)) ∧ w'.cell? ⟨w.heap.size, 1, none⟩ = some (.int .i64 (y : Int)) ∧ w'.cell? ⟨w.heap.size, 2, none⟩ = some (.int .i64 (z : Int))) := Lib.hid (fun w' h => by
        have hh := HW.out.trans h
        have hA := hh.at HA.out (fun e => e)
        have hB := HB0.out.trans (hh.below (fun _ e => e.elim) HB0.out.size)
        exact ⟨(hB.cell (by exact hb)).trans c0, (hB.cell (by exact hb)).trans c1, (hB.cell (by exact hb)).trans c2, cell_at hA 0, cell_at hA 1, cell_at hA 2⟩)
      have hA1 := lt_of_at (HW.out.at HA.out (fun e => e))
      have hb1 : b < wr.heap.size := Nat.lt_of_lt_of_le hb (HB0.out.trans (HW.out.below (fun _ e => e.elim) HB0.out.size)).size
      obtain ⟨k0, k1, k2, k3, k4, k5⟩ := HSix.out wr (Keep.refl _ _)
      clear c0 c1 c2
      by_cases he : S[n] = ⟨xn, yn, zn⟩
      · have HS2 : Hid (∀ m (h : m < S.length), m < n + 1 → S[m] = ⟨x + m, y + m, z + m⟩) := Lib.hid (fun m h hm => by
          by_cases e : m = n
          · subst e; rw [he, hxn, hyn, hzn]
          · exact HS.out m h (by omega))
        have hx1 : (S[n].b : Int) = (xn : Int) := by rw [he]
        have hy1 : (S[n].o : Int) = (yn : Int) := by rw [he]
        have hz1 : (S[n].t : Int) = (zn : Int) := by rw [he]
        rw [hx1, hy1, hz1] at HSix
        rw [hx1] at k0
        rw [hy1] at k1
        rw [hz1] at k2
        clear he HS hx1 hy1 hz1 hxn hyn hzn
        go_upto_region 2 with fail
        go_region_held3 (fun w' => w'.cell? ⟨b, o + n * 3, none⟩ = some (.int .i64 (xn : Int)) ∧ w'.cell? ⟨b, o + n * 3 + 1, none⟩ = some (.int .i64 (yn : Int)) ∧ w'.cell? ⟨b, o + n * 3 + 2, none⟩ = some (.int .i64 (zn : Int)) ∧ w'.cell? ⟨w.heap.size, 0, none⟩ = some (.int .i64 (x : Int)) ∧ w'.cell? ⟨w.heap.size, 1, none⟩ = some (.int .i64 (y : Int)) ∧ w'.cell? ⟨w.heap.size, 2, none⟩ = some (.int .i64 (z : Int)))
          (first
            | (exact ⟨k0, k1, k2, k3, k4, k5⟩)
            | (exact HSix.out _ (Keep.refl _ _))
            | (exact HSix.out _ (Keep.refl _ _).drew)
            | (exact HSix.out _ ((Keep.refl _ _).drewN _))
            | (exact HSix.out _ HK4.out)
            | (exact HSix.out _ HK4.out.drew)
            | (exact HSix.out _ (HK4.out.drewN _)))
          (first
            | (go_at_call 38
               refine (CO.out _).mono ?_
               rintro e w4 ⟨rfl, b4⟩
               have HK4 := Lib.hid (Keep.trans (a := wr) (S := fun _ => False) (by first | exact (Keep.refl _ _) | exact (Keep.refl _ _).drew | exact (Keep.refl _ _).drewN _) (Keep.of_below b4))
               clear b4))
        go_wp2_with fail
        go_roundw
        case rel => exact ⟨n + 1, by omega, by go_num, Lib.hid (HW.out.trans HK4.out), HS2⟩
        case measure => simp [intOf] <;> omega
      · have HR : Hid (pre S x y z = n) := Lib.hid (pre_at S x y z n HS.out hn (fun h => by rw [hxn, hyn, hzn]; exact he))
        have hne := spot_off he
        simp only at hne
        clear he HS hxn hyn hzn
        generalize (S[n].b : Int) = s0 at *
        generalize (S[n].o : Int) = s1 at *
        generalize (S[n].t : Int) = s2 at *
        go_upto_region 2 with fail
        rcases hne with e0 | ⟨e0, e1⟩ | ⟨e0, e1, e2⟩
        all_goals (
          go_region_held3 (fun w' => w'.cell? ⟨b, o + n * 3, none⟩ = some (.int .i64 (s0 : Int)) ∧ w'.cell? ⟨b, o + n * 3 + 1, none⟩ = some (.int .i64 (s1 : Int)) ∧ w'.cell? ⟨b, o + n * 3 + 2, none⟩ = some (.int .i64 (s2 : Int)) ∧ w'.cell? ⟨w.heap.size, 0, none⟩ = some (.int .i64 (x : Int)) ∧ w'.cell? ⟨w.heap.size, 1, none⟩ = some (.int .i64 (y : Int)) ∧ w'.cell? ⟨w.heap.size, 2, none⟩ = some (.int .i64 (z : Int)))
            (first
              | (exact ⟨k0, k1, k2, k3, k4, k5⟩)
              | (exact HSix.out _ (Keep.refl _ _))
              | (exact HSix.out _ (Keep.refl _ _).drew)
              | (exact HSix.out _ ((Keep.refl _ _).drewN _))
              | (exact HSix.out _ HK4.out)
              | (exact HSix.out _ HK4.out.drew)
              | (exact HSix.out _ (HK4.out.drewN _)))
            (first
              | (go_at_call 38
                 refine (CO.out _).mono ?_
                 rintro e w4 ⟨rfl, b4⟩
                 have HK4 := Lib.hid (Keep.trans (a := wr) (S := fun _ => False) (by first | exact (Keep.refl _ _) | exact (Keep.refl _ _).drew | exact (Keep.refl _ _).drewN _) (Keep.of_below b4))
                 clear b4))
          go_wp2_with fail
          go_ret
          exact ⟨by rw [HR.out]; rfl, HB0.out.trans ((HW.out.trans HK4.out).below (fun _ e => e.elim) HB0.out.size)⟩)
    · have HR := Lib.hid (pre_at S x y z n HS.out hn (fun h => absurd h hlt))
      clear HS
      go_wp2_with fail
      go_quiet (fail)
      go_wp2_with fail
      go_ret
      exact ⟨by rw [HR.out]; rfl, (HB0.out.trans (HW.out.below (fun _ e => e.elim) HB0.out.size)).trans (below_drewN (Below.refl _ _) _)⟩

set_option maxHeartbeats 6400000 in
set_option maxRecDepth 100000 in
theorem tells_any (aB aO aT : Nat) (vB vO vT : Value) (B O T : List Int) (x x' y y' z z' oc : Nat) (w : World) (hB : w.cell? ⟨aB, 0, none⟩ = some vB) (hO : w.cell? ⟨aO, 0, none⟩ = some vO) (hT : w.cell? ⟨aT, 0, none⟩ = some vT) (rB : Rz w vB B) (rO : Rz w vO O) (rT : Rz w vT T) (lB : B.length ≤ 10000) (lO : O.length ≤ 10000) (lT : T.length ≤ 10000)
    (h1 : x ≤ x') (h2 : x' ≤ B.length) (h3 : y ≤ y') (h4 : y' ≤ O.length) (h5 : z ≤ z') (h6 : z' ≤ T.length) (bB : aB < w.heap.size) (bO : aO < w.heap.size) (bT : aT < w.heap.size) :
    Calls Try.prog 31 #[.agg #[.int .i64 (x : Nat), .int .i64 (x' : Nat), .int .i64 (y : Nat), .int .i64 (y' : Nat), .int .i64 (z : Nat), .int .i64 (z' : Nat), .int .i64 (oc : Nat)], .pointer (some ⟨aB, 0, none⟩), .pointer (some ⟨aO, 0, none⟩), .pointer (some ⟨aT, 0, none⟩)] w fun e w' => e = .returned (.int .i64 (outc (part B x x') (part O y y') (part T z z') : Nat)) ∧ Below w.heap.size w w' := by
  have q1 : (part B x x').length ≤ 1000000 := by rw [part_len B h2]; omega
  have q2 : (part O y y').length ≤ 1000000 := by rw [part_len O h4]; omega
  have q3 : (part T z z').length ≤ 1000000 := by rw [part_len T h6]; omega
  obtain ⟨aoB, cB, rfl⟩ := rB.len
  obtain ⟨aoO, cO, rfl⟩ := rO.len
  obtain ⟨aoT, cT, rfl⟩ := rT.len
  have HOUT : Hid (outc (part B x x') (part O y y') (part T z z') = if part O y y' = part T z z' then 4 else if part O y y' = part B x x' then 3 else if part T z z' = part B x x' then 2 else 5) := Lib.hid rfl
  go_enter Try.func31, Try.ntmps31
  go_upto_region 1 with fail
  have HA := Lib.hid (alloc_new w (.cells #[.int .i64 (x : Int), .int .i64 (x' : Int), .int .i64 (y : Int), .int .i64 (y' : Int), .int .i64 (z : Int), .int .i64 (z' : Int), .int .i64 (oc : Int)] 60))
  have HK := Lib.hid ((Keep.refl (fun _ => False) w).alloc (.cells #[.int .i64 (x : Int), .int .i64 (x' : Int), .int .i64 (y : Int), .int .i64 (y' : Int), .int .i64 (z : Int), .int .i64 (z' : Int), .int .i64 (oc : Int)] 60))
  generalize w.alloc (.cells #[.int .i64 (x : Int), .int .i64 (x' : Int), .int .i64 (y : Int), .int .i64 (y' : Int), .int .i64 (z : Int), .int .i64 (z' : Int), .int .i64 (oc : Int)] 60) = w1 at *
  have HBl : Hid (∀ w', Keep (fun _ => False) w1 w' → Below w.heap.size w w') := Lib.hid (fun w' h => (HK.out.trans h).below (fun _ e => e.elim) (Nat.le_refl _))
  have HS : Hid (∀ w', Keep (fun _ => False) w1 w' → w'.cell? ⟨aB, 0, none⟩ = some (.slice aoB B.length cB) ∧ w'.cell? ⟨aO, 0, none⟩ = some (.slice aoO O.length cO) ∧ w'.cell? ⟨aT, 0, none⟩ = some (.slice aoT T.length cT) ∧ w'.cell? ⟨w.heap.size, 0, none⟩ = some (.int .i64 (x : Int)) ∧ w'.cell? ⟨w.heap.size, 1, none⟩ = some (.int .i64 (x' : Int)) ∧ w'.cell? ⟨w.heap.size, 2, none⟩ = some (.int .i64 (y : Int)) ∧ w'.cell? ⟨w.heap.size, 3, none⟩ = some (.int .i64 (y' : Int)) ∧ w'.cell? ⟨w.heap.size, 4, none⟩ = some (.int .i64 (z : Int)) ∧ w'.cell? ⟨w.heap.size, 5, none⟩ = some (.int .i64 (z' : Int))) := Lib.hid (fun w' h => by
    have h2 := h.at HA.out (fun e => e)
    have hB' := HBl.out w' h
    exact ⟨(hB'.cell (by exact bB)).trans hB, (hB'.cell (by exact bO)).trans hO, (hB'.cell (by exact bT)).trans hT, cell_at h2 0, cell_at h2 1, cell_at h2 2, cell_at h2 3, cell_at h2 4, cell_at h2 5⟩)
  have P1 := Lib.hid (fun w' (h : Keep (fun _ => False) w1 w') => wpart_any _ B x x' w' (rB.below (HBl.out w' h)) h1 h2 (by omega))
  have P2 := Lib.hid (fun w' (h : Keep (fun _ => False) w1 w') => wpart_any _ O y y' w' (rO.below (HBl.out w' h)) h3 h4 (by omega))
  have P3 := Lib.hid (fun w' (h : Keep (fun _ => False) w1 w') => wpart_any _ T z z' w' (rT.below (HBl.out w' h)) h5 h6 (by omega))
  have hA1 := lt_of_at HA.out
  have bB1 : aB < w1.heap.size := by omega
  have bO1 : aO < w1.heap.size := by omega
  have bT1 : aT < w1.heap.size := by omega
  clear hB hO hT rB rO rT h1 h2 h3 h4 h5 h6 bB bO bT
  obtain ⟨oo, hoo⟩ : ∃ oo, outc (part B x x') (part O y y') (part T z z') = oo := ⟨_, rfl⟩
  rw [hoo] at HOUT
  have HOo := Lib.hid hoo
  clear hoo
  generalize part B x x' = ps at HOUT P1 q1
  generalize part O y y' = qs at HOUT P2 q2
  generalize part T z z' = rs at HOUT P3 q3
  generalize hC : w.heap.size = C at *
  have HCe := Lib.hid hC
  clear hC
  go_region_held3 (fun w' => w'.cell? ⟨aB, 0, none⟩ = some (.slice aoB B.length cB) ∧ w'.cell? ⟨aO, 0, none⟩ = some (.slice aoO O.length cO) ∧ w'.cell? ⟨aT, 0, none⟩ = some (.slice aoT T.length cT) ∧ w'.cell? ⟨C, 0, none⟩ = some (.int .i64 (x : Int)) ∧ w'.cell? ⟨C, 1, none⟩ = some (.int .i64 (x' : Int)) ∧ w'.cell? ⟨C, 2, none⟩ = some (.int .i64 (y : Int)) ∧ w'.cell? ⟨C, 3, none⟩ = some (.int .i64 (y' : Int)) ∧ w'.cell? ⟨C, 4, none⟩ = some (.int .i64 (z : Int)) ∧ w'.cell? ⟨C, 5, none⟩ = some (.int .i64 (z' : Int)))
    (first
      | (exact HS.out _ (Keep.refl _ _))
      | (exact HS.out _ (Keep.refl _ _).drew)
      | (exact HS.out _ ((Keep.refl _ _).drewN _))
      | (exact HS.out _ HK4.out)
      | (exact HS.out _ HK4.out.drew)
      | (exact HS.out _ HK5.out)
      | (exact HS.out _ HK5.out.drew)
      | (exact HS.out _ HK6.out)
      | (exact HS.out _ HK6.out.drew))
    (first
      | (go_at_call 32
         refine calls_at (args := #[.slice aoB B.length cB, .agg #[.int .i64 (x : Int), .int .i64 (x' : Int)]]) rfl (P1.out _ (by first | exact (Keep.refl _ _) | exact (Keep.refl _ _).drew | exact (Keep.refl _ _).drewN _)) ?_
         rintro e w4 ⟨v4, rfl, r4, b4⟩
         have HK4 := Lib.hid (Keep.trans (a := w1) (S := fun _ => False) (by first | exact (Keep.refl _ _) | exact (Keep.refl _ _).drew | exact (Keep.refl _ _).drewN _) (Keep.of_below b4))
         have R4 := Lib.hid r4
         clear r4 b4)
      | (go_at_call 32
         refine calls_at (args := #[.slice aoO O.length cO, .agg #[.int .i64 (y : Int), .int .i64 (y' : Int)]]) rfl (P2.out _ (by first | exact HK4.out | exact HK4.out.drew | exact HK4.out.drewN _)) ?_
         rintro e w5 ⟨v5, rfl, r5, b5⟩
         have HK45 := Lib.hid (Keep.trans (a := w4) (S := fun _ => False) (by first | exact (Keep.refl _ _) | exact (Keep.refl _ _).drew | exact (Keep.refl _ _).drewN _) (Keep.of_below b5))
         have HK5 := Lib.hid (HK4.out.trans HK45.out)
         have R5 := Lib.hid r5
         clear r5 b5)
      | (go_at_call 32
         refine calls_at (args := #[.slice aoT T.length cT, .agg #[.int .i64 (z : Int), .int .i64 (z' : Int)]]) rfl (P3.out _ (by first | exact HK5.out | exact HK5.out.drew | exact HK5.out.drewN _)) ?_
         rintro e w6 ⟨v6, rfl, r6, b6⟩
         have HK56 := Lib.hid (Keep.trans (a := w5) (S := fun _ => False) (by first | exact (Keep.refl _ _) | exact (Keep.refl _ _).drew | exact (Keep.refl _ _).drewN _) (Keep.of_below b6))
         have HK6 := Lib.hid (HK5.out.trans HK56.out)
         have R6 := Lib.hid r6
         clear r6 b6))
  have R4' := Lib.hid (R4.out.below ((HK45.out.trans HK56.out).below (fun _ e => e.elim) (Nat.le_refl _)))
  have R5' := Lib.hid (R5.out.below (HK56.out.below (fun _ e => e.elim) (Nat.le_refl _)))
  have E1 := Lib.hid (fun n => equal_any v5 v6 qs rs (w6.drewN n) R5'.out R6.out q2 q3)
  have E2 := Lib.hid (fun n => equal_any v5 v4 qs ps (w6.drewN n) R5'.out R4'.out q2 q1)
  have E3 := Lib.hid (fun n => equal_any v6 v4 rs ps (w6.drewN n) R6.out R4'.out q3 q1)
  have HW6 := Lib.hid (HBl.out w6 HK6.out)
  clear R4 R5 R6 R4' R5' P1 P2 P3 HS q1 q2 q3 HBl
  go_wp2_with fail
  refine (E1.out 0).mono ?_
  rintro e w7 ⟨rfl, n1, rfl⟩
  by_cases g1 : qs = rs
  · rw [if_pos g1] at HOUT
    rw [decide_eq_true g1]
    clear g1
    go_wp2_with fail
    go_ret
    exact ⟨by rw [HOo.out, HOUT.out]; rfl, by rw [HCe.out]; first | exact below_drewN HW6.out _ | exact below_drewN (below_drewN HW6.out _) _ | exact below_drewN (below_drewN (below_drewN HW6.out _) _) _⟩
  · rw [if_neg g1] at HOUT
    rw [decide_eq_false g1]
    clear g1
    go_wp2_with fail
    refine (E2.out n1).mono ?_
    rintro e w8 ⟨rfl, n2, rfl⟩
    by_cases g2 : qs = ps
    · rw [if_pos g2] at HOUT
      rw [decide_eq_true g2]
      clear g2
      go_wp2_with fail
      go_ret
      exact ⟨by rw [HOo.out, HOUT.out]; rfl, by rw [HCe.out]; first | exact below_drewN HW6.out _ | exact below_drewN (below_drewN HW6.out _) _ | exact below_drewN (below_drewN (below_drewN HW6.out _) _) _⟩
    · rw [if_neg g2] at HOUT
      rw [decide_eq_false g2]
      clear g2
      go_wp2_with fail
      refine (E3.out (n1 + n2)).mono ?_
      rintro e w9 ⟨rfl, n3, rfl⟩
      by_cases g3 : rs = ps
      · rw [if_pos g3] at HOUT
        rw [decide_eq_true g3]
        clear g3
        go_wp2_with fail
        go_ret
        exact ⟨by rw [HOo.out, HOUT.out]; rfl, by rw [HCe.out]; first | exact below_drewN HW6.out _ | exact below_drewN (below_drewN HW6.out _) _ | exact below_drewN (below_drewN (below_drewN HW6.out _) _) _⟩
      · rw [if_neg g3] at HOUT
        rw [decide_eq_false g3]
        clear g3
        go_wp2_with fail
        go_ret
        exact ⟨by rw [HOo.out, HOUT.out]; rfl, by rw [HCe.out]; first | exact below_drewN HW6.out _ | exact below_drewN (below_drewN HW6.out _) _ | exact below_drewN (below_drewN (below_drewN HW6.out _) _) _⟩

end Go.Proofs.Ytipgofglidmffaa.Wv
