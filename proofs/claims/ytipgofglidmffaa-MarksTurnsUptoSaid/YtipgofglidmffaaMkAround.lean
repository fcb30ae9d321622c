/-
  CONTRACTS of around and of marks.Region: a clash as lines.
-/
import Derived.Test.YtipgofglidmffaaMkMarker
import Derived.Test.YtipgofglidmffaaTkConcat
namespace Go.Proofs.Ytipgofglidmffaa.Mk
open Go.RowKit Go.Proofs.Ytipgofglidmffaa.Tk Go.Proofs.Ytipgofglidmffaa.Cm
set_option linter.unusedVariables false

theorem rdl_alloc {w : World} {t : TypeId} (vs : Array Value) (ls : List (List Tx)) (h : ∀ (j : Nat) (x : List Tx), ls[j]? = some x → ∃ u : Value, vs[j]? = some u ∧ Rd w u x) (n : Nat) : RdL (w.alloc (.cells vs t)) (.slice (some ⟨w.heap.size, 0, none⟩) ls.length n) ls := by
  refine ⟨_, _, rfl, Or.inr ⟨w.heap.size, 0, rfl, by simp, fun j x hj => ?_⟩⟩
  obtain ⟨u, h1, h2⟩ := h j x hj
  refine ⟨u, ?_, h2.below ((Below.refl _ _).alloc (Nat.le_refl _) _)⟩
  rw [Nat.zero_add, World.cell?_alloc_new]
  exact h1
theorem rd_one (w : World) (x : Tx) (t : TypeId) : Rd (w.alloc (.cells #[.string (S x)] t)) (.slice (some ⟨w.heap.size, 0, none⟩) 1 1) [x] := by
  refine ⟨_, _, rfl, Nat.le_refl _, Or.inr ⟨w.heap.size, 0, rfl, by simp, fun j y hj => ?_⟩⟩
  rw [Nat.zero_add, World.cell?_alloc_new]
  match j, hj with
  | 0, hj => simp only [List.getElem?_cons_zero, Option.some.injEq] at hj; rw [hj]; rfl
  | j + 1, hj => simp at hj
theorem rdl7 {w : World} {t : TypeId} {a b c d e f g : Value} {x1 x2 x3 x4 x5 x6 x7 : List Tx} (h1 : Rd w a x1) (h2 : Rd w b x2) (h3 : Rd w c x3) (h4 : Rd w d x4) (h5 : Rd w e x5) (h6 : Rd w f x6) (h7 : Rd w g x7) :
    RdL (w.alloc (.cells #[a, b, c, d, e, f, g] t)) (.slice (some ⟨w.heap.size, 0, none⟩) 7 7) [x1, x2, x3, x4, x5, x6, x7] :=
  rdl_alloc #[a, b, c, d, e, f, g] [x1, x2, x3, x4, x5, x6, x7] (fun j x hj => by
    match j, hj with
    | 0, hj => simp at hj; subst hj; exact ⟨a, rfl, h1⟩
    | 1, hj => simp at hj; subst hj; exact ⟨b, rfl, h2⟩
    | 2, hj => simp at hj; subst hj; exact ⟨c, rfl, h3⟩
    | 3, hj => simp at hj; subst hj; exact ⟨d, rfl, h4⟩
    | 4, hj => simp at hj; subst hj; exact ⟨e, rfl, h5⟩
    | 5, hj => simp at hj; subst hj; exact ⟨f, rfl, h6⟩
    | 6, hj => simp at hj; subst hj; exact ⟨g, rfl, h7⟩
    | j + 7, hj => simp at hj) 7
theorem region_flat (h : Nat) (no nb nt : Tx) (O B T : List Tx) : [[mkr 60 h no], O, [mkr 124 h nb], B, [mkr 61 h []], T, [mkr 62 h nt]].flatten = region h no nb nt O B T := by
  unfold region
  simp

set_option maxHeartbeats 3200000 in
set_option maxRecDepth 100000 in
theorem around_any (h : Nat) (no nb nt : Tx) (vO vB vT : Value) (O B T : List Tx) (w : World) (rO : Rd w vO O) (rB : Rd w vB B) (rT : Rd w vT T) (lO : O.length ≤ 100000) (lB : B.length ≤ 100000) (lT : T.length ≤ 100000) :
    Calls Try.prog 19 #[vMks h no nb nt, vO, vB, vT] w fun e w' => ∃ v, e = .returned v ∧ Rd w' v (region h no nb nt O B T) ∧ Below w.heap.size w w' := by
  obtain ⟨aO, cO, rfl⟩ := rO.len
  obtain ⟨aB, cB, rfl⟩ := rB.len
  obtain ⟨aT, cT, rfl⟩ := rT.len
  obtain ⟨m1, hm1⟩ : ∃ m, mkr 60 h no = m := ⟨_, rfl⟩
  obtain ⟨m2, hm2⟩ : ∃ m, mkr 124 h nb = m := ⟨_, rfl⟩
  obtain ⟨m3, hm3⟩ : ∃ m, mkr 61 h [] = m := ⟨_, rfl⟩
  obtain ⟨m4, hm4⟩ : ∃ m, mkr 62 h nt = m := ⟨_, rfl⟩
  have HF : Hid ([[m1], O, [m2], B, [m3], T, [m4]].flatten = region h no nb nt O B T) := Lib.hid (by rw [← region_flat, hm1, hm2, hm3, hm4])
  have hlen : ([[m1], O, [m2], B, [m3], T, [m4]].flatten).length ≤ 1000000 := by simp; omega
  show Calls Try.prog 19 #[.agg #[.string (S (mkr 60 h no)), .string (S (mkr 124 h nb)), .string (S (mkr 61 h [])), .string (S (mkr 62 h nt))], (.slice aO O.length cO), (.slice aB B.length cB), (.slice aT T.length cT)] w _
  rw [hm1, hm2, hm3, hm4]
  clear hm1 hm2 hm3 hm4
  obtain ⟨w1, hw1⟩ : ∃ w1, w.alloc (.cells #[.string (S m1), .string (S m2), .string (S m3), .string (S m4)] 47) = w1 := ⟨_, rfl⟩
  have B1 : Below w.heap.size w w1 := by rw [← hw1]; exact (Below.refl _ _).alloc (Nat.le_refl _) _
  have al : ∀ (x : World) o, Below x.heap.size x (x.alloc o) := fun x o => (Below.refl _ _).alloc (Nat.le_refl _) _
  obtain ⟨w2, hw2⟩ : ∃ w2, w1.alloc (.cells #[.string (S m1)] 9) = w2 := ⟨_, rfl⟩
  have B2 : Below w1.heap.size w1 w2 := by rw [← hw2]; exact al _ _
  have r1 : Rd w2 (.slice (some ⟨w1.heap.size, 0, none⟩) 1 1) [m1] := by rw [← hw2]; exact rd_one w1 m1 _
  obtain ⟨w3, hw3⟩ : ∃ w3, w2.alloc (.cells #[.string (S m2)] 9) = w3 := ⟨_, rfl⟩
  have B3 : Below w2.heap.size w2 w3 := by rw [← hw3]; exact al _ _
  have r2 : Rd w3 (.slice (some ⟨w2.heap.size, 0, none⟩) 1 1) [m2] := by rw [← hw3]; exact rd_one w2 m2 _
  obtain ⟨w4, hw4⟩ : ∃ w4, w3.alloc (.cells #[.string (S m3)] 9) = w4 := ⟨_, rfl⟩
  have B4 : Below w3.heap.size w3 w4 := by rw [← hw4]; exact al _ _
  have r3 : Rd w4 (.slice (some ⟨w3.heap.size, 0, none⟩) 1 1) [m3] := by rw [← hw4]; exact rd_one w3 m3 _
  obtain ⟨w5, hw5⟩ : ∃ w5, w4.alloc (.cells #[.string (S m4)] 9) = w5 := ⟨_, rfl⟩
  have B5 : Below w4.heap.size w4 w5 := by rw [← hw5]; exact al _ _
  have r4 : Rd w5 (.slice (some ⟨w4.heap.size, 0, none⟩) 1 1) [m4] := by rw [← hw5]; exact rd_one w4 m4 _
  have B15 : Below w.heap.size w w5 := (((B1.trans (B2.mono B1.size)).trans (B3.mono (Nat.le_trans B1.size B2.size))).trans (B4.mono (Nat.le_trans B1.size (Nat.le_trans B2.size B3.size)))).trans (B5.mono (Nat.le_trans B1.size (Nat.le_trans B2.size (Nat.le_trans B3.size B4.size))))
  have s1 : w1.heap.size = w.heap.size + 1 := by rw [← hw1]; simp
  have s2 : w2.heap.size = w.heap.size + 1 + 1 := by rw [← hw2, ← s1]; simp
  have s3 : w3.heap.size = w.heap.size + 1 + 1 + 1 := by rw [← hw3, ← s2]; simp
  have s4 : w4.heap.size = w.heap.size + 1 + 1 + 1 + 1 := by rw [← hw4, ← s3]; simp
  have s5 : w5.heap.size = w.heap.size + 1 + 1 + 1 + 1 + 1 := by rw [← hw5, ← s4]; simp
  rw [s1] at r1
  rw [s2] at r2
  rw [s3] at r3
  rw [s4] at r4
  have HL := rdl7 (t := 24) (((r1.below B3).below B4).below B5) (rO.below B15) ((r2.below B4).below B5) (rB.below B15) (r3.below B5) (rT.below B15) r4
  rw [s5] at HL
  have HC := Lib.hid (concat_any _ _ _ HL (by simp) hlen)
  have HB6 := Lib.hid (B15.trans (Below.mono (al w5 (.cells #[.slice (some ⟨w.heap.size + 1, 0, none⟩) 1 1, (.slice aO O.length cO), .slice (some ⟨w.heap.size + 1 + 1, 0, none⟩) 1 1, (.slice aB B.length cB), .slice (some ⟨w.heap.size + 1 + 1 + 1, 0, none⟩) 1 1, (.slice aT T.length cT), .slice (some ⟨w.heap.size + 1 + 1 + 1 + 1, 0, none⟩) 1 1] 24)) B15.size))
  clear r1 r2 r3 r4 rO rB rT B1 B2 B3 B4 B5 B15 HL al hlen lO lB lT s1 s2 s3 s4 s5
  subst hw5 hw4 hw3 hw2 hw1
  go_enter Try.func19, Try.ntmps19
  go_wp2_with fail
  refine calls_at rfl HC.out ?_
  rintro e w6 ⟨v', rfl, hown, b6⟩
  have HR := Lib.hid (Rd.of_own hown)
  rw [HF.out] at HR
  have HB := Lib.hid (HB6.out.trans (b6.mono HB6.out.size))
  clear hown b6 HC HB6
  go_wp2_with fail
  go_ret
  exact ⟨_, rfl, HR.out, HB.out⟩

set_option maxHeartbeats 3200000 in
theorem region_any (n : Int) (no nb nt : Tx) (l1 : no.length ≤ 1000000) (l2 : nb.length ≤ 1000000) (l3 : nt.length ≤ 1000000) (vO vB vT : Value) (O B T : List Tx) (w : World) (rO : Rd w vO O) (rB : Rd w vB B) (rT : Rd w vT T) (lO : O.length ≤ 100000) (lB : B.length ≤ 100000) (lT : T.length ≤ 100000) :
    Calls Try.prog 11 #[.int .i64 n, vSides no nb nt, vO, vB, vT] w fun e w' => ∃ v, e = .returned v ∧ Rd w' v (region (hold n) no nb nt O B T) ∧ Below w.heap.size w w' := by
  have HM := Lib.hid (markersOf_any n no nb nt l1 l2 l3 (w.alloc (.cells #[.string (S no), .string (S nb), .string (S nt)] 31)))
  have HB1 := Lib.hid ((Below.refl w.heap.size w).alloc (Nat.le_refl _) (.cells #[.string (S no), .string (S nb), .string (S nt)] 31))
  have HA : Hid (∀ w', Below w.heap.size w w' → Calls Try.prog 19 #[vMks (hold n) no nb nt, vO, vB, vT] w' fun e w'' => ∃ v, e = .returned v ∧ Rd w'' v (region (hold n) no nb nt O B T) ∧ Below w'.heap.size w' w'') := Lib.hid (fun w' hb => around_any (hold n) no nb nt vO vB vT O B T w' (rO.below hb) (rB.below hb) (rT.below hb) lO lB lT)
  clear rO rB rT lO lB lT l1 l2 l3
  show Calls Try.prog 11 #[.int .i64 n, .agg #[.string (S no), .string (S nb), .string (S nt)], vO, vB, vT] w _
  go_enter Try.func11, Try.ntmps11
  go_wp2_with fail
  refine calls_at (by rfl) HM.out ?_
  rintro e w2 ⟨rfl, b2⟩
  have HB2 := Lib.hid (HB1.out.trans (b2.mono HB1.out.size))
  clear b2 HM
  go_wp2_with fail
  refine (HA.out w2 HB2.out).mono ?_
  rintro e w3 ⟨v, rfl, r3, b3⟩
  have HR := Lib.hid r3
  have HB3 := Lib.hid (HB2.out.trans (b3.mono HB2.out.size))
  clear r3 b3
  go_wp2_with fail
  go_ret
  exact ⟨_, rfl, HR.out, HB3.out⟩

end Go.Proofs.Ytipgofglidmffaa.Mk
