/-
  CONTRACT of the statements' own awake.
-/
import Derived.Test.YtipgofglidmffaaMkMerge
import Derived.Test.YtipgofglidmffaaMkSize
namespace Go.Proofs.Ytipgofglidmffaa.Mk
open Go.RowKit Go.Proofs.Ytipgofglidmffaa.Tk Go.Proofs.Ytipgofglidmffaa.Cm Go.Proofs.Ytipgofglidmffaa.Lc
open Go.Proofs.Ytipgofglidmffaa.Wv (Ch chunks)
set_option linter.unusedVariables false

theorem nums_abc : nums [[[(97 : UInt8)]], [[98]], [[99]]].flatten [[97]] = [0] ∧ nums [[[(97 : UInt8)]], [[98]], [[99]]].flatten [[98]] = [1] ∧ nums [[[(97 : UInt8)]], [[98]], [[99]]].flatten [[99]] = [2] := by
  decide +kernel
theorem cks_abc : cks [[97]] [[98]] [[99]] = [⟨0, 1, 0, 1, 0, 1, 5⟩] := by
  unfold cks
  rw [nums_abc.1, nums_abc.2.1, nums_abc.2.2]
  have h1 : pairs [0] [1] = [] := by simp [pairs, pp, lcs]
  have h2 : pairs [0] [2] = [] := by simp [pairs, pp, lcs]
  unfold chunks
  rw [h1, h2]
  rfl
theorem mlines_abc : clashes (cks [[97]] [[98]] [[99]]) = 1 ∧ mlines (hold 7) [] [] [] [[97]] [[98]] [[99]] (cks [[97]] [[98]] [[99]]) = [[60, 60, 60, 60, 60, 60, 60], [98], [124, 124, 124, 124, 124, 124, 124], [97], [61, 61, 61, 61, 61, 61, 61], [99], [62, 62, 62, 62, 62, 62, 62]] := by
  rw [cks_abc]
  exact ⟨rfl, rfl⟩
theorem size_awake : size 0 [[[(61 : UInt8), 61, 61, 61, 61, 61, 61, 120]]].flatten = 8 := by decide +kernel

set_option maxHeartbeats 1600000 in
theorem awake_any (w : World) :
    Calls Try.prog 6 #[] w fun e w' => e = .returned (.bool true) ∧ Below w.heap.size w w' := by
  have b1 : ∀ (w1 : World) o, Below w1.heap.size w1 (w1.alloc o) := fun w1 o => (Below.refl _ _).alloc (Nat.le_refl _) _
  obtain ⟨w1, hw1⟩ : ∃ w1, w.alloc (.cells #[.string (S [97])] 9) = w1 := ⟨_, rfl⟩
  obtain ⟨w2, hw2⟩ : ∃ w2, w1.alloc (.cells #[.string (S [98])] 9) = w2 := ⟨_, rfl⟩
  have s1 : w1.heap.size = w.heap.size + 1 := by rw [← hw1]; simp
  have s2 : w2.heap.size = w.heap.size + 1 + 1 := by rw [← hw2, ← s1]; simp
  have B1 : Below w.heap.size w w1 := by rw [← hw1]; exact b1 _ _
  have B2 : Below w1.heap.size w1 w2 := by rw [← hw2]; exact b1 _ _
  have r1 : Rd w1 (.slice (some ⟨w.heap.size, 0, none⟩) 1 1) [[97]] := by rw [← hw1]; exact rd_one w [97] _
  have r2 : Rd w2 (.slice (some ⟨w1.heap.size, 0, none⟩) 1 1) [[98]] := by rw [← hw2]; exact rd_one w1 [98] _
  have r3 := rd_one w2 [99] 9
  have B3 := b1 w2 (.cells #[.string (S [99])] 9)
  have hm := merge_any 7 [] [] [] (by simp) (by simp) (by simp) _ _ _ [[97]] [[98]] [[99]] _ ((r1.below B2).below B3) (r2.below B3) r3 (by decide) (by decide) (by decide)
  have HB0 := Lib.hid (B1.trans ((B2.mono B1.size).trans (B3.mono (Nat.le_trans B1.size B2.size))))
  unfold MgOk at hm
  rw [mlines_abc.1, mlines_abc.2, s1, s2] at hm
  have HM := Lib.hid hm
  clear hm r1 r2 r3 B1 B2 B3 b1 s1 s2
  subst hw2 hw1
  have HSz : Hid (∀ w0 : World, Calls Try.prog 9 #[.int .i64 0, .slice (some ⟨w0.heap.size + 1, 0, none⟩) 1 1] ((w0.alloc (.cells #[.string (S [61, 61, 61, 61, 61, 61, 61, 120])] 9)).alloc (.cells #[.slice (some ⟨w0.heap.size, 0, none⟩) 1 1] 24)) fun e w' => e = .returned (.int .i64 8) ∧ Below w0.heap.size w0 w') := Lib.hid (fun w0 => by
    have hs : (w0.alloc (.cells #[.string (S [61, 61, 61, 61, 61, 61, 61, 120])] 9)).heap.size = w0.heap.size + 1 := by simp
    have hr := rd_one w0 [61, 61, 61, 61, 61, 61, 61, 120] 9
    have hl := rdl_alloc (t := 24) #[.slice (some ⟨w0.heap.size, 0, none⟩) 1 1] [[[61, 61, 61, 61, 61, 61, 61, 120]]] (fun j x hj => by
      match j, hj with
      | 0, hj => simp at hj; subst hj; exact ⟨_, rfl, hr⟩
      | j + 1, hj => simp at hj) 1
    rw [hs] at hl
    have hz := size_any 0 _ _ _ hl (by decide) (by
      intro l hl
      simp at hl
      subst hl
      refine ⟨by decide, fun x hx => ?_⟩
      simp at hx
      subst hx
      decide)
    rw [size_awake] at hz
    refine hz.mono ?_
    rintro e w' ⟨he, rfl⟩
    exact ⟨he, ((Below.refl w0.heap.size w0).alloc (Nat.le_refl _) _).alloc (by simp) _⟩)
  go_enter Try.func6, Try.ntmps6
  go_wp2_with fail
  refine calls_at (by rfl) HM.out ?_
  rintro e w3 ⟨v, rfl, r, hb⟩
  have HB3 := Lib.hid (HB0.out.trans (hb.mono HB0.out.size))
  obtain ⟨ao, ca, rfl, hca, hx⟩ := r
  rcases hx with hx | ⟨b, o, rfl, hb1, hcell⟩
  · exact absurd hx (by simp)
  have c0 : w3.cell? ⟨b, o, none⟩ = some (.string (S [60, 60, 60, 60, 60, 60, 60])) := hcell 0 _ rfl
  have e0 : ((S [60, 60, 60, 60, 60, 60, 60]).toList == ([60, 60, 60, 60, 60, 60, 60] : List UInt8)) = true := by rw [S_toList]; rfl
  clear hb HB0 HM hcell hca
  simp only [List.length_cons, List.length_nil]
  go_wp2_with fail
  refine calls_at (by rfl) (HSz.out w3) ?_
  rintro e w4 ⟨rfl, b4⟩
  have HB4 := Lib.hid (HB3.out.trans (b4.mono HB3.out.size))
  clear b4
  go_wp2_with fail
  go_ret
  exact ⟨rfl, HB4.out⟩

end Go.Proofs.Ytipgofglidmffaa.Mk
