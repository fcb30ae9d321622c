/-
  CONTRACT of newWalk (package lcs).
-/
import Derived.Test.YtbfclmhcoelplaaLpCounts
namespace Go.Proofs.Ytbfclmhcoelplaa.Lp
open Go.RowKit Go.Proofs.Ytbfclmhcoelplaa.Cm Go.Proofs.Ytbfclmhcoelplaa.Lc Go.Proofs.Ytbfclmhcoelplaa.Lcx
set_option linter.unusedVariables false

def NewPost (w0 : World) (a b : List Int) (vb : Value) (e : Ending) (w' : World) : Prop :=
  ∃ Wb Mb wd Kt Tt C B vc vct vft t, e = .returned (.pointer (some ⟨Wb, 0, none⟩)) ∧ Ws w0 a b Wb vb Mb wd Kt Tt C B vc 0 vct vft t w' ∧ b.length ≤ wd ∧ wd ≤ 8589934592
theorem NewPost.intro {w0 : World} {a b : List Int} {vb : Value} {Wb Mb wd Kt Tt : Nat} {x : Ending} {w' : World} (h : ReckPost w0 a b Wb vb Mb wd Kt Tt x w') (h1 : b.length ≤ wd) (h2 : wd ≤ 8589934592) (h3 : w0.heap.size ≤ Wb) (h4 : w0.heap.size ≤ Tt) :
    NewPost w0 a b vb (.returned (.pointer (some ⟨Wb, 0, none⟩))) w' := by
  obtain ⟨_, C, vc, B, t, vct, vft, k1, k2, k3, k4, k5, k6, k7, k8, k9, k10, k11⟩ := h
  exact ⟨Wb, Mb, wd, Kt, Tt, C, B, vc, vct, vft, t, rfl, ⟨k1, by rw [List.drop_zero]; exact k2, by rw [List.drop_zero]; exact k3, k4, ⟨k5, k6, h3, h4, k7, k8, k9⟩, k10, k11⟩, h1, h2⟩

theorem ReckPost.ret {w0 : World} {a b : List Int} {vb : Value} {Wb Mb wd Kt Tt : Nat} {x : Ending} {w' : World} (h : ReckPost w0 a b Wb vb Mb wd Kt Tt x w') : ∃ v, x = .returned v := h.1
set_option maxHeartbeats 6400000 in
set_option maxRecDepth 100000 in
theorem newWalk_any (w0 : World) (va vb : Value) (a b : List Int) (w : World) (ha : Rz w0 va a) (hb : Rz w0 vb b) (hbw : Below w0.heap.size w0 w) (hla : a.length ≤ 8000) (hlb : b.length ≤ 8000) :
    Calls Try.prog 43 #[va, vb, .int .i64 1048576] w (NewPost w0 a b vb) := by
  have HPl := Lib.hid (placesOf_any va a w (ha.below hbw) (by omega))
  have HLa := Lib.hid (fun w1 (h : Below w0.heap.size w0 w1) => lastColumn_any va a w1 (ha.below h) (by omega))
  have HRB := Lib.hid hb
  have HBW := Lib.hid hbw
  obtain ⟨aoa, ca, rfl⟩ := ha.len
  obtain ⟨aob, cb, rfl⟩ := hb.len
  obtain ⟨W, hW⟩ : ∃ W, (a.length + 63) / 64 = W := ⟨_, rfl⟩
  have hWle : W ≤ 126 := by omega
  have hWm : b.length * max W 1 ≤ 1048576 := by
    have : b.length * max W 1 ≤ 8000 * 126 := Nat.mul_le_mul hlb (by omega)
    omega
  clear ha hb hbw
  go_enter Try.func43, Try.ntmps43
  go_wp2_with fail
  refine HPl.out.mono ?_
  rintro e w1 ⟨Mb, rfl, hp, hb1⟩
  have HP1 := Lib.hid hp
  have HB1 := Lib.hid (HBW.out.trans (hb1.mono HBW.out.size))
  have hs1 := hb1.size
  clear hp hb1 HPl
  go_wp2_with fail
  refine (newTableU_any w1).mono ?_
  rintro e w2 ⟨rfl, hu, hk2⟩
  have hs2 : w1.heap.size < w2.heap.size := lt_of_at hu
  have HU2 := Lib.hid hu
  have HK2 := Lib.hid hk2
  clear hu hk2
  go_wp2_with fail
  refine (newTableW_any w2).mono ?_
  rintro e w3 ⟨rfl, ht, hk3⟩
  have hs3 : w2.heap.size < w3.heap.size := lt_of_at ht.1
  have HT3 := Lib.hid ht
  have HK3 := Lib.hid hk3
  clear ht hk3
  go_upto_region 2 with fail
  have hn := Lib.hid (alloc_new w3 (.cells #[.slice aob b.length cb, .int .i64 a.length, .map (some Mb), .int .i64 0, .pointer (some ⟨w1.heap.size, 0, none⟩), .pointer (some ⟨w2.heap.size, 0, none⟩), .pointer none, .int .i64 0] 92))
  have hka := Lib.hid (keep_alloc w3 (.cells #[.slice aob b.length cb, .int .i64 a.length, .map (some Mb), .int .i64 0, .pointer (some ⟨w1.heap.size, 0, none⟩), .pointer (some ⟨w2.heap.size, 0, none⟩), .pointer none, .int .i64 0] 92))
  generalize hw4 : w3.alloc (.cells #[.slice aob b.length cb, .int .i64 a.length, .map (some Mb), .int .i64 0, .pointer (some ⟨w1.heap.size, 0, none⟩), .pointer (some ⟨w2.heap.size, 0, none⟩), .pointer none, .int .i64 0] 92) = w4 at *
  have k14 : Keep (fun _ => False) w1 w4 := (HK2.out.trans HK3.out).trans hka.out
  have k24 : Keep (fun _ => False) w2 w4 := HK3.out.trans hka.out
  have hs4 : w4.heap.size = w3.heap.size + 1 := by rw [← hw4, World.size_alloc]
  have hHw : w0.heap.size ≤ w.heap.size := HBW.out.size
  have HN := Lib.hid hn.out
  have HU4 := Lib.hid (k24.at HU2.out (fun h => h))
  have HT4 := Lib.hid (HT3.out.keep hka.out (fun _ _ h => h))
  have HP4 := Lib.hid (HP1.out.keep k14 (fun _ _ _ h => h))
  have HB4 := Lib.hid (HB1.out.trans (k14.below (fun _ h => h.elim) HB1.out.size))
  have HORD0 : w1.heap.size < w2.heap.size ∧ w2.heap.size < w3.heap.size ∧ w.heap.size ≤ w1.heap.size ∧ w3.heap.size + 1 = w4.heap.size := by omega
  clear hn hka k14 k24 HU2 HT3 HP1 HB1 HK2 HK3 hs1 hs2 hs3 hw4 hs4
  generalize w3.heap.size = Wb at *
  generalize w2.heap.size = Tt at *
  generalize w1.heap.size = Kt at *
  generalize w.heap.size = H at *
  have HORD : Hid (Kt < Tt ∧ Tt < Wb ∧ H ≤ Kt ∧ Wb + 1 = w4.heap.size) := Lib.hid HORD0
  clear HORD0
  go_wp2_with fail
  refine (HLa.out _ HB4.out).mono ?_
  rintro e w5 ⟨C0, v0, B0, rfl, hcol, hB, hC, hBC, hB2, hb5⟩
  rw [hW] at hcol
  obtain ⟨av0, cv0, rfl⟩ := hcol.2.1.len
  have c00 : w5.cell? ⟨C0, 0, none⟩ = some (.slice av0 W cv0) := cell_at hcol.1 0
  have hwk5 : w5.heap[Wb]? = _ := (Keep.of_below (S := fun _ => False) hb5).at HN.out (fun h => h)
  have hWC : Wb ≠ C0 := by have := HORD.out; omega
  have hWB : Wb ≠ B0 := by have := HORD.out; omega
  have f3 := frozen_at hwk5 3
  have c3 : w5.cell? ⟨Wb, 3, none⟩ = some (.int .i64 0) := cell_at hwk5 3
  have hl5 := lt_of_at hwk5
  have hlC := lt_of_at hcol.1
  have HWD := Lib.hid (wideOf_any W b.length w5 (by omega) (by omega) hWm)
  have HC5 := Lib.hid hcol
  have HB5 := Lib.hid hb5
  have HW5 := Lib.hid hwk5
  have hCK : C0 ≠ Kt := by have := HORD.out; omega
  clear hcol hB hC hBC hB2 hb5 hwk5
  go_wp2_with fail
  refine HWD.out.mono ?_
  rintro e w6 ⟨wd, rfl, hwd1, hwd0, hwd2, k6, rfl⟩
  have hwk6 := set_at (w := w5.drewN k6) HW5.out 3 (.int .i64 wd)
  have hk6 : Keep (fun g => g = Wb) w5 ((w5.drewN k6).setCell ⟨Wb, 3, none⟩ (.int .i64 wd)) := ((Keep.refl (fun g => g = Wb) w5).drewN k6).setCell (p := ⟨Wb, 3, none⟩) (Or.inl rfl) _
  have hk46 : Keep (fun g => g = Wb) w4 ((w5.drewN k6).setCell ⟨Wb, 3, none⟩ (.int .i64 wd)) := (Keep.of_below HB5.out).trans hk6
  have HC6 := Lib.hid (HC5.out.keep hk6 (fun e => hWC e.symm) (fun e => hWB e.symm))
  have HW6 := Lib.hid hwk6
  have HK46 := Lib.hid hk46
  have hfr : (w5.drewN k6).frozen? ⟨Wb, 3, none⟩ = false := f3
  clear hwk6 hk6 hk46 HC5 HB5 HW5 HWD c00
  go_upto_region 4 with fail
  generalize (w5.drewN k6).setCell ⟨Wb, 3, none⟩ (.int .i64 wd) = w7 at *
  clear f3 c3 hfr
  have c4 : w7.cell? ⟨Wb, 4, none⟩ = some (.pointer (some ⟨Kt, 0, none⟩)) := cell_at HW6.out 4
  have c0 : w7.cell? ⟨C0, 0, none⟩ = some (.slice av0 W cv0) := cell_at HC6.out.1 0
  have hne : ∀ g, g = Kt ∨ g = Tt → g ≠ Wb := fun g hg => by have := HORD.out; omega
  have HU7 := Lib.hid (HK46.out.at HU4.out (hne Kt (Or.inl rfl)))
  have HAD := Lib.hid (addU_any Kt W B0 (.slice av0 W cv0) (fun _ => 0) w7.drew HU7.out HC6.out.2.1 (by omega))
  have d4 := lit_cell c4
  have d0 := lit_cell c0
  have hl7 := lt_of_at HW6.out
  have hlC7 := lt_of_at HC6.out.1
  go_wp2_with fail
  go_still_tail 8, (by kernel_rfl)
  change wpList _ _ _ _ _ w7.drew
  go_wp2_with fail
  refine HAD.out.mono ?_
  rintro e w8 ⟨⟨x8, rfl⟩, vcu, vfu, htu, hg1, hg2, hk8⟩
  have k48 : Keep (fun g => g = Wb ∨ g = Kt) w4 w8 := (HK46.out.mono (fun g _ h => Or.inl h)).trans (((Keep.refl (fun g => g = Kt) w7).drew.trans hk8).mono (fun g _ h => Or.inr h))
  have hWK : Wb ≠ Kt := fun e => hne Kt (Or.inl rfl) e.symm
  have hwk8 : WkAt w8 Wb (.slice aob b.length cb) a.length Mb wd Kt Tt (.pointer none) 0 := ((Keep.refl (fun g => g = Kt) w7).drew.trans hk8).at HW6.out hWK
  have HRK := Lib.hid (reckon_any w0 a b Wb Mb wd Kt Tt H Kt (.slice aob b.length cb) vcu vfu w8 HRB.out (HB4.out.trans (k48.below (fun g hg => by have := HORD.out; rcases hg with h | h <;> omega) HB4.out.size)) hwk8 (by rw [hW]; exact htu)
    (HT4.out.keep k48 (fun g hg hs => by
      have := HORD.out
      rcases hg with h | h | h
      · rcases hs with h' | h' <;> omega
      · simp [Value.ownBlock] at h
      · simp [Value.ownBlock] at h)) (HP4.out.keep k48 (fun g g1 g2 hs => by have := HORD.out; rcases hs with h' | h' <;> omega)) hwd1 hwd2 (by omega) (by omega)
    (by have := HORD.out; have := k48.size; exact ⟨hHw, by omega, by omega, by omega, by omega, by omega, by omega, by omega, by omega, fun g hg => by have := hg1 g hg; have : w4.heap.size ≤ w7.drew.heap.size := HK46.out.size; omega⟩))
  have c38 : w8.cell? ⟨Wb, 3, none⟩ = some (.int .i64 wd) := cell_at hwk8 3
  have hl8 := lt_of_at hwk8
  have HF : Hid (b.length ≤ wd ∧ wd ≤ 8589934592 ∧ w0.heap.size ≤ Wb ∧ w0.heap.size ≤ Tt) := Lib.hid (by have := HORD.out; omega)
  clear htu hg1 hg2 hk8 k48 hwk8 HAD HU7 HC6 HW6 HK46 c4 c0 d4 d0 HU4 HT4 HP4 HB4 HN HLa
  go_wp2_with fail
  have HZ : Hid (decide ((wd : Int) ≤ (b.length : Int) - 1) = false) := Lib.hid (by have := HF.out.1; rw [decide_eq_false_iff_not]; omega)
  go_loopw [10] (fun s wr => s = .int .i64 ((b.length : Int) - 1) ∧ wr = w8) (fun s wr => 1)
  case atStart => exact ⟨rfl, rfl⟩
  case round =>
    obtain ⟨rfl, rfl⟩ := hrel
    have ez := HZ.out
    go_wp2_with fail
    refine HRK.out.mono ?_
    intro e w9 hpo
    obtain ⟨x9, rfl⟩ : ∃ x, e = .returned x := hpo.ret
    have HPO := Lib.hid hpo
    clear hpo
    go_wp2_with fail
    go_ret
    exact NewPost.intro HPO.out HF.out.1 HF.out.2.1 HF.out.2.2.1 HF.out.2.2.2
end Go.Proofs.Ytbfclmhcoelplaa.Lp
