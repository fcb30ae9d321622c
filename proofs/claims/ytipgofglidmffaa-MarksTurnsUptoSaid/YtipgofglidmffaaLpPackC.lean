/-
  CONTRACT of Pairs (package lcs).
-/
import Derived.Test.YtipgofglidmffaaLpPackB
import Derived.Test.YtipgofglidmffaaLpPackA
import Derived.RangeFuncNested
import Derived.RangeFuncBound
import Derived.RangeFuncCalls
import Derived.RangeFuncLeaves
import Derived.Shelf.Abstract
import Derived.Test.YtipgofglidmffaaCmSlice
import Derived.Test.YtipgofglidmffaaLcRef
import Derived.Shelf.RegionOpen
import Derived.OwnWalkIn
import Derived.TacticsInMore
import Derived.BigRegion
import Derived.Deep.RegionHeld3
import Derived.WalkKit
namespace Go.Proofs.Ytipgofglidmffaa.Lp
open Go.RowKit Go.Proofs.Ytipgofglidmffaa.Cm Go.Proofs.Ytipgofglidmffaa.Lc Go.Proofs.Ytipgofglidmffaa.Lcx
set_option linter.unusedVariables false

theorem WkAt.keepF {w w' : World} {Wb : Nat} {vb : Value} {n Mb wd Kt Tt : Nat} {pn : Value} {at_ : Nat} (h : WkAt w Wb vb n Mb wd Kt Tt pn at_) (k : Keep (fun _ => False) w w') : WkAt w' Wb vb n Mb wd Kt Tt pn at_ := k.at h (fun h => h)
def Dt (a b : List Int) (i j : Nat) : Bool := decide (tb a b i j = tb a b (i + 1) j + 1)
set_option maxHeartbeats 6400000 in
set_option maxRecDepth 100000 in
theorem counts_any (w0 : World) (a b : List Int) (Wb Mb wd Kt Tt C B j q t cb i : Nat) (aob : Option Addr) (vc vct vft : Value) (w : World) (h : Ws w0 a b Wb (.slice aob b.length cb) Mb wd Kt Tt C B vc q vct vft t w) (hqj : q ≤ j) (hj : j < b.length) (hi : i < a.length) (hwd : b.length ≤ wd) (hwd2 : wd ≤ 8589934592) (hla : a.length ≤ 100000) (hlb : b.length ≤ 100000) :
    Calls Try.prog 71 #[.pointer (some ⟨Wb, 0, none⟩), .int .i64 i, .int .i64 j] w fun e w' => e = .returned (.bool (Dt a b i j)) ∧ (∃ vct' vft' t', Ws w0 a b Wb (.slice aob b.length cb) Mb wd Kt Tt C B vc j vct' vft' t' w') ∧ Keep (Son Wb Tt C B ((a.length + 63) / 64)) w w' := by
  have HS := Lib.hid h
  clear h
  go_enter Try.func71, Try.ntmps71
  go_wp2_with fail
  go_loopw [] (fun wr => ∃ (q : Nat) (vct vft : Value) (t : Nat), q ≤ j ∧ Hid (Ws w0 a b Wb (.slice aob b.length cb) Mb wd Kt Tt C B vc q vct vft t wr) ∧ Hid (Keep (Son Wb Tt C B ((a.length + 63) / 64)) w wr)) (fun wr => j - (intOf ((wr.cell? ⟨Wb, 7, none⟩).getD undef)).toNat)
  case atStart => exact ⟨q, vct, vft, t, hqj, HS, Lib.hid (Keep.refl _ w)⟩
  case round =>
    clear HS
    obtain ⟨q, vct, vft, t, hq, HS, HK⟩ := hrel
    have c7 : wr.cell? ⟨Wb, 7, none⟩ = some (.int .i64 q) := cell_at HS.out.wk 7
    have HM : Hid ((intOf ((wr.cell? ⟨Wb, 7, none⟩).getD undef)).toNat = q) := Lib.hid (by rw [c7]; simp [intOf])
    have hlw := lt_of_at HS.out.wk
    by_cases hqj2 : q < j
    · have HON := Lib.hid (on_any w0 a b Wb Mb wd Kt Tt C B q t cb aob vc vct vft wr HS.out (by omega) hwd hwd2 hla hlb)
      have tq : (q : Int) < (j : Int) := by omega
      go_wp2_with fail
      refine HON.out.mono ?_
      rintro e w5 ⟨⟨x5, rfl⟩, ⟨vct', vft', t', hws⟩, hk5⟩
      have H5 := Lib.hid hws
      have K5 := Lib.hid (HK.out.trans hk5)
      have M5 : Hid ((intOf ((w5.cell? ⟨Wb, 7, none⟩).getD undef)).toNat = q + 1) := Lib.hid (by
        have : w5.cell? ⟨Wb, 7, none⟩ = some (.int .i64 ((q + 1 : Nat) : Int)) := cell_at hws.wk 7
        rw [this]; simp [intOf])
      clear hws hk5 HON c7
      go_wp2_with fail
      go_roundw
      case rel => exact ⟨q + 1, vct', vft', t', by omega, H5, K5⟩
      case measure => rw [M5.out, HM.out]; omega
    · obtain rfl : q = j := by omega
      have k6 : wr.cell? ⟨Wb, 6, none⟩ = some (.pointer (some ⟨C, 0, none⟩)) := cell_at HS.out.wk 6
      have k1 : wr.cell? ⟨Wb, 1, none⟩ = some (.int .i64 a.length) := cell_at HS.out.wk 1
      have his := isCol_all (a := a) (B := b) (j := q) (by omega)
      have hbit : (Xc a (b.drop q) ((a.length - 1 - i) / 64)).testBit ((a.length - 1 - i) % 64) = Dt a b i q := his.has hi
      have HX := Lib.hid his.lt
      obtain ⟨q0, hq0⟩ : ∃ q0, (a.length - 1 - i) / 64 = q0 := ⟨_, rfl⟩
      obtain ⟨k0, hk0⟩ : ∃ k0, (a.length - 1 - i) % 64 = k0 := ⟨_, rfl⟩
      have hq0W : q0 < (a.length + 63) / 64 := by omega
      have hk064 : k0 < 64 := by omega
      have HWO := Lib.hid (fun w' => wordOf_any i a.length w' hi (by omega))
      rw [hq0, hk0] at hbit HWO
      have HBIT := Lib.hid hbit
      have HHAS := Lib.hid (fun w' (hc : Col w' C vc ((a.length + 63) / 64) B (Xc a (b.drop q)) t) => has_any C B ((a.length + 63) / 64) t q0 k0 vc (Xc a (b.drop q)) w' hc HX.out (by omega) hq0W hk064)
      obtain ⟨p0, hp0⟩ : ∃ p0, 2 ^ k0 = p0 := ⟨_, rfl⟩
      rw [hp0] at HWO HHAS
      clear his hbit hq0 hk0 hp0
      go_wp2_with fail
      go_region_held3 (fun w' => w'.cell? ⟨Wb, 6, none⟩ = some (.pointer (some ⟨C, 0, none⟩)) ∧ w'.cell? ⟨Wb, 1, none⟩ = some (.int .i64 a.length))
        (first | exact ⟨k6, k1⟩ | exact ⟨k65, k15⟩ | exact ⟨k66, k16⟩)
        (first
          | (go_at_call 93
             refine calls_at (args := #[.int .i64 i, .int .i64 a.length]) rfl (HWO.out _) ?_
             rintro e w5 ⟨rfl, hb5q⟩
             have hb5 := of_drew hb5q
             have k65 := (hb5.cell (by exact hlw)).trans k6
             have k15 := (hb5.cell (by exact hlw)).trans k1
             have K5 := Lib.hid (Keep.of_below (S := fun _ => False) hb5)
             have hlw5 : Wb < w5.heap.size := Nat.lt_of_lt_of_le hlw hb5.size
             clear hb5 hb5q)
          | (go_at_call 92
             refine calls_at (args := #[.pointer (some ⟨C, 0, none⟩), .agg #[.int .i64 q0, .int .u64 p0]]) rfl (HHAS.out _ (HS.out.col.keep K5.out (fun h => h) (fun h => h))) ?_
             rintro e w6 ⟨rfl, hk6⟩
             have K6 := Lib.hid (K5.out.trans hk6)
             have k66 := (World.cell?_of_block (hk6.block Wb hlw5 (fun h => h))).trans k65
             have k16 := (World.cell?_of_block (hk6.block Wb hlw5 (fun h => h))).trans k15
             clear hk6))
      rw [HBIT.out]
      go_wp2_with fail
      go_ret
      exact ⟨rfl, ⟨_, _, _, HS.out.wk.keepF K6.out, HS.out.col.keep K6.out (fun h => h) (fun h => h), HS.out.tab.keep K6.out (fun _ _ h => h), HS.out.bel.trans (K6.out.below (fun _ h => h.elim) HS.out.bel.size), HS.out.ord, HS.out.vcB, HS.out.vfB⟩, HK.out.trans (K6.out.mono (fun _ _ h => h.elim))⟩
end Go.Proofs.Ytipgofglidmffaa.Lp

namespace Go.Proofs.Ytipgofglidmffaa.Lp
open Go.RowKit Go.Proofs.Ytipgofglidmffaa.Cm Go.Proofs.Ytipgofglidmffaa.Lc Go.Proofs.Ytipgofglidmffaa.Lcx
set_option linter.unusedVariables false

theorem mdl_size {a : List Int} {h t : Nat} (hl : h + t ≤ a.length) : (mdl a h t).length = a.length - t - h := by
  unfold mdl
  rw [List.length_take, List.length_drop]
  omega
theorem mdl_drop {a : List Int} {h t i : Nat} (hl : h + t ≤ a.length) (hi : h ≤ i) (hi2 : i ≤ a.length - t) : a.drop i = (mdl a h t).drop (i - h) ++ a.drop (a.length - t) := by
  have e1 : (mdl a h t).drop (i - h) = (a.drop i).take (a.length - t - i) := by
    unfold mdl
    rw [List.drop_take, List.drop_drop]
    congr 1
    · omega
    · congr 1; omega
  have e2 : a.drop (a.length - t) = (a.drop i).drop (a.length - t - i) := by
    rw [List.drop_drop]; congr 1; omega
  rw [e1, e2, List.take_append_drop]
theorem tb_mdl (a b : List Int) {i j : Nat} (hi : hd a b ≤ i) (hi2 : i ≤ a.length - tl a b) (hj : hd a b ≤ j) (hj2 : j ≤ b.length - tl a b) :
    tb a b i j = tb (mdl a (hd a b) (tl a b)) (mdl b (hd a b) (tl a b)) (i - hd a b) (j - hd a b) + tl a b := by
  obtain ⟨h1, h2, h3, h4⟩ := ends_le a b
  unfold tb
  rw [mdl_drop h3 hi hi2, mdl_drop h4 hj hj2, ← tail_eq a b, lcs_tail, List.length_drop]
  omega
theorem mdl_at {a : List Int} {h t i : Nat} (hl : h + t ≤ a.length) (hi : h ≤ i) (hi2 : i < a.length - t) (hm : i - h < (mdl a h t).length) : (mdl a h t)[i - h] = a[i]'(by omega) := by
  have e : (mdl a h t)[i - h]? = a[i]? := by
    unfold mdl
    rw [List.getElem?_take_of_lt (by omega), List.getElem?_drop]
    congr 1
    omega
  rw [List.getElem?_eq_getElem hm, List.getElem?_eq_getElem (by omega)] at e
  exact Option.some.inj e
theorem tb_step (a b : List Int) (i j : Nat) : tb a b i j ≤ tb a b (i + 1) j + 1 := by
  by_cases hi : i < a.length
  · unfold tb
    rw [List.drop_eq_getElem_cons hi, ← lcs_rev, List.reverse_cons]
    have := lcs_more (a.drop (i + 1)).reverse (b.drop j).reverse a[i]
    rw [lcs_rev (a.drop (i + 1))] at this
    exact this
  · rw [tb_end a b i j (by omega)]; omega
theorem last_eq (a b : List Int) {n : Nat} (hn : n ≤ tl a b) : a.drop (a.length - n) = b.drop (b.length - n) := by
  obtain ⟨h1, h2, h3, h4⟩ := ends_le a b
  have e := congrArg (List.drop (tl a b - n)) (tail_eq a b)
  rw [List.drop_drop, List.drop_drop] at e
  rw [show a.length - n = a.length - tl a b + (tl a b - n) by omega, show b.length - n = b.length - tl a b + (tl a b - n) by omega]
  exact e
/-- What spares tells. -/
def sp (a b : List Int) (i j : Nat) : Bool :=
  if i < a.length - tl a b ∧ j < b.length - tl a b then !(Dt (mdl a (hd a b) (tl a b)) (mdl b (hd a b) (tl a b)) (i - hd a b) (j - hd a b)) else decide (b.length - j < a.length - i)
theorem sp_iff {a b : List Int} {i j : Nat} (hi : i < a.length) (hj : j < b.length) (hhi : hd a b ≤ i) (hhj : hd a b ≤ j) (hne : a[i] ≠ b[j]) : sp a b i j = true ↔ tb a b i (j + 1) ≤ tb a b (i + 1) j := by
  obtain ⟨h1, h2, h3, h4⟩ := ends_le a b
  unfold sp
  by_cases hc : i < a.length - tl a b ∧ j < b.length - tl a b
  · rw [if_pos hc]
    obtain ⟨c1, c2⟩ := hc
    have l1 := mdl_size h3
    have l2 := mdl_size h4
    have m1 : i - hd a b < (mdl a (hd a b) (tl a b)).length := by omega
    have m2 : j - hd a b < (mdl b (hd a b) (tl a b)).length := by omega
    have hne' : (mdl a (hd a b) (tl a b))[i - hd a b] ≠ (mdl b (hd a b) (tl a b))[j - hd a b] := by rw [mdl_at h3 hhi c1 m1, mdl_at h4 hhj c2 m2]; exact hne
    have t1 := tb_no m1 m2 hne'
    have t2 := tb_step (mdl a (hd a b) (tl a b)) (mdl b (hd a b) (tl a b)) (i - hd a b) (j - hd a b)
    have e1 := tb_mdl a b (i := i) (j := j + 1) hhi (by omega) (by omega) (by omega)
    have e2 := tb_mdl a b (i := i + 1) (j := j) (by omega) (by omega) hhj (by omega)
    rw [show j + 1 - hd a b = j - hd a b + 1 by omega] at e1
    rw [show i + 1 - hd a b = i - hd a b + 1 by omega] at e2
    rw [e1, e2]
    unfold Dt
    simp only [Bool.not_eq_true', decide_eq_false_iff_not]
    omega
  · rw [if_neg hc, decide_eq_true_iff]
    have hmin : b.length - j ≤ tl a b ∨ a.length - i ≤ tl a b := by omega
    by_cases hlt : b.length - j < a.length - i
    · refine ⟨fun _ => ?_, fun _ => hlt⟩
      have e := last_eq a b (n := b.length - j) (by omega)
      rw [show b.length - (b.length - j) = j by omega] at e
      have k1 : tb a b (i + 1) j = b.length - j := by
        unfold tb
        rw [show a.drop (i + 1) = (a.drop (i + 1)).take (a.length - (b.length - j) - (i + 1)) ++ b.drop j by
          rw [← e, show a.drop (a.length - (b.length - j)) = (a.drop (i + 1)).drop (a.length - (b.length - j) - (i + 1)) by rw [List.drop_drop]; congr 1; omega, List.take_append_drop]]
        have := lcs_tail (b.drop j) ((a.drop (i + 1)).take (a.length - (b.length - j) - (i + 1))) []
        rw [List.nil_append, lcs_nil2, List.length_drop] at this
        omega
      have k2 : tb a b i (j + 1) ≤ b.length - (j + 1) := by unfold tb; have := lcs_le_right (a.drop i) (b.drop (j + 1)); rwa [List.length_drop] at this
      omega
    · refine ⟨fun h => absurd h hlt, fun h => ?_⟩
      exfalso
      have e := last_eq a b (n := a.length - i) (by omega)
      rw [show a.length - (a.length - i) = i by omega] at e
      by_cases heq : a.length - i = b.length - j
      · rw [heq, show b.length - (b.length - j) = j by omega, List.drop_eq_getElem_cons hi, List.drop_eq_getElem_cons hj] at e
        exact hne (List.cons.inj e).1
      · have k1 : tb a b i (j + 1) = a.length - i := by
          unfold tb
          rw [show b.drop (j + 1) = (b.drop (j + 1)).take (b.length - (a.length - i) - (j + 1)) ++ a.drop i by
            rw [e, show b.drop (b.length - (a.length - i)) = (b.drop (j + 1)).drop (b.length - (a.length - i) - (j + 1)) by rw [List.drop_drop]; congr 1; omega, List.take_append_drop]]
          have := lcs_tail (a.drop i) [] ((b.drop (j + 1)).take (b.length - (a.length - i) - (j + 1)))
          rw [List.nil_append, lcs_nil, List.length_drop] at this
          omega
        have k2 := tb_le a b (i + 1) j
        omega
end Go.Proofs.Ytipgofglidmffaa.Lp

namespace Go.Proofs.Ytipgofglidmffaa.Lp
open Go.RowKit Go.Proofs.Ytipgofglidmffaa.Cm Go.Proofs.Ytipgofglidmffaa.Lc Go.Proofs.Ytipgofglidmffaa.Lcx
set_option linter.unusedVariables false

def NewPost (w0 : World) (a b : List Int) (vb : Value) (e : Ending) (w' : World) : Prop :=
  ∃ Wb Mb wd Kt Tt C B vc vct vft t, e = .returned (.pointer (some ⟨Wb, 0, none⟩)) ∧ Ws w0 a b Wb vb Mb wd Kt Tt C B vc 0 vct vft t w' ∧ b.length ≤ wd ∧ wd ≤ 8589934592
theorem NewPost.intro {w0 : World} {a b : List Int} {vb : Value} {Wb Mb wd Kt Tt : Nat} {x : Ending} {w' : World} (h : ReckPost w0 a b Wb vb Mb wd Kt Tt x w') (h1 : b.length ≤ wd) (h2 : wd ≤ 8589934592) (h3 : w0.heap.size ≤ Wb) (h4 : w0.heap.size ≤ Tt) :
    NewPost w0 a b vb (.returned (.pointer (some ⟨Wb, 0, none⟩))) w' := by
  obtain ⟨_, C, vc, B, t, vct, vft, k1, k2, k3, k4, k5, k6, k7, k8, k9, k10, k11⟩ := h
  exact ⟨Wb, Mb, wd, Kt, Tt, C, B, vc, vct, vft, t, rfl, ⟨k1, by rw [List.drop_zero]; exact k2, by rw [List.drop_zero]; exact k3, k4, ⟨k5, k6, h3, h4, k7, k8, k9⟩, k10, k11⟩, h1, h2⟩

theorem ReckPost.ret {w0 : World} {a b : List Int} {vb : Value} {Wb Mb wd Kt Tt : Nat} {x : Ending} {w' : World} (h : ReckPost w0 a b Wb vb Mb wd Kt Tt x w') : ∃ v, x = .returned v := h.1
set_option maxHeartbeats 6400000 in
set_option maxRecDepth 100000 in
theorem newWalk_any (w0 : World) (va vb : Value) (a b : List Int) (w : World) (ha : Rz w0 va a) (hb : Rz w0 vb b) (hbw : Below w0.heap.size w0 w) (hla : a.length ≤ 8000) (hlb : b.length ≤ 8000) :
    Calls Try.prog 69 #[va, vb, .int .i64 1048576] w (NewPost w0 a b vb) := by
  have HPl := Lib.hid (placesOf_any va a w (ha.below hbw) (by omega))
  have HLa := Lib.hid (fun w1 (h : Below w0.heap.size w0 w1) => lastColumn_any va a w1 (ha.below h) (by omega))
  have HRB := Lib.hid hb
  have HBW := Lib.hid hbw
  obtain ⟨aoa, ca, rfl⟩ := ha.len
  obtain ⟨aob, cb, rfl⟩ := hb.len
  obtain ⟨W, hW⟩ : ∃ W, (a.length + 63) / 64 = W := ⟨_, rfl⟩
  have hWle : W ≤ 126 := by omega
  have hWm : b.length * max W 1 ≤ 1048576 := by
    have : b.length * max W 1 ≤ 8000 * 126 := Nat.mul_le_mul hlb (by omega)
    omega
  clear ha hb hbw
  go_enter Try.func69, Try.ntmps69
  go_wp2_with fail
  refine HPl.out.mono ?_
  rintro e w1 ⟨Mb, rfl, hp, hb1⟩
  have HP1 := Lib.hid hp
  have HB1 := Lib.hid (HBW.out.trans (hb1.mono HBW.out.size))
  have hs1 := hb1.size
  clear hp hb1 HPl
  go_wp2_with fail
  refine (newTableU_any w1).mono ?_
  rintro e w2 ⟨rfl, hu, hk2⟩
  have hs2 : w1.heap.size < w2.heap.size := lt_of_at hu
  have HU2 := Lib.hid hu
  have HK2 := Lib.hid hk2
  clear hu hk2
  go_wp2_with fail
  refine (newTableW_any w2).mono ?_
  rintro e w3 ⟨rfl, ht, hk3⟩
  have hs3 : w2.heap.size < w3.heap.size := lt_of_at ht.1
  have HT3 := Lib.hid ht
  have HK3 := Lib.hid hk3
  clear ht hk3
  go_upto_region 2 with fail
  have hn := Lib.hid (alloc_new w3 (.cells #[.slice aob b.length cb, .int .i64 a.length, .map (some Mb), .int .i64 0, .pointer (some ⟨w1.heap.size, 0, none⟩), .pointer (some ⟨w2.heap.size, 0, none⟩), .pointer none, .int .i64 0] 145))
  have hka := Lib.hid (keep_alloc w3 (.cells #[.slice aob b.length cb, .int .i64 a.length, .map (some Mb), .int .i64 0, .pointer (some ⟨w1.heap.size, 0, none⟩), .pointer (some ⟨w2.heap.size, 0, none⟩), .pointer none, .int .i64 0] 145))
  generalize hw4 : w3.alloc (.cells #[.slice aob b.length cb, .int .i64 a.length, .map (some Mb), .int .i64 0, .pointer (some ⟨w1.heap.size, 0, none⟩), .pointer (some ⟨w2.heap.size, 0, none⟩), .pointer none, .int .i64 0] 145) = w4 at *
  have k14 : Keep (fun _ => False) w1 w4 := (HK2.out.trans HK3.out).trans hka.out
  have k24 : Keep (fun _ => False) w2 w4 := HK3.out.trans hka.out
  have hs4 : w4.heap.size = w3.heap.size + 1 := by rw [← hw4, World.size_alloc]
  have hHw : w0.heap.size ≤ w.heap.size := HBW.out.size
  have HN := Lib.hid hn.out
  have HU4 := Lib.hid (k24.at HU2.out (fun h => h))
  have HT4 := Lib.hid (HT3.out.keep hka.out (fun _ _ h => h))
  have HP4 := Lib.hid (HP1.out.keep k14 (fun _ _ _ h => h))
  have HB4 := Lib.hid (HB1.out.trans (k14.below (fun _ h => h.elim) HB1.out.size))
  have HORD0 : w1.heap.size < w2.heap.size ∧ w2.heap.size < w3.heap.size ∧ w.heap.size ≤ w1.heap.size ∧ w3.heap.size + 1 = w4.heap.size := by omega
  clear hn hka k14 k24 HU2 HT3 HP1 HB1 HK2 HK3 hs1 hs2 hs3 hw4 hs4
  generalize w3.heap.size = Wb at *
  generalize w2.heap.size = Tt at *
  generalize w1.heap.size = Kt at *
  generalize w.heap.size = H at *
  have HORD : Hid (Kt < Tt ∧ Tt < Wb ∧ H ≤ Kt ∧ Wb + 1 = w4.heap.size) := Lib.hid HORD0
  clear HORD0
  go_wp2_with fail
  refine (HLa.out _ HB4.out).mono ?_
  rintro e w5 ⟨C0, v0, B0, rfl, hcol, hB, hC, hBC, hB2, hb5⟩
  rw [hW] at hcol
  obtain ⟨av0, cv0, rfl⟩ := hcol.2.1.len
  have c00 : w5.cell? ⟨C0, 0, none⟩ = some (.slice av0 W cv0) := cell_at hcol.1 0
  have hwk5 : w5.heap[Wb]? = _ := (Keep.of_below (S := fun _ => False) hb5).at HN.out (fun h => h)
  have hWC : Wb ≠ C0 := by have := HORD.out; omega
  have hWB : Wb ≠ B0 := by have := HORD.out; omega
  have f3 := frozen_at hwk5 3
  have c3 : w5.cell? ⟨Wb, 3, none⟩ = some (.int .i64 0) := cell_at hwk5 3
  have hl5 := lt_of_at hwk5
  have hlC := lt_of_at hcol.1
  have HWD := Lib.hid (wideOf_any W b.length w5 (by omega) (by omega) hWm)
  have HC5 := Lib.hid hcol
  have HB5 := Lib.hid hb5
  have HW5 := Lib.hid hwk5
  have hCK : C0 ≠ Kt := by have := HORD.out; omega
  clear hcol hB hC hBC hB2 hb5 hwk5
  go_wp2_with fail
  refine HWD.out.mono ?_
  rintro e w6 ⟨wd, rfl, hwd1, hwd0, hwd2, k6, rfl⟩
  have hwk6 := set_at (w := w5.drewN k6) HW5.out 3 (.int .i64 wd)
  have hk6 : Keep (fun g => g = Wb) w5 ((w5.drewN k6).setCell ⟨Wb, 3, none⟩ (.int .i64 wd)) := ((Keep.refl (fun g => g = Wb) w5).drewN k6).setCell (p := ⟨Wb, 3, none⟩) (Or.inl rfl) _
  have hk46 : Keep (fun g => g = Wb) w4 ((w5.drewN k6).setCell ⟨Wb, 3, none⟩ (.int .i64 wd)) := (Keep.of_below HB5.out).trans hk6
  have HC6 := Lib.hid (HC5.out.keep hk6 (fun e => hWC e.symm) (fun e => hWB e.symm))
  have HW6 := Lib.hid hwk6
  have HK46 := Lib.hid hk46
  have hfr : (w5.drewN k6).frozen? ⟨Wb, 3, none⟩ = false := f3
  clear hwk6 hk6 hk46 HC5 HB5 HW5 HWD c00
  go_upto_region 4 with fail
  generalize (w5.drewN k6).setCell ⟨Wb, 3, none⟩ (.int .i64 wd) = w7 at *
  clear f3 c3 hfr
  have c4 : w7.cell? ⟨Wb, 4, none⟩ = some (.pointer (some ⟨Kt, 0, none⟩)) := cell_at HW6.out 4
  have c0 : w7.cell? ⟨C0, 0, none⟩ = some (.slice av0 W cv0) := cell_at HC6.out.1 0
  have hne : ∀ g, g = Kt ∨ g = Tt → g ≠ Wb := fun g hg => by have := HORD.out; omega
  have HU7 := Lib.hid (HK46.out.at HU4.out (hne Kt (Or.inl rfl)))
  have HAD := Lib.hid (addU_any Kt W B0 (.slice av0 W cv0) (fun _ => 0) w7.drew HU7.out HC6.out.2.1 (by omega))
  have d4 := lit_cell c4
  have d0 := lit_cell c0
  have hl7 := lt_of_at HW6.out
  have hlC7 := lt_of_at HC6.out.1
  go_wp2_with fail
  go_still_tail 8, (by kernel_rfl)
  change wpList _ _ _ _ _ w7.drew
  go_wp2_with fail
  refine HAD.out.mono ?_
  rintro e w8 ⟨⟨x8, rfl⟩, vcu, vfu, htu, hg1, hg2, hk8⟩
  have k48 : Keep (fun g => g = Wb ∨ g = Kt) w4 w8 := (HK46.out.mono (fun g _ h => Or.inl h)).trans (((Keep.refl (fun g => g = Kt) w7).drew.trans hk8).mono (fun g _ h => Or.inr h))
  have hWK : Wb ≠ Kt := fun e => hne Kt (Or.inl rfl) e.symm
  have hwk8 : WkAt w8 Wb (.slice aob b.length cb) a.length Mb wd Kt Tt (.pointer none) 0 := ((Keep.refl (fun g => g = Kt) w7).drew.trans hk8).at HW6.out hWK
  have HRK := Lib.hid (reckon_any w0 a b Wb Mb wd Kt Tt H Kt (.slice aob b.length cb) vcu vfu w8 HRB.out (HB4.out.trans (k48.below (fun g hg => by have := HORD.out; rcases hg with h | h <;> omega) HB4.out.size)) hwk8 (by rw [hW]; exact htu)
    (HT4.out.keep k48 (fun g hg hs => by
      have := HORD.out
      rcases hg with h | h | h
      · rcases hs with h' | h' <;> omega
      · simp [Value.ownBlock] at h
      · simp [Value.ownBlock] at h)) (HP4.out.keep k48 (fun g g1 g2 hs => by have := HORD.out; rcases hs with h' | h' <;> omega)) hwd1 hwd2 (by omega) (by omega)
    (by have := HORD.out; have := k48.size; exact ⟨hHw, by omega, by omega, by omega, by omega, by omega, by omega, by omega, by omega, fun g hg => by have := hg1 g hg; have : w4.heap.size ≤ w7.drew.heap.size := HK46.out.size; omega⟩))
  have c38 : w8.cell? ⟨Wb, 3, none⟩ = some (.int .i64 wd) := cell_at hwk8 3
  have hl8 := lt_of_at hwk8
  have HF : Hid (b.length ≤ wd ∧ wd ≤ 8589934592 ∧ w0.heap.size ≤ Wb ∧ w0.heap.size ≤ Tt) := Lib.hid (by have := HORD.out; omega)
  clear htu hg1 hg2 hk8 k48 hwk8 HAD HU7 HC6 HW6 HK46 c4 c0 d4 d0 HU4 HT4 HP4 HB4 HN HLa
  go_wp2_with fail
  have HZ : Hid (decide ((wd : Int) ≤ (b.length : Int) - 1) = false) := Lib.hid (by have := HF.out.1; rw [decide_eq_false_iff_not]; omega)
  go_loopw [10] (fun s wr => s = .int .i64 ((b.length : Int) - 1) ∧ wr = w8) (fun s wr => 1)
  case atStart => exact ⟨rfl, rfl⟩
  case round =>
    obtain ⟨rfl, rfl⟩ := hrel
    have ez := HZ.out
    go_wp2_with fail
    refine HRK.out.mono ?_
    intro e w9 hpo
    obtain ⟨x9, rfl⟩ : ∃ x, e = .returned x := hpo.ret
    have HPO := Lib.hid hpo
    clear hpo
    go_wp2_with fail
    go_ret
    exact NewPost.intro HPO.out HF.out.1 HF.out.2.1 HF.out.2.2.1 HF.out.2.2.2
end Go.Proofs.Ytipgofglidmffaa.Lp

namespace Go.Proofs.Ytipgofglidmffaa.Lp
open Go.RowKit Go.Proofs.Ytipgofglidmffaa.Cm Go.Proofs.Ytipgofglidmffaa.Lc Go.Proofs.Ytipgofglidmffaa.Lcx
set_option linter.unusedVariables false

/-- The loop's own types; the walk's. -/
def mineT (T : TypeId) : Bool := T == 90 || T == 73
def walkT (T : TypeId) : Bool := T == 145 || T == 164 || T == 150 || T == 117
/-- A variable in a box, of neither's type. -/
def Bo (w : World) (b : Nat) (v : Value) : Prop := ∃ T, w.heap[b]? = some (Obj.cells #[v] T (0, 0)) ∧ mineT T = false ∧ walkT T = false
theorem Bo.cell {w : World} {b : Nat} {v : Value} (h : Bo w b v) : w.cell? ⟨b, 0, none⟩ = some v := by obtain ⟨T, h1, h2⟩ := h; exact cell_at h1 0
theorem Bo.keep {w w' : World} {b : Nat} {v : Value} {S : Nat → Prop} (h : Bo w b v) (k : Keep S w w') (hS : ∀ g, S g → ∀ us t fr, w.heap[g]? = some (Obj.cells us t fr) → mineT t = true ∨ walkT t = true) : Bo w' b v := by
  obtain ⟨T, h1, h2, h3⟩ := h
  refine ⟨T, k.at h1 (fun e => ?_), h2, h3⟩
  rcases hS _ e _ _ _ h1 with h | h
  · rw [h2] at h; cases h
  · rw [h3] at h; cases h
/-- What common's iterator holds beside the walk. -/
structure Cx (a b : List Int) (EA EB WB HB AB BB Wb : Nat) (va vb : Value) (w : World) : Prop where
  ea : Bo w EA (.int .i64 ((a.length - tl a b : Nat) : Int))
  eb : Bo w EB (.int .i64 ((b.length - tl a b : Nat) : Int))
  wb : Bo w WB (.pointer (some ⟨Wb, 0, none⟩))
  hb : Bo w HB (.int .i64 (hd a b))
  ab : Bo w AB va
  bb : Bo w BB vb
theorem Cx.keep {a b : List Int} {EA EB WB HB AB BB Wb : Nat} {va vb : Value} {w w' : World} {S : Nat → Prop} (h : Cx a b EA EB WB HB AB BB Wb va vb w) (k : Keep S w w')
    (hS : ∀ g, S g → ∀ us t fr, w.heap[g]? = some (Obj.cells us t fr) → mineT t = true ∨ walkT t = true) : Cx a b EA EB WB HB AB BB Wb va vb w' :=
  ⟨h.ea.keep k hS, h.eb.keep k hS, h.wb.keep k hS, h.hb.keep k hS, h.ab.keep k hS, h.bb.keep k hS⟩

set_option maxHeartbeats 3200000 in
set_option maxRecDepth 100000 in
theorem spares_any (w0 : World) (a b : List Int) (EA EB WB HB AB BB Wb Mb wd Kt Tt C B q t i j cb ca2 cb2 : Nat) (aob aoa2 aob2 : Option Addr) (vc vct vft : Value) (w : World)
    (h : Ws w0 (mdl a (hd a b) (tl a b)) (mdl b (hd a b) (tl a b)) Wb (.slice aob (mdl b (hd a b) (tl a b)).length cb) Mb wd Kt Tt C B vc q vct vft t w)
    (hc : Cx a b EA EB WB HB AB BB Wb (.slice aoa2 a.length ca2) (.slice aob2 b.length cb2) w)
    (hq : q ≤ j - hd a b) (hi : i < a.length) (hj : j < b.length) (hhi : hd a b ≤ i) (hhj : hd a b ≤ j) (hwd : (mdl b (hd a b) (tl a b)).length ≤ wd) (hwd2 : wd ≤ 8589934592) (hla : a.length ≤ 8000) (hlb : b.length ≤ 8000) :
    Calls Try.prog 70 #[.int .i64 i, .int .i64 j, .pointer (some ⟨EA, 0, none⟩), .pointer (some ⟨EB, 0, none⟩), .pointer (some ⟨WB, 0, none⟩), .pointer (some ⟨HB, 0, none⟩), .pointer (some ⟨AB, 0, none⟩), .pointer (some ⟨BB, 0, none⟩)] w
      fun e w' => e = .returned (.bool (sp a b i j)) ∧ (∃ q' vct' vft' t', q' ≤ j - hd a b ∧ Ws w0 (mdl a (hd a b) (tl a b)) (mdl b (hd a b) (tl a b)) Wb (.slice aob (mdl b (hd a b) (tl a b)).length cb) Mb wd Kt Tt C B vc q' vct' vft' t' w') ∧
        Keep (Son Wb Tt C B (((mdl a (hd a b) (tl a b)).length + 63) / 64)) w w' := by
  obtain ⟨h1, h2, h3, h4⟩ := ends_le a b
  have l1 := mdl_len h3
  have l2 := mdl_len h4
  have HSP : Hid (sp a b i j = if i < a.length - tl a b ∧ j < b.length - tl a b then !(Dt (mdl a (hd a b) (tl a b)) (mdl b (hd a b) (tl a b)) (i - hd a b) (j - hd a b)) else decide (b.length - j < a.length - i)) := Lib.hid rfl
  have ce := hc.ea.cell
  have cf := hc.eb.cell
  have cw' := hc.wb.cell
  have ch := hc.hb.cell
  have caa := hc.ab.cell
  have cbb := hc.bb.cell
  have HS := Lib.hid h
  have HCN : Hid (i < a.length - tl a b ∧ j < b.length - tl a b → Calls Try.prog 71 #[.pointer (some ⟨Wb, 0, none⟩), .int .i64 ((i - hd a b : Nat) : Int), .int .i64 ((j - hd a b : Nat) : Int)] w fun e w' => e = .returned (.bool (Dt (mdl a (hd a b) (tl a b)) (mdl b (hd a b) (tl a b)) (i - hd a b) (j - hd a b))) ∧ (∃ vct' vft' t', Ws w0 (mdl a (hd a b) (tl a b)) (mdl b (hd a b) (tl a b)) Wb (.slice aob (mdl b (hd a b) (tl a b)).length cb) Mb wd Kt Tt C B vc (j - hd a b) vct' vft' t' w') ∧ Keep (Son Wb Tt C B (((mdl a (hd a b) (tl a b)).length + 63) / 64)) w w') :=
    Lib.hid (fun hij => counts_any w0 _ _ Wb Mb wd Kt Tt C B (j - hd a b) q t cb (i - hd a b) aob vc vct vft w h hq (by omega) (by omega) hwd hwd2 (by omega) (by omega))
  have HQ := Lib.hid hq
  clear h hc hq l1 l2
  generalize mdl a (hd a b) (tl a b) = ma at *
  generalize mdl b (hd a b) (tl a b) = mb at *
  generalize sp a b i j = spv at *
  have e1 : IntKind.i64.wrap ((i : Int) - (hd a b : Int)) = ((i - hd a b : Nat) : Int) := by rw [IntKind.wrap_i64]; omega
  have e2 : IntKind.i64.wrap ((j : Int) - (hd a b : Int)) = ((j - hd a b : Nat) : Int) := by rw [IntKind.wrap_i64]; omega
  have e3 : IntKind.i64.wrap ((a.length : Int) - (i : Int)) = ((a.length - i : Nat) : Int) := by rw [IntKind.wrap_i64]; omega
  have e4 : IntKind.i64.wrap ((b.length : Int) - (j : Int)) = ((b.length - j : Nat) : Int) := by rw [IntKind.wrap_i64]; omega
  have f3 : (a.length : Int) - (i : Int) = ((a.length - i : Nat) : Int) := by omega
  have f4 : (b.length : Int) - (j : Int) = ((b.length - j : Nat) : Int) := by omega
  have f1 : (i : Int) - (hd a b : Int) = ((i - hd a b : Nat) : Int) := by omega
  have f2 : (j : Int) - (hd a b : Int) = ((j - hd a b : Nat) : Int) := by omega
  generalize i - hd a b = i' at *
  generalize j - hd a b = j' at *
  generalize hd a b = hh at *
  generalize a.length - tl a b = ea at *
  generalize b.length - tl a b = eb at *
  obtain ⟨ra, hra⟩ : ∃ ra, a.length - i = ra := ⟨_, rfl⟩
  obtain ⟨rb, hrb⟩ : ∃ rb, b.length - j = rb := ⟨_, rfl⟩
  rw [hra] at e3 f3 HSP
  rw [hrb] at e4 f4 HSP
  have E3 := Lib.hid f3
  clear hra hrb h1 h2 h3 h4
  by_cases c1 : i < ea
  · by_cases c2 : j < eb
    · have d1 : ((i : Int) < (ea : Int)) := by omega
      have d2 : ((j : Int) < (eb : Int)) := by omega
      rw [if_pos ⟨c1, c2⟩] at HSP
      have HC := Lib.hid (HCN.out ⟨c1, c2⟩)
      clear HCN
      go_enter Try.func70, Try.ntmps70
      go_wp2_with fail
      refine HC.out.mono ?_
      rintro e w5 ⟨rfl, ⟨vct', vft', t', hws⟩, hk5⟩
      have H5 := Lib.hid hws
      have K5 := Lib.hid hk5
      clear hws hk5 HC
      go_wp2_with fail
      go_ret
      exact ⟨by rw [HSP.out]; rfl, ⟨_, _, _, _, Nat.le_refl _, H5.out⟩, K5.out⟩
    · have d1 : ((i : Int) < (ea : Int)) := by omega
      have d2 : ¬ ((j : Int) < (eb : Int)) := by omega
      rw [if_neg (fun h => c2 h.2)] at HSP
      clear HCN
      go_enter Try.func70, Try.ntmps70
      go_wp2_with fail
      go_ret
      refine ⟨?_, ⟨q, HQ.out, vct, vft, t, HS.out⟩, Keep.refl _ _⟩
      rw [HSP.out]; rfl
  · have d1 : ¬ ((i : Int) < (ea : Int)) := by omega
    rw [if_neg (fun h => c1 h.1)] at HSP
    clear HCN
    go_enter Try.func70, Try.ntmps70
    go_wp2_with fail
    go_ret
    refine ⟨?_, ⟨q, HQ.out, vct, vft, t, HS.out⟩, Keep.refl _ _⟩
    rw [HSP.out]; rfl
end Go.Proofs.Ytipgofglidmffaa.Lp

namespace Go.Proofs.Ytipgofglidmffaa.Lp
open Go.RowKit Go.Shelf
set_option linter.unusedVariables false

/-- The loop's cells stay, and what lay there at first. -/
def Mine (K : TypeId → Bool) (n0 : Nat) (A B : World) : Prop :=
  Below n0 A B ∧ ∀ (k : Nat) (us : Array Value) (t : TypeId) (fr : Nat × Nat), A.heap[k]? = some (Obj.cells us t fr) → K t = true → B.heap[k]? = some (Obj.cells us t fr)
/-- What the iterator does between rounds. -/
def ItS (K : TypeId → Bool) (n0 : Nat) (A B : World) : Prop := Mine K n0 A B ∧ ∀ (k : Nat) (o : Obj), A.heap[k]? = some o → o.isCells = false → B.heap[k]? = some o
/-- What a round does, as the iterator sees it. -/
def RdS (K : TypeId → Bool) (n0 : Nat) (A B : World) : Prop :=
  Below n0 A B ∧ ∀ (k : Nat) (us : Array Value) (t : TypeId) (fr : Nat × Nat), A.heap[k]? = some (Obj.cells us t fr) → K t = false → B.heap[k]? = some (Obj.cells us t fr)
/-- What a loop's body does. -/
def BdS (K : TypeId → Bool) (n0 : Nat) (A B : World) : Prop := RdS K n0 A B ∧ ∀ (k : Nat) (o : Obj), A.heap[k]? = some o → o.isCells = false → B.heap[k]? = some o
theorem RdS.trans {K : TypeId → Bool} {n0 : Nat} {A B C : World} (h : RdS K n0 A B) (k : RdS K n0 B C) : RdS K n0 A C :=
  ⟨h.1.trans k.1, fun i us t fr hi ht => k.2 i us t fr (h.2 i us t fr hi ht) ht⟩
theorem BdS.trans {K : TypeId → Bool} {n0 : Nat} {A B C : World} (h : BdS K n0 A B) (k : BdS K n0 B C) : BdS K n0 A C :=
  ⟨h.1.trans k.1, fun i o hi ho => k.2 i o (h.2 i o hi ho) ho⟩
theorem ItS.trans {K : TypeId → Bool} {n0 : Nat} {A B C : World} (h : ItS K n0 A B) (k : ItS K n0 B C) : ItS K n0 A C :=
  ⟨⟨h.1.1.trans k.1.1, fun i us t fr hi ht => k.1.2 i us t fr (h.1.2 i us t fr hi ht) ht⟩, fun i o hi ho => k.2 i o (h.2 i o hi ho) ho⟩
theorem ItS.of_keep {K : TypeId → Bool} {n0 : Nat} {S : Nat → Prop} {A B : World} (h : Keep S A B) (hn : n0 ≤ A.heap.size) (hS : ∀ k, S k → n0 ≤ k) (hK : ∀ k, S k → ∃ (us : Array Value) (t : TypeId) (fr : Nat × Nat), A.heap[k]? = some (Obj.cells us t fr) ∧ K t = false) : ItS K n0 A B := by
  refine ⟨⟨h.below hS hn, fun k us t fr hk ht => h.at hk (fun hs => ?_)⟩, fun k o hk ho => h.at hk (fun hs => ?_)⟩
  · obtain ⟨us', t', fr', e, ht'⟩ := hK k hs
    rw [hk] at e
    cases e
    rw [ht] at ht'
    cases ht'
  · obtain ⟨us', t', fr', e, ht'⟩ := hK k hs
    rw [hk] at e
    cases e
    simp [Obj.isCells] at ho
theorem RdS.keep {K : TypeId → Bool} {n0 : Nat} {A B : World} (h : RdS K n0 A B) : Keep (fun k => ∀ (us : Array Value) (t : TypeId) (fr : Nat × Nat), A.heap[k]? = some (Obj.cells us t fr) → K t = true) A B :=
  ⟨h.1.os, h.1.tape, h.1.output, h.1.size, fun k hk hs => by
    obtain ⟨o, ho⟩ : ∃ o, A.heap[k]? = some o := ⟨_, Array.getElem?_eq_getElem hk⟩
    by_cases hc : ∃ (us : Array Value) (t : TypeId) (fr : Nat × Nat), o = Obj.cells us t fr ∧ K t = false
    · obtain ⟨us, t, fr, rfl, ht⟩ := hc
      rw [h.2 k us t fr ho ht, ho]
    · refine absurd (fun us t fr e => ?_) hs
      rw [ho] at e
      cases e
      cases hK : K t
      · exact absurd ⟨us, t, fr, rfl, hK⟩ hc
      · rfl⟩
theorem BdS.of_keep {K : TypeId → Bool} {n0 : Nat} {S : Nat → Prop} {A B : World} (h : Keep S A B) (hn : n0 ≤ A.heap.size) (hS : ∀ k, S k → n0 ≤ k) (hK : ∀ k, S k → ∃ (us : Array Value) (t : TypeId) (fr : Nat × Nat), A.heap[k]? = some (Obj.cells us t fr) ∧ K t = true) : BdS K n0 A B := by
  refine ⟨⟨h.below hS hn, fun k us t fr hk ht => h.at hk (fun hs => ?_)⟩, fun k o hk ho => h.at hk (fun hs => ?_)⟩
  · obtain ⟨us', t', fr', e, ht'⟩ := hK k hs
    rw [hk] at e
    cases e
    rw [ht] at ht'
    cases ht'
  · obtain ⟨us', t', fr', e, ht'⟩ := hK k hs
    rw [hk] at e
    cases e
    simp [Obj.isCells] at ho

theorem Mine.keep {K : TypeId → Bool} {n0 : Nat} {A B : World} (h : Mine K n0 A B) : Keep (fun k => ∀ (us : Array Value) (t : TypeId) (fr : Nat × Nat), A.heap[k]? = some (Obj.cells us t fr) → K t = false) A B :=
  ⟨h.1.os, h.1.tape, h.1.output, h.1.size, fun k hk hs => by
    obtain ⟨o, ho⟩ : ∃ o, A.heap[k]? = some o := ⟨_, Array.getElem?_eq_getElem hk⟩
    by_cases hc : ∃ (us : Array Value) (t : TypeId) (fr : Nat × Nat), o = Obj.cells us t fr ∧ K t = true
    · obtain ⟨us, t, fr, rfl, ht⟩ := hc
      rw [h.2 k us t fr ho ht, ho]
    · refine absurd (fun us t fr e => ?_) hs
      rw [ho] at e
      cases e
      cases hK : K t
      · rfl
      · exact absurd ⟨us, t, fr, rfl, hK⟩ hc⟩
/-- An iterator that goes through xs. -/
def Goes {α : Type} (K : TypeId → Bool) (P : Program) (gf : Nat) (lb : Array Value) (encs : α → Array Value) (n0 : Nat) (xs : List α) (w0 : World) : Prop :=
  ∀ (l : Nat) (J : List α → World → Prop) (w : World), Below w0.heap.size w0 w → (∀ pre A B, J pre A → ItS K n0 A B → J pre B) →
    (∀ pre x W, J pre W → pre.length < xs.length → YieldAt Fence.wide 3 P l (encs x) W (fun e W' => e = .returned (.bool true) ∧ J (pre ++ [x]) W' ∧ RdS K n0 W W')) → J [] w →
    Calls P gf (#[.func (.yield l) #[] #[]] ++ lb) w (fun e w' => (∃ v, e = .returned v) ∧ J xs w')

/-- What a record of a loop is turned into leaves the loop's cells. -/
theorem turn_mine {K : TypeId → Bool} {n0 l : Nat} {A : World} {o o' : Obj} (hl : A.heap[l]? = some o) (ho : o.isCells = false) (hn : n0 ≤ l) : Mine K n0 A (A.putObj l o') ∧ RdS K n0 A (A.putObj l o') := by
  have hb : Below n0 A (A.putObj l o') := (Below.refl n0 A).grown (grownBy_putObj' A l o') (by have := (Array.getElem?_eq_some_iff.1 hl).1; omega) (fun k e => by cases e; omega)
  have hc : ∀ (k : Nat) (us : Array Value) (t : TypeId) (fr : Nat × Nat), A.heap[k]? = some (Obj.cells us t fr) → (A.putObj l o').heap[k]? = some (Obj.cells us t fr) := fun k us t fr hk => by
    have hne : k ≠ l := by
      intro e
      subst e
      rw [hl] at hk
      cases hk
      simp [Obj.isCells] at ho
    rw [World.putObj_heap_other hne, hk]
  exact ⟨⟨hb, fun k us t fr hk _ => hc k us t fr hk⟩, ⟨hb, fun k us t fr hk _ => hc k us t fr hk⟩⟩

theorem for_goes {α : Type} {K : TypeId → Bool} {P : Program} {g : Operand} {ps : Array Tmp} {assign body : Code} {Q : Exit → Act → World → Prop} {a : Act} {w : World} {m : Nat}
    {gf : Nat} {lb : Array Value} (hg : a.eval g = .func (.func gf) #[] lb) (eg : Enters P gf) {encs : α → Array Value} {n0 : Nat} {xs : List α} (hn0 : n0 ≤ w.heap.size)
    (hseq : Goes K P gf lb encs n0 xs w) (hps : ∀ x, (encs x).size = ps.size)
    (I : List α → World → Prop) (hI : ∀ pre A B, I pre A → Mine K n0 A B → I pre B) (h0 : I [] w)
    (Ax : α → Act → World → Prop) (hAx : ∀ x a' A B, Ax x a' A → Mine K n0 A B → Ax x a' B)
    (hassign : ∀ (l : Nat) (pre : List α) (x : α) (W : World) (R : Act → World → Prop), I pre W → (∀ a' W', BdS K n0 W W' → I pre W' → Ax x a' W' → R a' W') →
      assign.wpIn (Fence.wide.inRound l) 3 P (Exit.then R (fun _ _ _ => False)) { tmps := (ps.zip (encs x)).foldl (fun t (p, v) => t.setIfInBounds p v) a.tmps, defers := [] } W)
    (hbody : ∀ (l : Nat) (pre : List α) (x : α) (a' : Act) (W : World), I pre W → Ax x a' W → pre.length < xs.length → body.wpIn (Fence.wide.inRound l) 3 P (fun e _ W' => e = .normal ∧ I (pre ++ [x]) W' ∧ BdS K n0 W W') a' W)
    (hdone : ∀ (D : Nat) (W : World), w.heap.size ≤ D → I xs W → W.heap[D]? = some (Obj.deferred (some [])) → Q .normal { a with defers := { target := .collected D, args := #[] } :: a.defers } W) :
    (Code.rangeFunc g ps assign body).wpIn Fence.wide m P Q a w := by
  refine wpIn_rangeFunc (fun fn hfn => ?_)
  obtain ⟨rc, hrc⟩ : ∃ rc : LoopState → Option Code → Loop, rc = fun st pe => { state := st, pending := pe, fn, tmps := a.tmps, params := ps, assign, body, defers := w.heap.size } := ⟨_, rfl⟩
  obtain ⟨W1, hW1⟩ : ∃ W1, (w.alloc (.deferred (some []))).alloc (Obj.loop (rc .ready none)) = W1 := ⟨_, rfl⟩
  have hB1 : Below w.heap.size w W1 := by rw [← hW1]; exact ((Below.refl _ w).alloc (Nat.le_refl _) _).alloc (by simp) _
  have hL1 : W1.heap[w.heap.size + 1]? = some (Obj.loop (rc .ready none)) := by
    rw [← hW1]
    have := World.alloc_heap_new (w.alloc (.deferred (some []))) (Obj.loop (rc .ready none))
    rwa [World.size_alloc] at this
  have hD1 : W1.heap[w.heap.size]? = some (Obj.deferred (some [])) := by
    rw [← hW1]
    exact (Below.heap_alloc _ _ _ (by simp)).trans (World.alloc_heap_new w _)
  have hI1 : I [] W1 := hI _ _ _ h0 ⟨hB1.mono hn0, fun k us t fr hk _ => by rw [hB1.block k (lt_of_at hk)]; exact hk⟩
  refine ⟨w.heap.size + 1, [{ target := .collected w.heap.size, args := #[] }], W1, { target := .fn (.func gf) lb, args := #[.func (.yield (w.heap.size + 1)) #[] #[]] }, W1, gf,
    #[.func (.yield (w.heap.size + 1)) #[] #[]] ++ lb, W1, ?_, ?_, fun _ _ => trivial, ?_, fun h => absurd h (by simp [Fence.wide]), ?_⟩
  · rw [← hW1, hrc]; exact run_enterLoop_outer _ _ _ _ _
  · simp only [resolve, hg]
    simp [go_sem]
  · simp [invoke, go_sem, eg _ _]
  refine callsIn_wide.2 ?_
  refine (hseq (w.heap.size + 1) (fun pre W => I pre W ∧ W.heap[w.heap.size + 1]? = some (Obj.loop (rc .ready none)) ∧ W.heap[w.heap.size]? = some (Obj.deferred (some []))) W1 hB1 ?_ ?_ ⟨hI1, hL1, hD1⟩).mono ?_
  · rintro pre A B ⟨h1, h2, h3⟩ hit
    exact ⟨hI _ _ _ h1 hit.1, hit.2 _ _ h2 rfl, hit.2 _ _ h3 rfl⟩
  · rintro pre x W ⟨hi, hl, hk⟩ hlen
    have hy := run_yield (P := P) (args := encs x) hl (by rw [hrc]; exact hps x)
    rw [hrc] at hy
    refine ⟨fn, _, assign, body, hy, roundIn_of_wpIn hfn (hassign _ pre x W _ hi ?_)⟩
    clear hy
    intro a' Wa hbd hia hax
    have hla := hbd.2 _ _ hl rfl
    have hka := hbd.2 _ _ hk rfl
    refine ⟨_, run_beginRound hla (by rw [hrc]), ?_⟩
    have tm := turn_mine (K := K) (n0 := n0) (o' := Obj.loop { rc .ready none with state := .busy }) hla rfl (by omega)
    have hl2 : (Wa.putObj (w.heap.size + 1) (Obj.loop { rc .ready none with state := .busy })).heap[w.heap.size + 1]? = some (Obj.loop { rc .ready none with state := .busy }) := World.putObj_heap_same (lt_of_at hla)
    have hk2 : (Wa.putObj (w.heap.size + 1) (Obj.loop { rc .ready none with state := .busy })).heap[w.heap.size]? = some (Obj.deferred (some [])) := (World.putObj_heap_other (by omega)).trans hka
    refine wpIn_mono (hbody _ pre x a' _ (hI _ _ _ hia tm.1) (hAx _ _ _ _ hax tm.1) hlen) ?_
    rintro e a3 W3 ⟨rfl, hi3, hbd3⟩
    have hl3 := hbd3.2 _ _ hl2 rfl
    have hk3 := hbd3.2 _ _ hk2 rfl
    have tm3 := turn_mine (K := K) (n0 := n0) (o' := Obj.loop (rc .ready none)) hl3 rfl (by omega)
    have hr := run_endRound (P := P) none hl3
    refine ⟨.bool true, W3.putObj (w.heap.size + 1) (Obj.loop (rc .ready none)), ?_, rfl, ⟨hI _ _ _ hi3 tm3.1, World.putObj_heap_same (lt_of_at hl3), (World.putObj_heap_other (by omega)).trans hk3⟩, hbd.1.trans (tm.2.trans (hbd3.1.trans tm3.2))⟩
    rw [hr, hrc]
    rfl
  · rintro e W2 ⟨⟨v, rfl⟩, hi, hl, hk⟩
    have tm2 := turn_mine (K := K) (n0 := n0) (o' := Obj.loop { rc .ready none with state := .exhausted }) hl rfl (by omega)
    refine ⟨none, _, ?_, hdone w.heap.size _ (Nat.le_refl _) (hI _ _ _ hi tm2.1) ((World.putObj_heap_other (by omega)).trans hk)⟩
    have := run_endLoop (P := P) hl (by rw [hrc]; simp)
    rw [this, hrc]
end Go.Proofs.Ytipgofglidmffaa.Lp

namespace Go.Proofs.Ytipgofglidmffaa.Lp
open Go.RowKit Go.Proofs.Ytipgofglidmffaa.Cm Go.Proofs.Ytipgofglidmffaa.Lc Go.Proofs.Ytipgofglidmffaa.Lcx
set_option linter.unusedVariables false
attribute [local go_sem] Oper.semAt_some

/-- A pair as yield is handed it. -/
def encY (p : Nat × Nat) : Array Value := #[.agg #[.int .i64 p.1, .int .i64 p.2]]
theorem Bo.new (w : World) (v : Value) (T : TypeId) (h1 : mineT T = false) (h2 : walkT T = false) : Bo (w.alloc (Obj.cells #[v] T (0, 0))) w.heap.size v := ⟨T, alloc_new w _, h1, h2⟩
theorem ItS.none {K : TypeId → Bool} {n0 : Nat} {A B : World} (h : Keep (fun _ => False) A B) (hn : n0 ≤ A.heap.size) : ItS K n0 A B := ItS.of_keep h hn (fun _ h => h.elim) (fun _ h => h.elim)
theorem Bo.lt {w : World} {b : Nat} {v : Value} (h : Bo w b v) : b < w.heap.size := by obtain ⟨T, h1, _⟩ := h; exact lt_of_at h1
theorem Bo.kept {w w' : World} {b : Nat} {v : Value} (h : Bo w b v) (k : Keep (fun _ => False) w w') : Bo w' b v := h.keep k (fun g hg => hg.elim)
theorem Col.keepW {S : Nat → Prop} {w w' : World} {C : Nat} {v : Value} {W B t : Nat} {X : Nat → Nat} (h : Col w C v W B X t) (k : Keep S w w') (hC : ¬ S C) (hB : 0 < W → ¬ S B) : Col w' C v W B X t := by
  refine ⟨k.at h.1 hC, ?_, h.2.2⟩
  rcases h.2.1 with h | ⟨h0, cap, cur, h1, h2, h3, h4, h5⟩
  · exact .inl h
  · exact .inr ⟨h0, cap, cur, h1, h2, k.at h3 (hB h0), h4, h5⟩
/-- A round leaves the walk as it was. -/
theorem Ws.rds {w0 : World} {a b : List Int} {Wb : Nat} {vb : Value} {Mb wd Kt Tt C B : Nat} {vc : Value} {j : Nat} {vct vft : Value} {t : Nat} {w w' : World}
    (h : Ws w0 a b Wb vb Mb wd Kt Tt C B vc j vct vft t w) (k : RdS mineT w0.heap.size w w') : Ws w0 a b Wb vb Mb wd Kt Tt C B vc j vct vft t w' := by
  have kk := k.keep
  have no : ∀ (g : Nat) (us : Array Value) (T : TypeId) (fr : Nat × Nat), w.heap[g]? = some (Obj.cells us T fr) → mineT T = false → ¬ (∀ (us : Array Value) (t : TypeId) (fr : Nat × Nat), w.heap[g]? = some (Obj.cells us t fr) → mineT t = true) := fun g us T fr hg hT hs => by
    have := hs _ _ _ hg
    rw [hT] at this
    cases this
  refine ⟨kk.at h.wk (no _ _ _ _ h.wk (by decide)), h.col.keepW kk (no _ _ _ _ h.col.1 (by decide)) (fun h0 => ?_), h.tab.keep kk (fun g hg => ?_), h.bel.trans k.1, h.ord, h.vcB, h.vfB⟩
  · rcases h.col.2.1 with ⟨h1, _⟩ | ⟨_, cap, cur, _, _, h3, _⟩
    · omega
    · exact no _ _ _ _ h3 (by decide)
  · rcases hg with rfl | hg | hg
    · exact no _ _ _ _ h.tab.1 (by decide)
    · obtain ⟨cur, hc⟩ := own_obj h.tab.2.1 hg
      exact no _ _ _ _ hc (by decide)
    · obtain ⟨cur, hc⟩ := own_obj h.tab.2.2 hg
      exact no _ _ _ _ hc (by decide)
theorem Cx.rds {a b : List Int} {EA EB WB HB AB BB Wb : Nat} {va vb : Value} {w w' : World} {n0 : Nat} (h : Cx a b EA EB WB HB AB BB Wb va vb w) (k : RdS mineT n0 w w') : Cx a b EA EB WB HB AB BB Wb va vb w' :=
  h.keep k.keep (fun g hs us t fr hg => .inl (hs us t fr hg))
/-- What the walk's blocks are. -/
theorem Ws.son {w0 : World} {a b : List Int} {Wb : Nat} {vb : Value} {Mb wd Kt Tt C B : Nat} {vc : Value} {j : Nat} {vct vft : Value} {t : Nat} {w : World}
    (h : Ws w0 a b Wb vb Mb wd Kt Tt C B vc j vct vft t w) : ∀ g, Son Wb Tt C B ((a.length + 63) / 64) g → w0.heap.size ≤ g ∧ ∃ (us : Array Value) (T : TypeId) (fr : Nat × Nat), w.heap[g]? = some (Obj.cells us T fr) ∧ mineT T = false ∧ walkT T = true := by
  obtain ⟨o1, o2, o3, o4, _⟩ := h.ord
  rintro g (rfl | rfl | rfl | ⟨h0, rfl⟩)
  · exact ⟨o3, _, _, _, h.wk, by decide, by decide⟩
  · exact ⟨o4, _, _, _, h.tab.1, by decide, by decide⟩
  · exact ⟨o1, _, _, _, h.col.1, by decide, by decide⟩
  · rcases h.col.2.1 with ⟨h1, _⟩ | ⟨_, cap, cur, _, _, h3, _⟩
    · omega
    · exact ⟨o2, _, _, _, h3, by decide, by decide⟩
theorem Ws.its {w0 : World} {a b : List Int} {Wb : Nat} {vb : Value} {Mb wd Kt Tt C B : Nat} {vc : Value} {j : Nat} {vct vft : Value} {t : Nat} {w w' : World}
    (h : Ws w0 a b Wb vb Mb wd Kt Tt C B vc j vct vft t w) (k : Keep (Son Wb Tt C B ((a.length + 63) / 64)) w w') : ItS mineT w0.heap.size w w' :=
  ItS.of_keep k h.bel.size (fun g hg => (h.son g hg).1) (fun g hg => by obtain ⟨us, T, fr, e1, e2, e3⟩ := (h.son g hg).2; exact ⟨us, T, fr, e1, e2⟩)
theorem Ws.cx {w0 : World} {a b : List Int} {Wb : Nat} {vb : Value} {Mb wd Kt Tt C B : Nat} {vc : Value} {j : Nat} {vct vft : Value} {t : Nat} {w w' : World} {x y : List Int} {EA EB WB HB AB BB Wb' : Nat} {va' vb' : Value}
    (h : Ws w0 a b Wb vb Mb wd Kt Tt C B vc j vct vft t w) (k : Keep (Son Wb Tt C B ((a.length + 63) / 64)) w w') (c : Cx x y EA EB WB HB AB BB Wb' va' vb' w) : Cx x y EA EB WB HB AB BB Wb' va' vb' w' :=
  c.keep k (fun g hg us T fr hw => by
    obtain ⟨us', T', fr', e1, e2, e3⟩ := (h.son g hg).2
    rw [e1] at hw
    cases hw
    exact .inr e3)
theorem Ws.from' {w0 w1 : World} {a b : List Int} {Wb : Nat} {vb : Value} {Mb wd Kt Tt C B : Nat} {vc : Value} {j : Nat} {vct vft : Value} {t : Nat} {w : World}
    (h : Ws w1 a b Wb vb Mb wd Kt Tt C B vc j vct vft t w) (hb : Below w0.heap.size w0 w1) : Ws w0 a b Wb vb Mb wd Kt Tt C B vc j vct vft t w := by
  obtain ⟨o1, o2, o3, o4, o5⟩ := h.ord
  have := hb.size
  exact ⟨h.wk, h.col, h.tab, hb.trans (h.bel.mono hb.size), ⟨by omega, by omega, by omega, by omega, o5⟩, h.vcB, h.vfB⟩

def othT (T : TypeId) : Bool := !(walkT T) && T != 142 && T != 3
theorem Ws.oth {w0 : World} {a b : List Int} {Wb : Nat} {vb : Value} {Mb wd Kt Tt C B : Nat} {vc : Value} {j : Nat} {vct vft : Value} {t : Nat} {w w' : World} {S : Nat → Prop}
    (h : Ws w0 a b Wb vb Mb wd Kt Tt C B vc j vct vft t w) (kk : Keep S w w') (hb : ∀ g, S g → w0.heap.size ≤ g) (hS : ∀ g, S g → ∃ (us : Array Value) (T : TypeId) (fr : Nat × Nat), w.heap[g]? = some (Obj.cells us T fr) ∧ othT T = true) : Ws w0 a b Wb vb Mb wd Kt Tt C B vc j vct vft t w' := by
  have no : ∀ (g : Nat) (us : Array Value) (T : TypeId) (fr : Nat × Nat), w.heap[g]? = some (Obj.cells us T fr) → othT T = false → ¬ S g := fun g us T fr hg hT hs => by
    obtain ⟨us', T', fr', e, h'⟩ := hS g hs
    rw [hg] at e
    cases e
    rw [hT] at h'
    cases h'
  refine ⟨kk.at h.wk (no _ _ _ _ h.wk (by decide)), h.col.keepW kk (no _ _ _ _ h.col.1 (by decide)) (fun h0 => ?_), h.tab.keep kk (fun g hg => ?_), h.bel.trans (kk.below hb h.bel.size), h.ord, h.vcB, h.vfB⟩
  · rcases h.col.2.1 with ⟨h1, _⟩ | ⟨_, cap, cur, _, _, h3, _⟩
    · omega
    · exact no _ _ _ _ h3 (by decide)
  · rcases hg with rfl | hg | hg
    · exact no _ _ _ _ h.tab.1 (by decide)
    · obtain ⟨cur, hc⟩ := own_obj h.tab.2.1 hg
      exact no _ _ _ _ hc (by decide)
    · obtain ⟨cur, hc⟩ := own_obj h.tab.2.2 hg
      exact no _ _ _ _ hc (by decide)
/-- Where the walk stands. -/
def Ph (a b : List Int) (i j q : Nat) : Prop := q ≤ j - hd a b ∧ ((i = j ∧ i < hd a b) ∨ (hd a b ≤ i ∧ hd a b ≤ j))

set_option maxHeartbeats 6400000 in
set_option maxRecDepth 100000 in
theorem iter_goes (w00 : World) (va vb : Value) (a b : List Int) (AB BB OB : Nat) (w0 : World) (ha : Rz w00 va a) (hb : Rz w00 vb b) (hB : Below w00.heap.size w00 w0) (bA : Bo w0 AB va) (bB : Bo w0 BB vb) (bW : Bo w0 OB (.int .i64 1048576)) (hla : a.length ≤ 8000) (hlb : b.length ≤ 8000) :
    Goes mineT Try.prog 67 #[.pointer (some ⟨AB, 0, none⟩), .pointer (some ⟨BB, 0, none⟩), .pointer (some ⟨OB, 0, none⟩)] encY w00.heap.size (pairs a b) w0 := by
  intro l J w hbw hJ hY h0
  have kw : Keep (fun _ => False) w0 w := Keep.of_below hbw
  have bA := bA.kept kw
  have bB := bB.kept kw
  have bW := bW.kept kw
  have hB := hB.trans (hbw.mono hB.size)
  obtain ⟨h1, h2, h3, h4⟩ := ends_le a b
  have HE := Lib.hid (ends_any va vb a b w (ha.below hB) (hb.below hB) (by omega) (by omega))
  have RA := Lib.hid ha
  have RB := Lib.hid hb
  obtain ⟨aoa, ca, rfl⟩ := ha.len
  obtain ⟨aob, cb, rfl⟩ := hb.len
  have cA := bA.cell
  have cB := bB.cell
  have cW := bW.cell
  have HBW := Lib.hid hB
  have HBW0 : Hid (w00.heap.size ≤ w.heap.size) := Lib.hid hB.size
  have BA := Lib.hid bA
  have BB' := Lib.hid bB
  have BW := Lib.hid bW
  have HJ := Lib.hid hJ
  have HY := Lib.hid hY
  have H0 := Lib.hid h0
  obtain ⟨x, hx⟩ : ∃ x, a.length - tl a b = x := ⟨_, rfl⟩
  obtain ⟨y, hy⟩ : ∃ y, b.length - tl a b = y := ⟨_, rfl⟩
  have ex : IntKind.i64.wrap ((a.length : Int) - (tl a b : Int)) = (x : Int) := by rw [IntKind.wrap_i64]; omega
  have ey : IntKind.i64.wrap ((b.length : Int) - (tl a b : Int)) = (y : Int) := by rw [IntKind.wrap_i64]; omega
  obtain ⟨v1, r1, s1⟩ := slice_run ha (hd a b) x (by omega) (by omega) (by omega)
  obtain ⟨v2, r2, s2⟩ := slice_run hb (hd a b) y (by omega) (by omega) (by omega)
  have l1 : (mdl a (hd a b) (tl a b)).length ≤ 8000 := by rw [mdl_len h3]; omega
  have l2 : (mdl b (hd a b) (tl a b)).length ≤ 8000 := by rw [mdl_len h4]; omega
  have e1 : (a.drop (hd a b)).take (x - hd a b) = mdl a (hd a b) (tl a b) := by rw [← hx]; rfl
  have e2 : (b.drop (hd a b)).take (y - hd a b) = mdl b (hd a b) (tl a b) := by rw [← hy]; rfl
  rw [e1] at s1
  rw [e2] at s2
  have HNW := Lib.hid (fun w' (h : Below w00.heap.size w00 w') => newWalk_any w' v1 v2 (mdl a (hd a b) (tl a b)) (mdl b (hd a b) (tl a b)) w' (s1 w' h) (s2 w' h) (Below.refl _ _) l1 l2)
  have HXY := Lib.hid (And.intro hx hy)
  have H2 := Lib.hid (s2 w00 (Below.refl _ _))
  clear ha hb hB hbw kw bA bB bW hJ hY h0 s1 s2 e1 e2 l1 l2 hx hy h1 h2 h3 h4
  go_enter Try.func67, Try.ntmps67
  go_wp2_with fail
  refine HE.out.mono ?_
  rintro e w1 ⟨rfl, n1, hw1⟩
  have hk1 : Keep (fun _ => False) w w1 := by rw [hw1]; exact (Keep.refl _ w).drewN n1
  replace BA := Lib.hid (BA.out.kept hk1)
  replace BB' := Lib.hid (BB'.out.kept hk1)
  replace BW := Lib.hid (BW.out.kept hk1)
  replace cA := BA.out.cell
  replace cB := BB'.out.cell
  replace cW := BW.out.cell
  replace HBW := Lib.hid (HBW.out.trans (hk1.below (fun _ h => h.elim) HBW.out.size))
  have HK1 := Lib.hid hk1
  clear hk1 hw1
  go_upto_region 1 with fail
  have hk2 := keep_alloc w1 (Obj.cells #[Value.int IntKind.i64 (hd a b : Int)] 3)
  have BHt : Bo (w1.alloc (Obj.cells #[Value.int IntKind.i64 (hd a b : Int)] 3)) w1.heap.size (.int .i64 (hd a b)) := Bo.new _ _ _ (by decide) (by decide)
  have BH := Lib.hid BHt
  generalize w1.heap.size = HB at *
  generalize w1.alloc (Obj.cells #[Value.int IntKind.i64 (hd a b : Int)] 3) = w2 at *
  replace BA := Lib.hid (BA.out.kept hk2)
  replace BB' := Lib.hid (BB'.out.kept hk2)
  replace BW := Lib.hid (BW.out.kept hk2)
  replace cA := BA.out.cell
  replace cB := BB'.out.cell
  replace cW := BW.out.cell
  have cH := BH.out.cell
  replace HBW := Lib.hid (HBW.out.trans (hk2.below (fun _ h => h.elim) HBW.out.size))
  have HK2 := Lib.hid (HK1.out.trans hk2)
  clear hk2 HK1 BHt
  go_cut [7, 8] from 13 to 76 (fun s7 s8 wx => ∃ EA EB : Nat, s7 = .pointer (some ⟨EA, 0, none⟩) ∧ s8 = .pointer (some ⟨EB, 0, none⟩) ∧ Hid (Bo wx EA (.int .i64 x)) ∧ Hid (Bo wx EB (.int .i64 y)) ∧ Hid (Keep (fun _ => False) w2 wx))
  case first =>
    have lA : AB < w2.heap.size := BA.out.lt
    have lB : BB < w2.heap.size := BB'.out.lt
    have K12 : ∀ o1 o2 : Obj, Keep (fun _ => False) w2 ((w2.alloc o1).alloc o2).drew := fun o1 o2 => (((Keep.refl _ w2).alloc o1).alloc o2).drew
    have KD : ∀ (wd : World), Keep (fun _ => False) wd wd.drew := fun wd => (Keep.refl _ wd).drew
    have K1 : ∀ (o1 o2 : Obj), Keep (fun _ => False) (w2.alloc o1) ((w2.alloc o1).alloc o2).drew := fun o1 o2 => ((Keep.refl _ (w2.alloc o1)).alloc o2).drew
    have BN : ∀ (wd : World) (z : Nat), Bo (wd.alloc (Obj.cells #[Value.int IntKind.i64 (z : Int)] 3)) wd.heap.size (.int .i64 z) := fun wd z => Bo.new _ _ _ (by decide) (by decide)
    have KK := Lib.hid K12
    have KK1 := Lib.hid K1
    have KKD := Lib.hid KD
    have BN := Lib.hid BN
    clear K12 KD K1
    go_wp2_with fail
    go_region
    · go_wp2_with fail
      go_meet
      exact ⟨_, _, rfl, rfl, Lib.hid (((BN.out w2 x)).kept (KK1.out _ _)), Lib.hid (by have := (BN.out (w2.alloc (Obj.cells #[Value.int IntKind.i64 (x : Int)] 3)) y).kept (KKD.out _); rwa [World.size_alloc] at this), Lib.hid (KK.out _ _)⟩
    · go_wp2_with fail
      go_meet
      exact ⟨_, _, rfl, rfl, Lib.hid (by have := (BN.out (w2.alloc (Obj.cells #[Value.int IntKind.i64 (y : Int)] 3)) x).kept (KKD.out _); rwa [World.size_alloc] at this), Lib.hid (((BN.out w2 y)).kept (KK1.out _ _)), Lib.hid (KK.out _ _)⟩
  case rest =>
    obtain ⟨EA, EB, rfl, rfl, BEA, BEB, K3⟩ := hcut
    obtain ⟨w3, rfl⟩ : ∃ w3, w3 = wc := ⟨_, rfl⟩
    go_upto_region 2 with fail
    replace BA := Lib.hid (BA.out.kept K3.out)
    replace BB' := Lib.hid (BB'.out.kept K3.out)
    replace BW := Lib.hid (BW.out.kept K3.out)
    replace BH := Lib.hid (BH.out.kept K3.out)
    replace HBW := Lib.hid (HBW.out.trans (K3.out.below (fun _ h => h.elim) HBW.out.size))
    replace HK2 := Lib.hid (HK2.out.trans K3.out)
    clear cA cB cW cH K3
    have cA := BA.out.cell
    have cB := BB'.out.cell
    have cW := BW.out.cell
    have cH := BH.out.cell
    have cEA := BEA.out.cell
    have cEB := BEB.out.cell
    go_cut [9] from 13 to 76 (fun s9 wx => ∃ (WB Wb Mb wd Kt Tt C B : Nat) (vc vct vft : Value) (t : Nat), s9 = .pointer (some ⟨WB, 0, none⟩) ∧ Hid (Bo wx WB (.pointer (some ⟨Wb, 0, none⟩))) ∧ Hid (Ws w00 (mdl a (hd a b) (tl a b)) (mdl b (hd a b) (tl a b)) Wb v2 Mb wd Kt Tt C B vc 0 vct vft t wx) ∧ Hid (Keep (fun _ => False) w3 wx) ∧ Hid ((mdl b (hd a b) (tl a b)).length ≤ wd ∧ wd ≤ 8589934592))
    case first =>
      have lA : AB < w3.heap.size := BA.out.lt
      have lB : BB < w3.heap.size := BB'.out.lt
      have lW : OB < w3.heap.size := BW.out.lt
      have lH : HB < w3.heap.size := BH.out.lt
      have lEA : EA < w3.heap.size := BEA.out.lt
      have lEB : EB < w3.heap.size := BEB.out.lt
      have HNK := Lib.hid (fun w' (h : Keep (fun _ => False) w3 w') => HNW.out w' (HBW.out.trans (h.below (fun _ h => h.elim) HBW.out.size)))
      have S6 : ∀ w', Keep (fun _ => False) w3 w' → w'.cell? ⟨AB, 0, none⟩ = some (.slice aoa a.length ca) ∧ w'.cell? ⟨BB, 0, none⟩ = some (.slice aob b.length cb) ∧ w'.cell? ⟨OB, 0, none⟩ = some (.int .i64 1048576) ∧ w'.cell? ⟨HB, 0, none⟩ = some (.int .i64 (hd a b)) ∧ w'.cell? ⟨EA, 0, none⟩ = some (.int .i64 x) ∧ w'.cell? ⟨EB, 0, none⟩ = some (.int .i64 y) := fun w' h =>
        ⟨(BA.out.kept h).cell, (BB'.out.kept h).cell, (BW.out.kept h).cell, (BH.out.kept h).cell, (BEA.out.kept h).cell, (BEB.out.kept h).cell⟩
      have HS6 := Lib.hid S6
      clear S6
      go_wp2_with fail
      go_region_held3 (fun w' => w'.cell? ⟨AB, 0, none⟩ = some (.slice aoa a.length ca) ∧ w'.cell? ⟨BB, 0, none⟩ = some (.slice aob b.length cb) ∧ w'.cell? ⟨OB, 0, none⟩ = some (.int .i64 1048576) ∧ w'.cell? ⟨HB, 0, none⟩ = some (.int .i64 (hd a b)) ∧ w'.cell? ⟨EA, 0, none⟩ = some (.int .i64 x) ∧ w'.cell? ⟨EB, 0, none⟩ = some (.int .i64 y))
        (first
          | (exact ⟨cA, cB, cW, cH, cEA, cEB⟩)
          | (exact HS6.out _ (Keep.refl _ _))
          | (exact HS6.out _ (Keep.refl _ _).drew)
          | (exact HS6.out _ ((Keep.refl _ _).alloc _))
          | (exact HS6.out _ ((Keep.refl _ _).alloc _).drew)
          | (exact HS6.out _ ((Keep.refl _ _).drew.alloc _))
          | (exact HS6.out _ HK5.out)
          | (exact HS6.out _ HK5.out.drew)
          | (exact HS6.out _ (HK5.out.alloc _))
          | (exact HS6.out _ (HK5.out.alloc _).drew)
          | (exact HS6.out _ (HK5.out.setCell (Or.inr (by first | exact Nat.le_refl _ | exact HK5.out.size)) _))
          | (exact HS6.out _ ((HK5.out.alloc _).setCell (Or.inr (by first | exact Nat.le_refl _ | exact HK5.out.size)) _)))
        (first
        | (go_at_call 69
           refine calls_at (args := #[v1, v2, .int .i64 1048576]) rfl (HNK.out _ (by first | exact (Keep.refl _ _) | exact (Keep.refl _ _).drew | exact ((Keep.refl _ _).alloc _) | exact ((Keep.refl _ _).alloc _).drew | exact ((Keep.refl _ _).drew.alloc _))) ?_
           rintro e w5 ⟨Wb, Mb, wd, Kt, Tt, C, B, vc, vct, vft, t, rfl, hws, hwd1, hwd2⟩
           first
           | (have k0 : Keep (fun _ => False) (w3.alloc (Obj.cells #[.pointer none] 121)).drew w5 := Keep.of_below hws.bel
              have hN : w5.heap[w3.heap.size]? = some (Obj.cells #[.pointer none] 121 (0, 0)) := k0.at (k := w3.heap.size) (alloc_new w3 _) (fun h => h)
              have cN : w5.cell? ⟨w3.heap.size, 0, none⟩ = some (.pointer none) := cell_at hN 0
              have fN : w5.frozen? ⟨w3.heap.size, 0, none⟩ = false := frozen_at hN 0
              have lN := lt_of_at hN
              have HN5 := Lib.hid hN
              have hK5 : Keep (fun _ => False) w3 w5 := ((Keep.refl _ w3).alloc _).drew.trans k0
              have HK5 := Lib.hid hK5
              clear hN hK5 k0)
           | (have k0 : Keep (fun _ => False) w3.drew w5 := Keep.of_below hws.bel
              have hK5 : Keep (fun _ => False) w3 w5 := (Keep.refl _ w3).drew.trans k0
              have HK5 := Lib.hid hK5
              clear hK5 k0)
           have HWS := Lib.hid hws
           have HWD := Lib.hid (And.intro hwd1 hwd2)
           clear hws hwd1 hwd2))
      · go_wp2_with fail
        go_meet
        have W2 := (HWS.out.from' (w0 := w00) (HBW.out.trans ((Keep.refl (fun _ => False) w3).drew.below (fun _ h => h.elim) HBW.out.size)))
        exact ⟨_, _, _, _, _, _, _, _, _, _, _, _, rfl, Lib.hid (Bo.new _ _ _ (by decide) (by decide)), Lib.hid (W2.oth ((Keep.refl (fun _ => False) w5).alloc _) (fun _ h => h.elim) (fun _ h => h.elim)), Lib.hid (HK5.out.alloc _), HWD⟩
      · go_wp2_with fail
        go_meet
        have W2 := (HWS.out.from' (w0 := w00) (HBW.out.trans (((Keep.refl (fun _ => False) w3).alloc _).drew.below (fun _ h => h.elim) HBW.out.size)))
        have KS : Keep (fun g => g = w3.heap.size) w5 (w5.setCell ⟨w3.heap.size, 0, none⟩ (.pointer (some ⟨Wb, 0, none⟩))) := (Keep.refl (fun g => g = w3.heap.size) w5).setCell (p := ⟨w3.heap.size, 0, none⟩) (Or.inl rfl) _
        exact ⟨_, _, _, _, _, _, _, _, _, _, _, _, rfl, Lib.hid ⟨121, set_at (w := w5) HN5.out 0 _, by decide, by decide⟩, Lib.hid (W2.oth KS (fun g hg => by rw [hg]; exact HBW.out.size) (fun g hg => by subst hg; exact ⟨_, _, _, HN5.out, by decide⟩)), Lib.hid (HK5.out.setCell (Or.inr (Nat.le_refl _)) _), HWD⟩
    case rest =>
      obtain ⟨WB, Wb, Mb, wd, Kt, Tt, C, B, vc, vct, vft, t, rfl, BWB, HWS, K4, HWD⟩ := hcut
      obtain ⟨aob2, cb2, rfl⟩ := H2.out.len
      have HCX : Hid (Cx a b EA EB WB HB AB BB Wb (.slice aoa a.length ca) (.slice aob b.length cb) wc) := Lib.hid ⟨by have := BEA.out.kept K4.out; rwa [← HXY.out.1] at this, by have := BEB.out.kept K4.out; rwa [← HXY.out.2] at this, BWB.out, BH.out.kept K4.out, BA.out.kept K4.out, BB'.out.kept K4.out⟩
      have HJ1 := Lib.hid (HJ.out [] w wc H0.out (ItS.of_keep (HK2.out.trans K4.out) HBW0.out (fun _ h => h.elim) (fun _ h => h.elim)))
      have HPP : Hid (Pp a b 0 0 []) := Lib.hid (by unfold Pp; rw [List.drop_zero, List.drop_zero, List.nil_append]; rfl)
      have HPH : Hid (Ph a b 0 0 0) := Lib.hid (by unfold Ph; omega)
      clear BEA BEB BWB BH BA BB' BW K4 HK2 H0 HNW HE H2 HBW ex ey r1 r2 hB bW bA bB
      go_wp2_with fail
      go_loopw [11, 12] (fun s11 s12 wr => ∃ (i j q : Nat) (o : List (Nat × Nat)) (vct vft : Value) (t : Nat), s11 = .int .i64 i ∧ s12 = .int .i64 j ∧ i ≤ a.length ∧ j ≤ b.length ∧ Hid (Ph a b i j q) ∧ Hid (Pp a b i j o) ∧ Hid (J o wr) ∧
        Hid (Ws w00 (mdl a (hd a b) (tl a b)) (mdl b (hd a b) (tl a b)) Wb (.slice aob2 (mdl b (hd a b) (tl a b)).length cb2) Mb wd Kt Tt C B vc q vct vft t wr) ∧ Hid (Cx a b EA EB WB HB AB BB Wb (.slice aoa a.length ca) (.slice aob b.length cb) wr)) (fun s11 s12 _ => (a.length - (intOf s11).toNat) + (b.length - (intOf s12).toNat))
      case atStart => exact ⟨0, 0, 0, [], vct, vft, t, rfl, rfl, by omega, by omega, HPH, HPP, HJ1, HWS, HCX⟩
      case round =>
        clear HPH HPP HJ1 HWS HCX
        obtain ⟨i, j, q, o, vct, vft, t, rfl, rfl, hia, hjb, HPH, HPP, HJ1, HWS, HCX⟩ := hrel
        have cA := HCX.out.ab.cell
        have cB := HCX.out.bb.cell
        by_cases hi : i < a.length
        · by_cases hj : j < b.length
          · have di : ((i : Int) < (a.length : Int)) := by omega
            have dj : ((j : Int) < (b.length : Int)) := by omega
            obtain ⟨b1, o1, hao, hlt1, c1⟩ := (RA.out.below HWS.out.bel).at i hi
            obtain ⟨b2, o2, hbo, hlt2, c2⟩ := (RB.out.below HWS.out.bel).at j hj
            subst hao
            subst hbo
            by_cases he : a[i] = b[j]
            · have HPN : Hid (Pp a b (i + 1) (j + 1) (o ++ [(i, j)])) := Lib.hid (by have := HPP.out; unfold Pp at this ⊢; rw [this, pp_at_yes hi hj he, List.append_assoc]; rfl)
              rw [← he] at c2
              obtain ⟨xa, hxa⟩ : ∃ xa, a[i] = xa := ⟨_, rfl⟩
              rw [hxa] at c1 c2
              clear he hxa
              go_wp2_with fail
              go_quiet (fail)
              have KQ : Keep (fun _ => False) wr (wr.drewN nq) := (Keep.refl _ wr).drewN nq
              replace HJ1 := Lib.hid (HJ.out _ _ _ HJ1.out (ItS.none KQ HWS.out.bel.size))
              replace HWS := Lib.hid (HWS.out.oth KQ (fun _ h => h.elim) (fun _ h => h.elim))
              replace HCX := Lib.hid (HCX.out.keep KQ (fun _ h => h.elim))
              clear KQ c1 c2 cA cB
              generalize wr.drewN nq = wq at *
              obtain ⟨fn, tmps, assign, body, hy, hR⟩ := HY.out o (i, j) wq HJ1.out (by have := HPN.out; unfold Pp at this; rw [this]; simp only [List.length_append, List.length_singleton]; omega)
              simp only [encY] at hy
              go_upto_region 8 with fail
              refine (wpIn_wide (n := 4)).1 ?_
              gi_wp2
              refine hR.mono ?_
              rintro e w5 ⟨rfl, hj5, hk5⟩
              have HJ5 := Lib.hid hj5
              have HWS5 := Lib.hid (HWS.out.rds hk5)
              have HCX5 := Lib.hid (HCX.out.rds hk5)
              have HPH5 : Hid (Ph a b (i + 1) (j + 1) q) := Lib.hid (by have := HPH.out; unfold Ph at this ⊢; omega)
              clear hj5 hk5 hy hR
              gi_wp2
              go_wp2_with fail
              go_roundw
              case rel => exact ⟨i + 1, j + 1, q, _, _, _, _, by go_num, by go_num, by omega, by omega, HPH5, HPN, HJ5, HWS5, HCX5⟩
              case measure => simp [intOf] <;> omega
            · have hph : hd a b ≤ i ∧ hd a b ≤ j ∧ q ≤ j - hd a b := by
                have h := HPH.out
                unfold Ph at h
                rcases h with ⟨h0, ⟨h1, h2⟩ | h1⟩
                · subst h1
                  have := hd_same a b i h2
                  rw [List.getElem?_eq_getElem hi, List.getElem?_eq_getElem hj] at this
                  exact absurd (Option.some.inj this) he
                · exact ⟨h1.1, h1.2, h0⟩
              have HIFF := Lib.hid (sp_iff hi hj hph.1 hph.2.1 he)
              have HE := Lib.hid he
              obtain ⟨xa, hxa⟩ : ∃ xa, a[i] = xa := ⟨_, rfl⟩
              obtain ⟨xb, hxb⟩ : ∃ xb, b[j] = xb := ⟨_, rfl⟩
              rw [hxa] at c1
              rw [hxb] at c2
              have hne : (xa == xb) = false := by rw [beq_eq_false_iff_ne, ← hxa, ← hxb]; exact he
              have hne2 : ¬ xa = xb := by rw [← hxa, ← hxb]; exact he
              have HPL : Hid (sp a b i j = true → Pp a b (i + 1) j o) := Lib.hid (fun h => by have := HPP.out; unfold Pp at this ⊢; rw [this, pp_at_left hi hj he (HIFF.out.1 h)])
              have HPR : Hid (sp a b i j = false → Pp a b i (j + 1) o) := Lib.hid (fun h => by have := HPP.out; unfold Pp at this ⊢; rw [this, pp_at_right hi hj he (fun h' => by rw [HIFF.out.2 h'] at h; cases h)])
              have HPHs := Lib.hid hph
              clear he hxa hxb hph HIFF HE
              go_wp2_with fail
              go_quiet (fail)
              have KQ : Keep (fun _ => False) wr (wr.drewN nq) := (Keep.refl _ wr).drewN nq
              replace HJ1 := Lib.hid (HJ.out _ _ _ HJ1.out (ItS.none KQ HWS.out.bel.size))
              replace HWS := Lib.hid (HWS.out.oth KQ (fun _ h => h.elim) (fun _ h => h.elim))
              replace HCX := Lib.hid (HCX.out.keep KQ (fun _ h => h.elim))
              clear KQ c1 c2 cA cB
              generalize wr.drewN nq = wq at *
              have HSPA := Lib.hid (spares_any w00 a b EA EB WB HB AB BB Wb Mb wd Kt Tt C B q t i j cb2 ca cb aob2 _ _ vc vct vft wq HWS.out HCX.out HPHs.out.2.2 hi hj HPHs.out.1 HPHs.out.2.1 HWD.out.1 HWD.out.2 hla hlb)
              obtain ⟨sv, hsv⟩ : ∃ sv, sp a b i j = sv := ⟨_, rfl⟩
              rw [hsv] at HSPA HPL HPR
              clear hsv
              rcases sv with _ | _
              · go_wp2_with fail
                refine HSPA.out.mono ?_
                rintro e w5 ⟨rfl, ⟨q', vct', vft', t', hq', hws5⟩, hk5⟩
                have HJ5 := Lib.hid (HJ.out _ _ _ HJ1.out (HWS.out.its hk5))
                have HCX5 := Lib.hid (HWS.out.cx hk5 HCX.out)
                have HWS5 := Lib.hid hws5
                have HPH5 : Hid (Ph a b i (j + 1) q') := Lib.hid (by have := HPHs.out; unfold Ph; omega)
                have HPN := Lib.hid (HPR.out (by simp))
                clear hk5 hws5
                go_wp2_with fail
                go_roundw
                case rel => exact ⟨i, j + 1, q', _, _, _, _, by go_num, by go_num, by omega, by omega, HPH5, HPN, HJ5, HWS5, HCX5⟩
                case measure => simp [intOf] <;> omega
              · go_wp2_with fail
                refine HSPA.out.mono ?_
                rintro e w5 ⟨rfl, ⟨q', vct', vft', t', hq', hws5⟩, hk5⟩
                have HJ5 := Lib.hid (HJ.out _ _ _ HJ1.out (HWS.out.its hk5))
                have HCX5 := Lib.hid (HWS.out.cx hk5 HCX.out)
                have HWS5 := Lib.hid hws5
                have HPH5 : Hid (Ph a b (i + 1) j q') := Lib.hid (by have := HPHs.out; unfold Ph; omega)
                have HPN := Lib.hid (HPL.out (by simp))
                clear hk5 hws5
                go_wp2_with fail
                go_roundw
                case rel => exact ⟨i + 1, j, q', _, _, _, _, by go_num, by go_num, by omega, by omega, HPH5, HPN, HJ5, HWS5, HCX5⟩
                case measure => simp [intOf] <;> omega
          · have di : ((i : Int) < (a.length : Int)) := by omega
            have dj : ¬ ((j : Int) < (b.length : Int)) := by omega
            have HEND : Hid (J (pairs a b) wr) := Lib.hid (by
              have := HPP.out
              unfold Pp at this
              rw [pp_end (Or.inr (by omega)), List.append_nil] at this
              rw [this]; exact HJ1.out)
            go_wp2_with fail
            go_end0
            exact ⟨⟨_, rfl⟩, HEND.out⟩
        · have di : ¬ ((i : Int) < (a.length : Int)) := by omega
          have HEND : Hid (J (pairs a b) wr) := Lib.hid (by
            have := HPP.out
            unfold Pp at this
            rw [pp_end (Or.inl (by omega)), List.append_nil] at this
            rw [this]; exact HJ1.out)
          go_wp2_with fail
          go_end0
          exact ⟨⟨_, rfl⟩, HEND.out⟩
end Go.Proofs.Ytipgofglidmffaa.Lp

namespace Go.Proofs.Ytipgofglidmffaa.Lp
open Go.RowKit Go.Proofs.Ytipgofglidmffaa.Cm Go.Proofs.Ytipgofglidmffaa.Lc Go.Proofs.Ytipgofglidmffaa.Lcx
set_option linter.unusedVariables false
set_option maxHeartbeats 1600000 in
theorem common_any (aoa aob : Option Addr) (la ca lb cb : Nat) (w : World) :
    Calls Try.prog 47 #[.slice aoa la ca, .slice aob lb cb, .int .i64 1048576] w fun e w' => ∃ AB BB OB : Nat, e = .returned (.func (.func 67) #[] #[.pointer (some ⟨AB, 0, none⟩), .pointer (some ⟨BB, 0, none⟩), .pointer (some ⟨OB, 0, none⟩)]) ∧
      Bo w' AB (.slice aoa la ca) ∧ Bo w' BB (.slice aob lb cb) ∧ Bo w' OB (.int .i64 1048576) ∧ Keep (fun _ => False) w w' := by
  go_enter Try.func47, Try.ntmps47
  go_wp2_with fail
  go_ret
  refine ⟨_, _, _, rfl, ?_, ?_, ?_, (((Keep.refl _ w).alloc _).alloc _).alloc _⟩
  · exact (Bo.new w (.slice aoa la ca) 56 (by decide) (by decide)).kept (((Keep.refl _ _).alloc _).alloc _)
  · have := (Bo.new (w.alloc (Obj.cells #[.slice aoa la ca] 56)) (.slice aob lb cb) 56 (by decide) (by decide)).kept ((Keep.refl _ _).alloc (Obj.cells #[.int .i64 1048576] 3))
    rwa [World.size_alloc] at this
  · have := Bo.new ((w.alloc (Obj.cells #[.slice aoa la ca] 56)).alloc (Obj.cells #[.slice aob lb cb] 56)) (.int .i64 1048576) 3 (by decide) (by decide)
    rwa [World.size_alloc, World.size_alloc] at this
end Go.Proofs.Ytipgofglidmffaa.Lp

namespace Go.Proofs.Ytipgofglidmffaa.Lp
open Go.RowKit Go.Shelf Go.Proofs.Ytipgofglidmffaa.Cm Go.Proofs.Ytipgofglidmffaa.Lc Go.Proofs.Ytipgofglidmffaa.Lcx
set_option linter.unusedVariables false
attribute [local go_sem] Oper.semAt_some

theorem infoQ : (Try.prog.info? 90).map (fun i => (i.zero, i.size, i.bytes)) = some (some (.agg #[.int .i64 0, .int .i64 0]), 2, 16) := by kernel_rfl
/-- What lies in memory between two rounds. -/
def Ip (w : World) (pre : List (Nat × Nat)) (W : World) : Prop :=
  ∃ v, W.heap[w.heap.size]? = some (Obj.cells #[v] 73 (0, 0)) ∧ W.ownsRow (w.heap.size + 1) 90 2 v pre.length (pre.flatMap encP) ∧ Below w.heap.size w W
theorem own_mine {n0 B k n : Nat} {A A' : World} {v : Value} {xs : List Value} (h : A.ownsRow B 90 k v n xs) (m : Mine mineT n0 A A') : A'.ownsRow B 90 k v n xs :=
  own_keep h m.keep (fun g hg hs => by
    obtain ⟨cur, hc⟩ := own_obj h hg
    have := hs _ _ _ hc
    revert this
    decide)
theorem Ip.mine {w : World} {pre : List (Nat × Nat)} {A B : World} (h : Ip w pre A) (m : Mine mineT w.heap.size A B) : Ip w pre B := by
  obtain ⟨v, h1, h2, h3⟩ := h
  exact ⟨v, m.2 _ _ _ _ h1 (by decide), own_mine h2 m, h3.trans m.1⟩
/-- The loop's variable in its box; the frame. -/
def Ax (w : World) (a0 a1 g : Value) (x : Nat × Nat) (a' : Act) (W : World) : Prop :=
  ∃ PB, w.heap.size < PB ∧ W.heap[PB]? = some (Obj.cells #[.int .i64 x.1, .int .i64 x.2] 90 (0, 0)) ∧
    a' = { tmps := #[a0, a1, undef, undef, .slice none 0 0, .pointer (some ⟨w.heap.size, 0, none⟩), .pointer (some ⟨PB, 0, none⟩), a0, a1, g, .agg #[.int .i64 x.1, .int .i64 x.2], undef, undef, undef, undef, undef], defers := [] }

set_option maxHeartbeats 3200000 in
set_option maxRecDepth 100000 in
theorem pairs_any (va vb : Value) (a b : List Int) (w : World) (ha : Rz w va a) (hb : Rz w vb b) (hla : a.length ≤ 8000) (hlb : b.length ≤ 8000) :
    Calls Try.prog 35 #[va, vb] w fun e w' => ∃ v, e = .returned v ∧ Rk 2 encP w' v (pairs a b) ∧ Below w.heap.size w w' := by
  have RA := Lib.hid ha
  have RB := Lib.hid hb
  obtain ⟨aoa, ca, rfl⟩ := ha.len
  obtain ⟨aob, cb, rfl⟩ := hb.len
  have HC := Lib.hid (fun w' => common_any aoa aob a.length ca b.length cb w')
  clear ha hb
  refine (callsIn_wide (n := 5)).1 ?_
  refine callsIn_of_wp_marks Try.func35 (by first | rfl | kernel_rfl) trivial ?_ rfl
  simp only [Try.ntmps35, List.size_toArray, List.length_cons, List.length_nil, Nat.reduceAdd, Nat.reduceSub, Array.replicate_succ, Array.replicate_zero, List.push_toArray, List.append_toArray, List.nil_append, List.cons_append]
  gi_wp2_with (refine ⟨trivial, ?_⟩; gi_at_call 47; refine (callsIn_wide.2 (HC.out _)).mono ?_; rintro e w1 ⟨AB, BB, OB, rfl, bA, bB, bO, k1⟩)
  have hO : w1.heap[w.heap.size]? = some (Obj.cells #[.slice none 0 0] 73 (0, 0)) := k1.at (alloc_new w _) (fun h => h)
  have hBw : Below w.heap.size w w1 := (((Keep.refl (fun _ => False) w).alloc _).trans k1).below (fun _ h => h.elim) (Nat.le_refl _)
  have HIT := iter_goes w _ _ a b AB BB OB w1 RA.out RB.out hBw bA bB bO hla hlb
  have hlp : (pairs a b).length ≤ 8000 := by have := pairs_len a b; have := lcs_le_left a b; omega
  obtain ⟨i0, hi, hz0, hz1, hz2⟩ := info_parts infoQ
  refine for_goes (α := Nat × Nat) (K := mineT) (gf := 67) (lb := #[.pointer (some ⟨AB, 0, none⟩), .pointer (some ⟨BB, 0, none⟩), .pointer (some ⟨OB, 0, none⟩)]) rfl (enters_of Try.func67 (by kernel_rfl) rfl) hBw.size
    HIT (fun _ => rfl) (Ip w) (fun pre A B h m => h.mine m) ⟨_, hO, World.ownsRow_nil _ _ _ _, hBw⟩
    (Ax w (.slice aoa a.length ca) (.slice aob b.length cb) (.func (.func 67) #[] #[.pointer (some ⟨AB, 0, none⟩), .pointer (some ⟨BB, 0, none⟩), .pointer (some ⟨OB, 0, none⟩)]))
    (fun x a' A B h m => by obtain ⟨PB, h1, h2, h3⟩ := h; exact ⟨PB, h1, m.2 _ _ _ _ h2 (by decide), h3⟩) ?assign ?body ?done
  case assign =>
    clear hO hBw HIT bA bB bO k1
    rintro l pre x W R hI hR
    have HI := Lib.hid hI
    have HR := Lib.hid hR
    clear hI hR
    simp only [encY]
    gi_wp2
    have KA : ∀ o, Keep (fun _ => False) W (W.alloc o) := fun o => (Keep.refl _ W).alloc o
    have hsz : w.heap.size < W.heap.size := by obtain ⟨v, h1, _⟩ := HI.out; exact lt_of_at h1
    exact HR.out _ _ (BdS.of_keep (KA _) (Nat.le_of_lt hsz) (fun _ h => h.elim) (fun _ h => h.elim)) (HI.out.mine (ItS.none (KA _) (Nat.le_of_lt hsz)).1) ⟨W.heap.size, hsz, alloc_new W _, rfl⟩
  case body =>
    clear hO hBw HIT bA bB bO k1
    rintro l pre x a' W ⟨v, h1, h2, h3⟩ ⟨PB, hPB, hp, rfl⟩ hlen
    have cO : W.cell? ⟨w.heap.size, 0, none⟩ = some v := cell_at h1 0
    have cP0 : W.cell? ⟨PB, 0, none⟩ = some (.int .i64 x.1) := cell_at hp 0
    have cP1 : W.cell? ⟨PB, 1, none⟩ = some (.int .i64 x.2) := cell_at hp 1
    have lO := lt_of_at h1
    have H1 := Lib.hid h1
    have H2 := Lib.hid h2
    have H3 := Lib.hid h3
    clear h1 h2 h3 hp
    gi_wp2_with (gi_at_builtin; refine wpListIn_append_own _ rfl _ _ 73 rfl (w.heap.size + 1) 90 i0 (.agg #[.int .i64 0, .int .i64 0]) 2 16 Try.underlying73 hi hz0 hz1 hz2 rfl (by decide) _ _ _ rfl (H2.out.alloc _) ⟨W.heap.size, 0, none⟩ 1 1 (encP x) rfl rfl newsK (encP_one _) (by unfold maxLen; omega) (by omega) (by simp; omega) ?_; intro v' w2 hown' hgrow _; obtain ⟨g', cap', rfl⟩ := ownsRow_succ hown'; have KW2 : Keep (fun g => v.ownBlock = some g) W w2 := ((Keep.refl _ W).alloc _).grown hgrow (fun k e => Or.inl e); have HO2 : w2.heap[w.heap.size]? = some (Obj.cells #[v] 73 (0, 0)) := KW2.at H1.out (fun e => by have := (H2.out.lt _ e).1; omega); have cO2 : w2.cell? ⟨w.heap.size, 0, none⟩ = some v := cell_at HO2 0; have fO2 : w2.frozen? ⟨w.heap.size, 0, none⟩ = false := frozen_at HO2 0; have lO2 := lt_of_at HO2; have R1 := Lib.hid hown'; have K2 := Lib.hid KW2; have O2 := Lib.hid HO2; clear hown' hgrow KW2 HO2)
    have KS : Keep (fun g => g = w.heap.size) w2 (w2.setCell ⟨w.heap.size, 0, none⟩ (.slice (some ⟨g', 0, none⟩) (pre.length + 1) cap')) := (Keep.refl (fun g => g = w.heap.size) w2).setCell (p := ⟨w.heap.size, 0, none⟩) (Or.inl rfl) _
    have KT : Keep (fun g => g = w.heap.size ∨ v.ownBlock = some g) W (w2.setCell ⟨w.heap.size, 0, none⟩ (.slice (some ⟨g', 0, none⟩) (pre.length + 1) cap')) := (K2.out.mono (fun _ _ h => Or.inr h)).trans (KS.mono (fun _ _ h => Or.inl h))
    have hge : ∀ g, (g = w.heap.size ∨ v.ownBlock = some g) → w.heap.size ≤ g := fun g hg => by
      rcases hg with rfl | hg
      · exact Nat.le_refl _
      · have := (H2.out.lt _ hg).1; omega
    have hown2 := own_keep R1.out KS (fun g hg e => by have := (R1.out.lt g hg).1; omega)
    refine ⟨⟨_, set_at O2.out 0 _, ?_, H3.out.trans (KT.below hge (Nat.le_of_lt lO))⟩, BdS.of_keep KT (Nat.le_of_lt lO) hge (fun g hg => ?_)⟩
    · rw [List.length_append, List.flatMap_append]
      simpa using hown2
    · rcases hg with rfl | hg
      · exact ⟨_, _, _, H1.out, by decide⟩
      · obtain ⟨cur, hc⟩ := own_obj H2.out hg
        exact ⟨_, _, _, hc, by decide⟩
  case done =>
    have k1' := hBw
    clear hO hBw HIT bA bB bO k1
    rintro D W hD ⟨v, h1, h2, h3⟩ hK
    have cO : W.cell? ⟨w.heap.size, 0, none⟩ = some v := cell_at h1 0
    gi_wp2
    refine ⟨by simp, .inl ⟨_, _, rfl, run_takeDeferred hK, ?_⟩⟩
    have tm := turn_mine (K := mineT) (n0 := w.heap.size) (o' := Obj.deferred none) hK rfl (by have := lt_of_at h1; have := k1'.size; simp at *; omega)
    exact ⟨_, results_tmp rfl _ _ _, v, rfl, Rk.of_own encP_len (own_mine h2 tm.1), h3.trans tm.1.1⟩
end Go.Proofs.Ytipgofglidmffaa.Lp
