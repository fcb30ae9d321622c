/-
  CONTRACT of spares (in common, package lcs).
-/
import Derived.Test.YtbfclmhcoelplaaLpDecide
import Derived.Test.YtbfclmhcoelplaaLpNew
namespace Go.Proofs.Ytbfclmhcoelplaa.Lp
open Go.RowKit Go.Proofs.Ytbfclmhcoelplaa.Cm Go.Proofs.Ytbfclmhcoelplaa.Lc Go.Proofs.Ytbfclmhcoelplaa.Lcx
set_option linter.unusedVariables false

/-- The loop's own types; the walk's. -/
def mineT (T : TypeId) : Bool := T == 68 || T == 48
def walkT (T : TypeId) : Bool := T == 92 || T == 106 || T == 97 || T == 85
/-- A variable in a box, of neither's type. -/
def Bo (w : World) (b : Nat) (v : Value) : Prop := ∃ T, w.heap[b]? = some (Obj.cells #[v] T (0, 0)) ∧ mineT T = false ∧ walkT T = false
theorem Bo.cell {w : World} {b : Nat} {v : Value} (h : Bo w b v) : w.cell? ⟨b, 0, none⟩ = some v := by obtain ⟨T, h1, h2⟩ := h; exact cell_at h1 0
theorem Bo.keep {w w' : World} {b : Nat} {v : Value} {S : Nat → Prop} (h : Bo w b v) (k : Keep S w w') (hS : ∀ g, S g → ∀ us t fr, w.heap[g]? = some (Obj.cells us t fr) → mineT t = true ∨ walkT t = true) : Bo w' b v := by
  obtain ⟨T, h1, h2, h3⟩ := h
  refine ⟨T, k.at h1 (fun e => ?_), h2, h3⟩
  rcases hS _ e _ _ _ h1 with h | h
  · rw [h2] at h; cases h
  · rw [h3] at h; cases h
/-- What common's iterator holds beside the walk. -/
structure Cx (a b : List Int) (EA EB WB HB AB BB Wb : Nat) (va vb : Value) (w : World) : Prop where
  ea : Bo w EA (.int .i64 ((a.length - tl a b : Nat) : Int))
  eb : Bo w EB (.int .i64 ((b.length - tl a b : Nat) : Int))
  wb : Bo w WB (.pointer (some ⟨Wb, 0, none⟩))
  hb : Bo w HB (.int .i64 (hd a b))
  ab : Bo w AB va
  bb : Bo w BB vb
theorem Cx.keep {a b : List Int} {EA EB WB HB AB BB Wb : Nat} {va vb : Value} {w w' : World} {S : Nat → Prop} (h : Cx a b EA EB WB HB AB BB Wb va vb w) (k : Keep S w w')
    (hS : ∀ g, S g → ∀ us t fr, w.heap[g]? = some (Obj.cells us t fr) → mineT t = true ∨ walkT t = true) : Cx a b EA EB WB HB AB BB Wb va vb w' :=
  ⟨h.ea.keep k hS, h.eb.keep k hS, h.wb.keep k hS, h.hb.keep k hS, h.ab.keep k hS, h.bb.keep k hS⟩

set_option maxHeartbeats 3200000 in
set_option maxRecDepth 100000 in
theorem spares_any (w0 : World) (a b : List Int) (EA EB WB HB AB BB Wb Mb wd Kt Tt C B q t i j cb ca2 cb2 : Nat) (aob aoa2 aob2 : Option Addr) (vc vct vft : Value) (w : World)
    (h : Ws w0 (mdl a (hd a b) (tl a b)) (mdl b (hd a b) (tl a b)) Wb (.slice aob (mdl b (hd a b) (tl a b)).length cb) Mb wd Kt Tt C B vc q vct vft t w)
    (hc : Cx a b EA EB WB HB AB BB Wb (.slice aoa2 a.length ca2) (.slice aob2 b.length cb2) w)
    (hq : q ≤ j - hd a b) (hi : i < a.length) (hj : j < b.length) (hhi : hd a b ≤ i) (hhj : hd a b ≤ j) (hwd : (mdl b (hd a b) (tl a b)).length ≤ wd) (hwd2 : wd ≤ 8589934592) (hla : a.length ≤ 8000) (hlb : b.length ≤ 8000) :
    Calls Try.prog 44 #[.int .i64 i, .int .i64 j, .pointer (some ⟨EA, 0, none⟩), .pointer (some ⟨EB, 0, none⟩), .pointer (some ⟨WB, 0, none⟩), .pointer (some ⟨HB, 0, none⟩), .pointer (some ⟨AB, 0, none⟩), .pointer (some ⟨BB, 0, none⟩)] w
      fun e w' => e = .returned (.bool (sp a b i j)) ∧ (∃ q' vct' vft' t', q' ≤ j - hd a b ∧ Ws w0 (mdl a (hd a b) (tl a b)) (mdl b (hd a b) (tl a b)) Wb (.slice aob (mdl b (hd a b) (tl a b)).length cb) Mb wd Kt Tt C B vc q' vct' vft' t' w') ∧
        Keep (Son Wb Tt C B (((mdl a (hd a b) (tl a b)).length + 63) / 64)) w w' := by
  obtain ⟨h1, h2, h3, h4⟩ := ends_le a b
  have l1 := mdl_len h3
  have l2 := mdl_len h4
  have HSP : Hid (sp a b i j = if i < a.length - tl a b ∧ j < b.length - tl a b then !(Dt (mdl a (hd a b) (tl a b)) (mdl b (hd a b) (tl a b)) (i - hd a b) (j - hd a b)) else decide (b.length - j < a.length - i)) := Lib.hid rfl
  have ce := hc.ea.cell
  have cf := hc.eb.cell
  have cw' := hc.wb.cell
  have ch := hc.hb.cell
  have caa := hc.ab.cell
  have cbb := hc.bb.cell
  have HS := Lib.hid h
  have HCN : Hid (i < a.length - tl a b ∧ j < b.length - tl a b → Calls Try.prog 45 #[.pointer (some ⟨Wb, 0, none⟩), .int .i64 ((i - hd a b : Nat) : Int), .int .i64 ((j - hd a b : Nat) : Int)] w fun e w' => e = .returned (.bool (Dt (mdl a (hd a b) (tl a b)) (mdl b (hd a b) (tl a b)) (i - hd a b) (j - hd a b))) ∧ (∃ vct' vft' t', Ws w0 (mdl a (hd a b) (tl a b)) (mdl b (hd a b) (tl a b)) Wb (.slice aob (mdl b (hd a b) (tl a b)).length cb) Mb wd Kt Tt C B vc (j - hd a b) vct' vft' t' w') ∧ Keep (Son Wb Tt C B (((mdl a (hd a b) (tl a b)).length + 63) / 64)) w w') :=
    Lib.hid (fun hij => counts_any w0 _ _ Wb Mb wd Kt Tt C B (j - hd a b) q t cb (i - hd a b) aob vc vct vft w h hq (by omega) (by omega) hwd hwd2 (by omega) (by omega))
  have HQ := Lib.hid hq
  clear h hc hq l1 l2
  generalize mdl a (hd a b) (tl a b) = ma at *
  generalize mdl b (hd a b) (tl a b) = mb at *
  generalize sp a b i j = spv at *
  have e1 : IntKind.i64.wrap ((i : Int) - (hd a b : Int)) = ((i - hd a b : Nat) : Int) := by rw [IntKind.wrap_i64]; omega
  have e2 : IntKind.i64.wrap ((j : Int) - (hd a b : Int)) = ((j - hd a b : Nat) : Int) := by rw [IntKind.wrap_i64]; omega
  have e3 : IntKind.i64.wrap ((a.length : Int) - (i : Int)) = ((a.length - i : Nat) : Int) := by rw [IntKind.wrap_i64]; omega
  have e4 : IntKind.i64.wrap ((b.length : Int) - (j : Int)) = ((b.length - j : Nat) : Int) := by rw [IntKind.wrap_i64]; omega
  have f3 : (a.length : Int) - (i : Int) = ((a.length - i : Nat) : Int) := by omega
  have f4 : (b.length : Int) - (j : Int) = ((b.length - j : Nat) : Int) := by omega
  have f1 : (i : Int) - (hd a b : Int) = ((i - hd a b : Nat) : Int) := by omega
  have f2 : (j : Int) - (hd a b : Int) = ((j - hd a b : Nat) : Int) := by omega
  generalize i - hd a b = i' at *
  generalize j - hd a b = j' at *
  generalize hd a b = hh at *
  generalize a.length - tl a b = ea at *
  generalize b.length - tl a b = eb at *
  obtain ⟨ra, hra⟩ : ∃ ra, a.length - i = ra := ⟨_, rfl⟩
  obtain ⟨rb, hrb⟩ : ∃ rb, b.length - j = rb := ⟨_, rfl⟩
  rw [hra] at e3 f3 HSP
  rw [hrb] at e4 f4 HSP
  have E3 := Lib.hid f3
  clear hra hrb h1 h2 h3 h4
  by_cases c1 : i < ea
  · by_cases c2 : j < eb
    · have d1 : ((i : Int) < (ea : Int)) := by omega
      have d2 : ((j : Int) < (eb : Int)) := by omega
      rw [if_pos ⟨c1, c2⟩] at HSP
      have HC := Lib.hid (HCN.out ⟨c1, c2⟩)
      clear HCN
      go_enter Try.func44, Try.ntmps44
      go_wp2_with fail
      refine HC.out.mono ?_
      rintro e w5 ⟨rfl, ⟨vct', vft', t', hws⟩, hk5⟩
      have H5 := Lib.hid hws
      have K5 := Lib.hid hk5
      clear hws hk5 HC
      go_wp2_with fail
      go_ret
      exact ⟨by rw [HSP.out]; rfl, ⟨_, _, _, _, Nat.le_refl _, H5.out⟩, K5.out⟩
    · have d1 : ((i : Int) < (ea : Int)) := by omega
      have d2 : ¬ ((j : Int) < (eb : Int)) := by omega
      rw [if_neg (fun h => c2 h.2)] at HSP
      clear HCN
      go_enter Try.func44, Try.ntmps44
      go_wp2_with fail
      go_ret
      refine ⟨?_, ⟨q, HQ.out, vct, vft, t, HS.out⟩, Keep.refl _ _⟩
      rw [HSP.out]; rfl
  · have d1 : ¬ ((i : Int) < (ea : Int)) := by omega
    rw [if_neg (fun h => c1 h.1)] at HSP
    clear HCN
    go_enter Try.func44, Try.ntmps44
    go_wp2_with fail
    go_ret
    refine ⟨?_, ⟨q, HQ.out, vct, vft, t, HS.out⟩, Keep.refl _ _⟩
    rw [HSP.out]; rfl
end Go.Proofs.Ytbfclmhcoelplaa.Lp
