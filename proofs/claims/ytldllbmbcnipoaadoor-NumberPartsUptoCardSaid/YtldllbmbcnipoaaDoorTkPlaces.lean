/-
  CONTRACT of token.places: of each text its place in a list that rises, in memory of the call's own.
-/
import Derived.Test.YtldllbmbcnipoaaDoorPkNL
namespace Go.Proofs.YtldllbmbcnipoaaDoor.Tk
open Go.RowKit
set_option linter.unusedVariables false

theorem infoI : (Tryd.prog.info? 3).map (fun i => (i.zero, i.size, i.bytes)) = some (some (.int .i64 0), 1, 8) := by kernel_rfl
/-- The row: its first k cells hold these. -/
def Fill (w0 : World) (B L : Nat) (t : TypeId) (f : Nat → Value) (k : Nat) (wr : World) : Prop :=
  ∃ xs : List Value, wr.ownsRow B t 1 (.slice (some ⟨B, 0, none⟩) L L) L xs ∧ (∀ j, j < k → xs[j]? = some (f j)) ∧ Below B w0 wr
theorem Fill.start {w0 wr : World} {L : Nat} {t : TypeId} {f : Nat → Value} {xs : List Value} (h : wr.ownsRow w0.heap.size t 1 (.slice (some ⟨w0.heap.size, 0, none⟩) L L) L xs) (hg : w0.grownBy wr none) : Fill w0 w0.heap.size L t f 0 wr :=
  ⟨xs, h, fun j hj => absurd hj (Nat.not_lt_zero j), (Below.refl _ _).grown hg (Nat.le_refl _) (fun k h => by cases h)⟩
theorem Fill.step {w0 wr : World} {B L k : Nat} {t : TypeId} {f : Nat → Value} (h : Fill w0 B L t f k wr) (hk : k < L) : Fill w0 B L t f (k + 1) (wr.setCell ⟨B, k, none⟩ (f k)) := by
  obtain ⟨xs, h1, h2, h3⟩ := h
  obtain ⟨g1, g2⟩ := h1.stored k (f k)
  refine ⟨_, g1, fun j hj => ?_, h3.setCell (Nat.le_refl _) _⟩
  have hl : xs.length = L * 1 := h1.1
  by_cases e : j = k
  · subst e
    rw [List.getElem?_set_self (by omega)]
  · rw [List.getElem?_set_ne (by omega)]
    exact h2 j (by omega)
theorem Fill.cell {w0 wr : World} {B L k : Nat} {t : TypeId} {f : Nat → Value} {j : Nat} (h : Fill w0 B L t f k wr) (hj : j < L) : (∃ v, wr.cell? ⟨B, j, none⟩ = some v) ∧ wr.frozen? ⟨B, j, none⟩ = false := by
  obtain ⟨xs, h1, h2, h3⟩ := h
  have hl : xs.length = L * 1 := h1.1
  exact ⟨⟨_, (h1.cellAt j (by omega)).trans (List.getElem?_eq_getElem (by omega))⟩, h1.frozenAt j⟩
theorem Fill.at {w0 wr : World} {B L k : Nat} {t : TypeId} {f : Nat → Value} {j : Nat} (h : Fill w0 B L t f k wr) (hk : k ≤ L) (hj : j < k) : wr.cell? ⟨B, j, none⟩ = some (f j) := by
  obtain ⟨xs, h1, h2, h3⟩ := h
  rw [h1.cellAt j (by omega)]
  exact h2 j hj
theorem Fill.lt {w0 wr : World} {B L k : Nat} {t : TypeId} {f : Nat → Value} (h : Fill w0 B L t f k wr) : B < wr.heap.size := by
  obtain ⟨xs, h1, h2, h3⟩ := h
  exact (h1.lt B rfl).2

/-- A slice that reads as these numbers, in a block from lo on. -/
def RdI (lo : Nat) (w : World) (v : Value) (ks : List Int) : Prop :=
  ∃ ao cap, v = .slice ao ks.length cap ∧ ks.length ≤ cap ∧ (ks = [] ∨ ∃ b, ao = some ⟨b, 0, none⟩ ∧ lo ≤ b ∧ b < w.heap.size ∧ ∀ j x, ks[j]? = some x → w.cell? ⟨b, j, none⟩ = some (.int .i64 x))
theorem RdI.below {lo : Nat} {w w' : World} {v : Value} {ks : List Int} (h : RdI lo w v ks) (hb : Below w.heap.size w w') : RdI lo w' v ks := by
  obtain ⟨ao, cap, hv, hc, hx⟩ := h
  refine ⟨ao, cap, hv, hc, ?_⟩
  rcases hx with hx | ⟨b, hao, hlo, hlt, hcell⟩
  · exact Or.inl hx
  · exact Or.inr ⟨b, hao, hlo, Nat.lt_of_lt_of_le hlt hb.size, fun j x hj => (hb.cell (by exact hlt)).trans (hcell j x hj)⟩
theorem RdI.mono {lo lo' : Nat} {w : World} {v : Value} {ks : List Int} (h : RdI lo w v ks) (hl : lo' ≤ lo) : RdI lo' w v ks := by
  obtain ⟨ao, cap, hv, hc, hx⟩ := h
  refine ⟨ao, cap, hv, hc, ?_⟩
  rcases hx with hx | ⟨b, hao, hlo, hlt, hcell⟩
  · exact Or.inl hx
  · exact Or.inr ⟨b, hao, Nat.le_trans hl hlo, hlt, hcell⟩
theorem RdI.len {lo : Nat} {w : World} {v : Value} {ks : List Int} (h : RdI lo w v ks) : ∃ ao cap, v = .slice ao ks.length cap := by
  obtain ⟨ao, cap, hv, _⟩ := h; exact ⟨ao, cap, hv⟩
theorem RdI.set {lo B k : Nat} {w : World} {v u : Value} {ks : List Int} (h : RdI lo w v ks) (hB : B < lo) : RdI lo (w.setCell ⟨B, k, none⟩ u) v ks := by
  obtain ⟨ao, cap, hv, hc, hx⟩ := h
  refine ⟨ao, cap, hv, hc, ?_⟩
  rcases hx with hx | ⟨b, hao, hlo, hlt, hcell⟩
  · exact Or.inl hx
  · refine Or.inr ⟨b, hao, hlo, by simpa using hlt, fun j x hj => ?_⟩
    rw [← hcell j x hj]
    apply World.cell?_setCell_other
    intro e
    have : B = b := congrArg Addr.block e
    omega

set_option maxHeartbeats 800000 in
theorem places_any (vs vt : Value) (xs ts : List Tx) (w : World) (hs : Rd w vs xs) (ht : Rd w vt ts) (hr : Rises xs) (hx : xs.length ≤ 1000000) (hy : ts.length ≤ 1000000) :
    Calls Tryd.prog 28 #[vs, vt] w fun e w' => ∃ v, e = .returned v ∧ RdI w.heap.size w' v (ts.map fun x => (at_ xs x : Int)) ∧ Below w.heap.size w w' := by
  obtain ⟨i0, hi, hz0, hz1, hz2⟩ := info_parts infoI
  have HS := Lib.hid hs
  have HR := Lib.hid hr
  obtain ⟨at1, ct, rfl, hct, htx⟩ := ht
  have HT := Lib.hid htx
  have hm : ts.length ≤ maxLen := by unfold maxLen; omega
  clear hs hr htx
  go_enter Tryd.func28, Tryd.ntmps28
  go_wp2_with (at_make; refine wpList_make_full _ rfl _ _ 27 rfl w.heap.size 3 i0 (.int .i64 0) 1 Tryd.underlying27 hi hz0 hz1 _ _ _ _ ts.length rfl rfl rfl rfl (by rw [hz2]; omega) hm (Nat.le_refl _) ?_)
  intro W2 hown hgrow
  have HF : Hid (Fill w w.heap.size ts.length 3 (fun j => .int .i64 (at_ xs (ts.getD j []))) 0 W2) := Lib.hid (Fill.start hown hgrow)
  clear hown hgrow hi hz0 hz1 hz2
  go_wp2_with fail
  go_loopw [13] (fun i wr => ∃ k : Nat, k ≤ ts.length ∧ i = .int .i64 k ∧ Hid (Fill w w.heap.size ts.length 3 (fun j => .int .i64 (at_ xs (ts.getD j []))) k wr)) (fun i _ => ts.length - (intOf i).toNat)
  case atStart => exact ⟨0, Nat.zero_le _, rfl, HF⟩
  case round =>
    clear HF
    obtain ⟨k, hk, rfl, HF⟩ := hrel
    have HB : Hid (Below w.heap.size w wr) := Lib.hid (by obtain ⟨_, _, _, h⟩ := HF.out; exact h)
    by_cases hlt : k < ts.length
    · rcases HT.out with h0 | ⟨b, o, rfl, hbl, hcell⟩
      · rw [h0] at hlt; exact absurd hlt (Nat.not_lt_zero _)
      have k1 : wr.cell? ⟨b, o + k, none⟩ = some (.string (S ts[k])) := (HB.out.cell (by exact hbl)).trans (hcell k _ (get_lt hlt))
      have hc := search_any vs xs ts[k] wr (HS.out.below HB.out) HR.out hx
      have hg : ts.getD k [] = ts[k] := by rw [List.getD_eq_getElem?_getD, get_lt hlt]; rfl
      have hst := HF.out.step hlt
      simp only [hg] at hst
      obtain ⟨⟨v1, hc1⟩, hf1⟩ := HF.out.cell hlt
      have Hc := Lib.hid hc
      have Hst := Lib.hid hst
      have hbd : at_ xs ts[k] ≤ xs.length := at_le _ _
      clear hcell hc hst hg HT
      generalize at_ xs ts[k] = q at *
      generalize S ts[k] = y at *
      go_wp2_with fail
      refine Hc.out.mono ?_
      rintro e w' ⟨f, rfl, rfl⟩
      go_wp2_with fail
      go_roundw
      case rel => exact ⟨k + 1, by omega, by go_num, Hst⟩
      case measure => simp [intOf]; omega
    · obtain rfl : k = ts.length := by omega
      have HI : Hid (RdI w.heap.size wr (.slice (some ⟨w.heap.size, 0, none⟩) ts.length ts.length) (ts.map fun x => (at_ xs x : Int))) := Lib.hid (by
        refine ⟨_, _, by rw [List.length_map], by rw [List.length_map]; exact Nat.le_refl _, Or.inr ⟨_, rfl, Nat.le_refl _, HF.out.lt, fun j x hj => ?_⟩⟩
        rw [List.getElem?_map] at hj
        have hjl : j < ts.length := by
          rcases Nat.lt_or_ge j ts.length with h | h
          · exact h
          · rw [List.getElem?_eq_none h] at hj; simp at hj
        rw [HF.out.at (Nat.le_refl _) hjl]
        rw [get_lt hjl] at hj
        simp only [Option.map_some, Option.some.injEq] at hj
        rw [List.getD_eq_getElem?_getD, get_lt hjl, ← hj]
        rfl)
      clear hlt HF HT
      go_wp2_with fail
      go_ret
      exact ⟨_, rfl, HI.out, HB.out⟩

end Go.Proofs.YtldllbmbcnipoaaDoor.Tk
