/-
  Several texts in one:
  CONTRACT of token.Ids: of each list the numbers of its texts among all.
  CONTRACTS of the document's at, put, Ids, Same (emendationref03): the document's numbers.
  CONTRACTS of the document's put and Ids (emendationref03).
  CONTRACT of the document's Ids (emendationref03): the numbers of a list's texts, beside another list.
-/
import Derived.Test.YtldllbmbcnipoaaDoorTkConcat
namespace Go.Proofs.YtldllbmbcnipoaaDoor.Tk
open Go.RowKit
set_option linter.unusedVariables false

theorem infoL : (Tryd.prog.info? 27).map (fun i => (i.zero, i.size, i.bytes)) = some (some (.slice none 0 0), 1, 24) := by kernel_rfl
theorem Fill.below {w0 wr w' : World} {B L k : Nat} {t : TypeId} {f : Nat → Value} (h : Fill w0 B L t f k wr) (hb : Below wr.heap.size wr w') : Fill w0 B L t f k w' := by
  obtain ⟨xs, h1, h2, h3⟩ := h
  have hBl : B < wr.heap.size := (h1.lt B rfl).2
  refine ⟨xs, ⟨h1.1, ?_⟩, h2, h3.trans (hb.mono (by omega))⟩
  rcases h1.2 with hn | ⟨g, cap, cur, hv, hg, hgg, rest⟩
  · exact .inl hn
  · exact .inr ⟨g, cap, cur, hv, hg, by rw [hb.block g (Array.getElem?_eq_some_iff.1 hgg).1]; exact hgg, rest⟩
theorem Fill.put {w0 wr : World} {B L k : Nat} {t : TypeId} {f : Nat → Value} (h : Fill w0 B L t f k wr) (hk : k < L) (u : Value) : Fill w0 B L t (fun j => if j = k then u else f j) (k + 1) (wr.setCell ⟨B, k, none⟩ u) := by
  have h' : Fill w0 B L t (fun j => if j = k then u else f j) k wr := by
    obtain ⟨xs, h1, h2, h3⟩ := h
    exact ⟨xs, h1, fun j hj => by rw [h2 j hj]; exact congrArg some (if_neg (by omega)).symm, h3⟩
  have := h'.step hk
  simp only [if_true] at this
  exact this
/-- A slice of slices that reads as these lists of numbers. -/
def RdLI (w : World) (v : Value) (ids : List (List Int)) : Prop :=
  ∃ b cap, v = .slice (some ⟨b, 0, none⟩) ids.length cap ∧ b < w.heap.size ∧ ∀ j x, ids[j]? = some x → ∃ u, w.cell? ⟨b, j, none⟩ = some u ∧ RdI 0 w u x
theorem RdLI.below {w w' : World} {v : Value} {ids : List (List Int)} (h : RdLI w v ids) (hb : Below w.heap.size w w') : RdLI w' v ids := by
  obtain ⟨b, cap, hv, hlt, hcell⟩ := h
  refine ⟨b, cap, hv, Nat.lt_of_lt_of_le hlt hb.size, fun j x hj => ?_⟩
  obtain ⟨u, h1, h2⟩ := hcell j x hj
  exact ⟨u, (hb.cell (by exact hlt)).trans h1, h2.below hb⟩
/-- The numbers of a list's texts among all. -/
def rk (all : List Tx) (l : List Tx) : List Int := l.map fun x => (rank all x : Int)
theorem rk_at (all l : List Tx) : (l.map fun x => (at_ (uniq all) x : Int)) = rk all l := List.map_congr_left (fun x _ => by rw [uniq_at])
theorem getl {ls : List (List Tx)} {k : Nat} (h : k < ls.length) : ls[k]? = some ls[k] := List.getElem?_eq_getElem h
/-- The rows so far. -/
def Rows (w0 : World) (B : Nat) (ls : List (List Tx)) (k : Nat) (wr : World) : Prop :=
  ∃ f, Fill w0 B ls.length 27 f k wr ∧ ∀ j x, j < k → ls[j]? = some x → RdI (B + 1) wr (f j) (rk ls.flatten x)
theorem Rows.step {w0 wr w' : World} {B k : Nat} {ls : List (List Tx)} {u : Value} (h : Rows w0 B ls k wr) (hk : k < ls.length) (hb : Below wr.heap.size wr w') (hu : RdI wr.heap.size w' u (rk ls.flatten ls[k])) :
    Rows w0 B ls (k + 1) (w'.setCell ⟨B, k, none⟩ u) := by
  obtain ⟨f, h1, h2⟩ := h
  have hBl := h1.lt
  refine ⟨_, (h1.below hb).put hk u, fun j x hj hx => ?_⟩
  by_cases e : j = k
  · subst e
    rw [if_pos rfl]
    rw [getl hk, Option.some.injEq] at hx
    subst hx
    exact (hu.mono (by omega)).set (by omega)
  · rw [if_neg e]
    exact ((h2 j x (by omega) hx).below hb).set (by omega)

set_option maxHeartbeats 1600000 in
theorem ids_any (v : Value) (ls : List (List Tx)) (w : World) (h : RdL w v ls) (hl : ls.length ≤ 1000000) (hn : ls.flatten.length ≤ 1000000) :
    Calls Tryd.prog 16 #[v] w fun e w' => ∃ v', e = .returned v' ∧ RdLI w' v' (ls.map (rk ls.flatten)) ∧ Below w.heap.size w w' := by
  obtain ⟨i0, hi, hz0, hz1, hz2⟩ := info_parts infoL
  have H := Lib.hid h
  obtain ⟨ao, ca, rfl⟩ : ∃ ao ca, v = .slice ao ls.length ca := by obtain ⟨ao, ca, hv, _⟩ := h; exact ⟨ao, ca, hv⟩
  have HC := Lib.hid (concat_any _ ls w h hl hn)
  have hm : ls.length ≤ maxLen := by unfold maxLen; omega
  have HU := Lib.hid (uniq_ok ls.flatten)
  have hul : (uniq ls.flatten).length ≤ 1000000 := Nat.le_trans (uniq_len _) hn
  have Hel : Hid (∀ k (hk : k < ls.length), ls[k].length ≤ 1000000) := Lib.hid (fun k hk => by
    have h1 := take_flatL_len ls (k + 1)
    have h2 := congrArg List.length (take_flatL hk)
    rw [List.length_append] at h2
    omega)
  clear h
  go_enter Tryd.func16, Tryd.ntmps16
  go_wp2_with fail
  refine HC.out.mono ?_
  rintro e w1 ⟨v1, rfl, hown, hb⟩
  have HS := Lib.hid (sort_own v1 ls.flatten w.heap.size w1 hown hn)
  have B1 := Lib.hid hb
  clear hown hb HC
  go_wp2_with fail
  refine HS.out.mono ?_
  rintro e w2 ⟨rfl, hown, hb⟩
  have HK := Lib.hid (compact_own v1 _ w.heap.size w2 hown (by rw [List.length_mergeSort]; exact hn))
  have B2 := Lib.hid (B1.out.trans hb)
  clear hown hb HS
  go_wp2_with fail
  refine HK.out.mono ?_
  rintro e w3 ⟨vu, rfl, hrd, hb⟩
  have RU : Hid (Rd w3 vu (uniq ls.flatten)) := Lib.hid hrd
  have B3 := Lib.hid (B2.out.trans hb)
  have H3 := Lib.hid (H.out.below B3.out)
  clear hrd hb HK H
  go_wp2_with (at_make; refine wpList_make_full _ rfl _ _ 25 rfl w3.heap.size 27 i0 (.slice none 0 0) 1 Tryd.underlying25 hi hz0 hz1 _ _ _ _ ls.length rfl rfl rfl rfl (by rw [hz2]; omega) hm (Nat.le_refl _) ?_)
  intro W4 hown hgrow
  have HF : Hid (Rows w3 w3.heap.size ls 0 W4) := Lib.hid ⟨fun _ => .slice none 0 0, Fill.start hown hgrow, fun j x hj => absurd hj (Nat.not_lt_zero _)⟩
  clear hown hgrow hi hz0 hz1 hz2
  go_wp2_with fail
  go_loopw [18] (fun i wr => ∃ k : Nat, k ≤ ls.length ∧ i = .int .i64 k ∧ Hid (Rows w3 w3.heap.size ls k wr)) (fun i _ => ls.length - (intOf i).toNat)
  case atStart => exact ⟨0, Nat.zero_le _, rfl, HF⟩
  case round =>
    clear HF
    obtain ⟨k, hk, rfl, HF⟩ := hrel
    have HB : Hid (Below w3.heap.size w3 wr) := Lib.hid (by obtain ⟨_, ⟨_, _, _, h⟩, _⟩ := HF.out; exact h)
    by_cases hlt : k < ls.length
    · obtain ⟨ao2, ca2, hv, hx⟩ := H3.out
      simp only [Value.slice.injEq, true_and] at hv
      obtain ⟨rfl, rfl⟩ := hv
      rcases hx with hx | ⟨b, o, rfl, hbl, hcell⟩
      · rw [hx] at hlt; exact absurd hlt (Nat.not_lt_zero _)
      obtain ⟨u, h1, h2⟩ := hcell k _ (getl hlt)
      have k1 : wr.cell? ⟨b, o + k, none⟩ = some u := (HB.out.cell (by exact hbl)).trans h1
      have hp := places_any vu u (uniq ls.flatten) ls[k] wr (RU.out.below HB.out) (h2.below HB.out) HU.out.1 hul (Hel.out k hlt)
      rw [rk_at] at hp
      have HP := Lib.hid hp
      obtain ⟨ut, uc, rfl⟩ := h2.len
      clear hcell hp h1 h2
      generalize ls[k].length = m at *
      go_wp2_with fail
      refine HP.out.mono ?_
      rintro e w5 ⟨v5, rfl, hri, hb5⟩
      have HR2 := Lib.hid (HF.out.step hlt hb5 hri)
      obtain ⟨⟨c5, hc5⟩, hf5⟩ : (∃ v, w5.cell? ⟨w3.heap.size, k, none⟩ = some v) ∧ w5.frozen? ⟨w3.heap.size, k, none⟩ = false := by
        obtain ⟨f, hf, _⟩ := HF.out
        exact (hf.below hb5).cell hlt
      have ho5 : v5.oneCell' = true := by obtain ⟨_, _, rfl⟩ := hri.len; rfl
      obtain ⟨a5, d5, rfl⟩ := hri.len
      clear hri hb5 HP HF
      go_wp2_with fail
      go_roundw
      case rel => exact ⟨k + 1, by omega, by go_num, HR2⟩
      case measure => simp [intOf]; omega
    · obtain rfl : k = ls.length := by omega
      have HI : Hid (RdLI wr (.slice (some ⟨w3.heap.size, 0, none⟩) ls.length ls.length) (ls.map (rk ls.flatten))) := Lib.hid (by
        obtain ⟨f, h1, h2⟩ := HF.out
        refine ⟨_, _, by rw [List.length_map], h1.lt, fun j x hj => ?_⟩
        rw [List.getElem?_map] at hj
        have hjl : j < ls.length := by
          rcases Nat.lt_or_ge j ls.length with h | h
          · exact h
          · rw [List.getElem?_eq_none h] at hj; simp at hj
        rw [getl hjl] at hj
        simp only [Option.map_some, Option.some.injEq] at hj
        subst hj
        exact ⟨f j, h1.at (Nat.le_refl _) hjl, (h2 j _ hjl (getl hjl)).mono (Nat.zero_le _)⟩)
      have B5 := Lib.hid (B3.out.trans (HB.out.mono B3.out.size))
      clear hlt HF
      go_wp2_with fail
      go_ret
      exact ⟨_, rfl, HI.out, B5.out⟩

end Go.Proofs.YtldllbmbcnipoaaDoor.Tk

namespace Go.Proofs.YtldllbmbcnipoaaDoor.Tk
open Go.RowKit
set_option linter.unusedVariables false

theorem geti {xs : List Int} {k : Nat} (h : k < xs.length) : xs[k]? = some xs[k] := List.getElem?_eq_getElem h
theorem take_nextI {xs ys : List Int} {k : Nat} (h1 : k < xs.length) (h2 : k < ys.length) (h : xs.take k = ys.take k) (e : xs[k] = ys[k]) : xs.take (k + 1) = ys.take (k + 1) := by
  rw [List.take_add_one, List.take_add_one, geti h1, geti h2, h, e]

set_option maxHeartbeats 800000 in
theorem rsame_any (lo1 lo2 : Nat) (a b : Value) (xs ys : List Int) (w : World) (ha : RdI lo1 w a xs) (hb : RdI lo2 w b ys) (hx : xs.length ≤ 1000000) (hy : ys.length ≤ 1000000) :
    Calls Tryd.prog 13 #[a, b] w fun e w' => e = .returned (.bool (decide (xs = ys))) ∧ ∃ n, w' = w.drewN n := by
  obtain ⟨ao, ca, rfl, _, hax⟩ := ha
  obtain ⟨bo, cb, rfl, _, hbx⟩ := hb
  by_cases hl : xs.length = ys.length
  · have e0 : ((xs.length : Int) != (ys.length : Int)) = false := by simp [hl]
    by_cases h0 : xs = []
    · have Hf : Hid (decide (xs = ys) = true) := Lib.hid (by subst h0; simpa using (List.eq_nil_of_length_eq_zero hl.symm))
      have hz : xs.length = 0 := by rw [h0]; rfl
      have hz2 : ys.length = 0 := by omega
      rw [hz, hz2]
      clear hax hbx h0 e0 hl
      go_enter Tryd.func13, Tryd.ntmps13
      go_wp2_with fail
      go_loop [13] (fun i => i = .int .i64 0) (fun i => 0)
      case atStart => rfl
      case round =>
        subst hrel
        go_wp2_with fail
        go_ret
        exact ⟨by rw [Hf.out]; rfl, 0, rfl⟩
    · rcases hax with hax | ⟨b1, rfl, _, hb1, hc1⟩
      · exact absurd hax h0
      rcases hbx with hbx | ⟨b2, rfl, _, hb2, hc2⟩
      · exact absurd (List.eq_nil_of_length_eq_zero (by rw [hl, hbx]; rfl)) h0
      have H1 := Lib.hid hc1
      have H2 := Lib.hid hc2
      clear hc1 hc2 h0
      go_enter Tryd.func13, Tryd.ntmps13
      go_wp2_with fail
      go_loopw [13] (fun i wr => ∃ k n : Nat, k ≤ xs.length ∧ i = .int .i64 k ∧ wr = w.drewN n ∧ Hid (xs.take k = ys.take k)) (fun i _ => xs.length - (intOf i).toNat)
      case atStart => exact ⟨0, 0, Nat.zero_le _, rfl, rfl, Lib.hid rfl⟩
      case round =>
        obtain ⟨k, n, hk, rfl, hwr, HT⟩ := hrel
        by_cases hlt : k < xs.length
        · have hlt2 : k < ys.length := by omega
          have k1 : wr.cell? ⟨b1, k, none⟩ = some (.int .i64 xs[k]) := by rw [hwr]; exact H1.out k _ (geti hlt)
          have k2 : wr.cell? ⟨b2, k, none⟩ = some (.int .i64 ys[k]) := by rw [hwr]; exact H2.out k _ (geti hlt2)
          have hi1 : (k : Int) < (xs.length : Int) := by omega
          have hi2 : (k : Int) < (ys.length : Int) := by omega
          have HW := Lib.hid hwr
          by_cases he : xs[k] = ys[k]
          · have HT2 := Lib.hid (take_nextI hlt hlt2 HT.out he)
            have e1 : (xs[k] != ys[k]) = false := by simp [he]
            clear HT he hwr
            generalize xs[k] = x at *
            generalize ys[k] = y at *
            go_wp2_with fail
            go_quiet (fail)
            go_wp2_with fail
            go_roundw
            case rel => exact ⟨k + 1, n + nq, by omega, by go_num, by rw [HW.out, World.drewN_drewN], HT2⟩
            case measure => simp [intOf]; omega
          · have Hf : Hid (decide (xs = ys) = false) := Lib.hid (decide_eq_false (fun h => he (by subst h; rfl)))
            have e1 : (xs[k] != ys[k]) = true := by simpa using he
            clear HT he hwr
            generalize xs[k] = x at *
            generalize ys[k] = y at *
            go_wp2_with fail
            go_quiet (fail)
            go_wp2_with fail
            go_ret
            exact ⟨by rw [Hf.out]; rfl, n + nq, by rw [HW.out, World.drewN_drewN]⟩
        · have Hf : Hid (decide (xs = ys) = true) := Lib.hid (decide_eq_true (by have := HT.out; rwa [List.take_of_length_le (by omega), List.take_of_length_le (by omega)] at this))
          have HW := Lib.hid hwr
          clear HT hwr
          go_wp2_with fail
          go_ret
          exact ⟨by rw [Hf.out]; rfl, n, HW.out⟩
  · have e0 : ((xs.length : Int) != (ys.length : Int)) = true := by simp; omega
    have Hf : Hid (decide (xs = ys) = false) := Lib.hid (decide_eq_false (fun h => hl (by rw [h])))
    clear hax hbx hl
    go_enter Tryd.func13, Tryd.ntmps13
    go_wp2_with fail
    go_ret
    exact ⟨by rw [Hf.out]; rfl, 0, rfl⟩

end Go.Proofs.YtldllbmbcnipoaaDoor.Tk

namespace Go.Proofs.YtldllbmbcnipoaaDoor.Tk
open Go.RowKit
set_option linter.unusedVariables false

theorem put_hit {l : List Tx} {s : Tx} (hk : at_ l s < l.length) (h : l[at_ l s] = s) : put l s = l := by
  unfold put; rw [get_lt hk, if_pos (by rw [h])]
theorem put_miss {l : List Tx} {s : Tx} (h : ∀ hk : at_ l s < l.length, l[at_ l s] ≠ s) : put l s = l.take (at_ l s) ++ [s] ++ l.drop (at_ l s) := by
  unfold put
  rw [if_neg, List.append_assoc]
  · rfl
  · intro e
    obtain ⟨hk, e2⟩ := List.getElem?_eq_some_iff.1 e
    exact h hk e2
theorem own_enc {w : World} {B : Nat} {v : Value} {n : Nat} {us : List Value} {xs : List Tx} (h : w.ownsRow B 9 1 v n us) (hn : n = xs.length) (hu : us = xs.map encStr) : w.ownsRow B 9 1 v xs.length (xs.map encStr) := by
  subst hn; subst hu; exact h

end Go.Proofs.YtldllbmbcnipoaaDoor.Tk

namespace Go.Proofs.YtldllbmbcnipoaaDoor.Tk
open Go.RowKit
set_option linter.unusedVariables false

theorem newsI1 {wr : World} {x : Int} {t : TypeId} : ∀ (j : Nat) (u : Value), [Value.int .i64 x][j]? = some u → (wr.alloc (.cells #[.int .i64 x] t)).cell? (Addr.add ⟨wr.heap.size, 0, none⟩ j) = some u := by
  intro j u hj
  match j, hj with
  | 0, hj => simp at hj; subst hj; simp [Addr.add]
theorem newsI2 {x : Int} : ∀ u ∈ [Value.int .i64 x], u.oneCell' = true := by
  intro u hu; simp at hu; subst hu; rfl
theorem own_pushI {B : Nat} {w wr w1 : World} {v v' : Value} {o : List Int} {y : Int} {ob : Obj} (hown : wr.ownsRow B 3 1 v o.length (o.map (Value.int .i64))) (hb : Below B w wr) (hB : B ≤ wr.heap.size)
    (hown' : w1.ownsRow B 3 1 v' (o.length + 1) (o.map (Value.int .i64) ++ [.int .i64 y])) (hgrow : (wr.alloc ob).grownBy w1 v.ownBlock) :
    w1.ownsRow B 3 1 v' (o ++ [y]).length ((o ++ [y]).map (Value.int .i64)) ∧ Below B w w1 := by
  refine ⟨?_, (hb.alloc hB ob).grown hgrow (by simp; omega) (fun j hj => (hown.lt j hj).1)⟩
  rw [List.length_append, List.map_append]
  exact hown'
theorem RdI.of_own {w : World} {B : Nat} {v : Value} {xs : List Int} (h : w.ownsRow B 3 1 v xs.length (xs.map (Value.int .i64))) : RdI 0 w v xs := by
  rcases h.2 with ⟨hv, hn⟩ | ⟨g, cap, cur, hv, hB, hg, hn, hm, hsz, ht⟩
  · exact ⟨none, 0, by rw [hv, hn], by omega, Or.inl (List.eq_nil_of_length_eq_zero hn)⟩
  · refine ⟨_, cap, hv, hn, Or.inr ⟨g, rfl, Nat.zero_le _, (Array.getElem?_eq_some_iff.1 hg).1, fun j x hj => ?_⟩⟩
    have hjl := (List.getElem?_eq_some_iff.1 hj).1
    subst hv
    rw [h.cellAt j (by omega), List.getElem?_map, hj]
    rfl
theorem take_snoc {a : List Tx} {k : Nat} (h : k < a.length) : a.take (k + 1) = a.take k ++ [a[k]] := by rw [List.take_add_one, get_lt h]; rfl
theorem puts_take (l a : List Tx) {k : Nat} (h : k < a.length) : puts l (a.take (k + 1)) = put (puts l (a.take k)) a[k] := by rw [take_snoc h, puts_snoc]
theorem puts_len : ∀ (xs l : List Tx), (puts l xs).length ≤ l.length + xs.length
  | [], l => Nat.le_refl _
  | x :: xs, l => by
    have h1 := puts_len xs (put l x)
    have h2 := put_len l x
    show (puts (put l x) xs).length ≤ _
    rw [List.length_cons]
    omega
theorem rk_ids (a b : List Tx) : (a.map fun x => (at_ (puts (puts [] a) b) x : Int)) = rk (a ++ b) a := by
  have h := ids_rank a b
  unfold ids at h
  have h2 := congrArg (List.map fun n : Nat => (n : Int)) h
  rw [List.map_map, List.map_map] at h2
  exact h2

end Go.Proofs.YtldllbmbcnipoaaDoor.Tk
