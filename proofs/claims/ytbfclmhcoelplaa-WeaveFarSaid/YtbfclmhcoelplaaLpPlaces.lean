/-
  CONTRACT of placesOf (package lcs): where each number stands in a list, as words.
-/
import Derived.Test.YtbfclmhcoelplaaLpMap
import Derived.Test.YtbfclmhcoelplaaLpBackWalk
import Derived.Test.YtbfclmhcoelplaaCmSlice
namespace Go.Proofs.Ytbfclmhcoelplaa.Lp
open Go.RowKit Go.Proofs.Ytbfclmhcoelplaa.Cm Go.Proofs.Ytbfclmhcoelplaa.Lc Go.Proofs.Ytbfclmhcoelplaa.Lcx
set_option linter.unusedVariables false

/-- The map so far: the k places from the end on. -/
def PM (H : Nat) (w : World) (Mb : Nat) (a : List Int) (k : Nat) : Prop :=
  ∃ f, Mp w Mb f k ∧ H ≤ Mb ∧ ∀ z, (f z = none ∧ rpl (Mc a z) k = []) ∨ ∃ v g, f z = some v ∧ v.ownBlock = some g ∧ H ≤ g ∧
    w.ownsRow 0 89 2 v (rpl (Mc a z) k).reverse.length ((rpl (Mc a z) k).reverse.flatMap encW) ∧ ∀ z' v', f z' = some v' → v'.ownBlock = some g → z' = z
theorem own_obj {w : World} {B e z n g : Nat} {v : Value} {xs : List Value} (h : w.ownsRow B e z v n xs) (hg : v.ownBlock = some g) : ∃ cur, w.heap[g]? = some (.cells cur e (0, 0)) := by
  rcases h.2 with ⟨rfl, _⟩ | ⟨g', cap, cur, rfl, _, h3, _⟩
  · simp [Value.ownBlock] at hg
  · simp [Value.ownBlock] at hg; subst hg; exact ⟨cur, h3⟩
theorem PM.keep {S : Nat → Prop} {H : Nat} {w w' : World} {Mb : Nat} {a : List Int} {k : Nat} (h : PM H w Mb a k) (K : Keep S w w') (hS : ∀ b, H ≤ b → b < w.heap.size → ¬ S b) : PM H w' Mb a k := by
  obtain ⟨f, h1, h2, h3⟩ := h
  refine ⟨f, h1.keep K (hS _ h2 h1.lt), h2, fun z => ?_⟩
  rcases h3 z with h4 | ⟨v, g, k1, k2, k3, k4, k5⟩
  · exact .inl h4
  · obtain ⟨cur, hc⟩ := own_obj k4 k2
    exact .inr ⟨v, g, k1, k2, k3, own_keep k4 K (fun g' hg' => by rw [k2] at hg'; cases hg'; exact hS g k3 (lt_of_at hc)), k5⟩
/-- What is known of the map's rows. -/
def Rows3 (H : Nat) (w : World) (a : List Int) (k : Nat) (f : Int → Option Value) : Prop :=
  ∀ (z : Int), f z = none ∧ rpl (Mc a z) k = [] ∨ ∃ v g, f z = some v ∧ v.ownBlock = some g ∧ H ≤ g ∧
    w.ownsRow 0 89 2 v (rpl (Mc a z) k).reverse.length ((rpl (Mc a z) k).reverse.flatMap encW) ∧ ∀ (z' : Int) (v' : Value), f z' = some v' → v'.ownBlock = some g → z' = z
theorem Mp.mono {w : World} {b n m : Nat} {f : Int → Option Value} (h : Mp w b f n) (hm : n ≤ m) : Mp w b f m := by
  obtain ⟨es, c, h1, h2, h3⟩ := h
  exact ⟨es, c, h1, Nat.le_trans h2 hm, h3⟩
theorem Mp.not_cells {w : World} {b n : Nat} {f : Int → Option Value} (h : Mp w b f n) {cur : Array Value} {t : TypeId} {fr : Nat × Nat} {g : Nat} (hg : w.heap[g]? = some (.cells cur t fr)) : g ≠ b := by
  obtain ⟨es, c, h1, _⟩ := h
  intro e
  subst e
  rw [h1] at hg
  cases hg
/-- One row is another one now; the map is as it was. -/
theorem Rows3.change {H : Nat} {w w' : World} {a : List Int} {k : Nat} {f : Int → Option Value} {Mb n : Nat} {x : Int} {v : Value} {g : Nat} {L : List (Nat × Nat)} (hf : Rows3 H w a k f) (hm : Mp w Mb f n) (hH : H ≤ Mb) (hn : n ≤ k + 1)
    (h1 : f x = some v) (h2 : v.ownBlock = some g) (hnx : ∀ z, rpl (Mc a z) (k + 1) = if z = x then L else rpl (Mc a z) k) (K : Keep (fun b => b = g) w w') (hr : w'.ownsRow 0 89 2 v L.reverse.length (L.reverse.flatMap encW)) : PM H w' Mb a (k + 1) := by
  rcases hf x with ⟨k1, _⟩ | ⟨v0, g0, k1, k2, k3, k4, k5⟩
  · rw [k1] at h1; cases h1
  rw [h1] at k1
  obtain rfl := Option.some.inj k1
  rw [h2] at k2
  obtain rfl := Option.some.inj k2
  obtain ⟨cur, hc⟩ := own_obj k4 h2
  have hgm := hm.not_cells hc
  refine ⟨f, (hm.keep K (fun e => hgm e.symm)).mono hn, hH, fun z => ?_⟩
  rw [hnx z]
  by_cases e : z = x
  · subst e
    rw [if_pos rfl]
    exact .inr ⟨v, g, h1, h2, k3, hr, k5⟩
  · rw [if_neg e]
    rcases hf z with h | ⟨v2, g2, j1, j2, j3, j4, j5⟩
    · exact .inl h
    · exact .inr ⟨v2, g2, j1, j2, j3, own_keep j4 K (fun g3 hg3 e3 => by rw [j2] at hg3; cases hg3; subst e3; exact e (k5 z v2 j1 j2)), j5⟩
/-- A new element stands at a key. -/
theorem Rows3.insert {H : Nat} {w w6 w7 : World} {a : List Int} {k : Nat} {f : Int → Option Value} {Mb : Nat} {x : Int} {vl v' : Value} {gN : Nat} {L : List (Nat × Nat)} (hf : Rows3 H w a k f) (hm : Mp w Mb f k) (hH : H ≤ Mb) (hHw : H ≤ w.heap.size)
    (hvl : (f x).getD (.slice none 0 0) = vl) (hnx : ∀ z, rpl (Mc a z) (k + 1) = if z = x then L else rpl (Mc a z) k)
    (K : Keep (fun b => vl.ownBlock = some b) w w6) (hr : w6.ownsRow 0 89 2 v' L.reverse.length (L.reverse.flatMap encW)) (hL : L ≠ []) (hloc : v'.ownBlock = vl.ownBlock ∨ v'.ownBlock = some gN) (hgN : w.heap.size ≤ gN)
    (hm7 : Mp w7 Mb (fun z => if z = x then some v' else f z) (k + 1)) (hg7 : w6.grownBy w7 (some Mb)) : PM H w7 Mb a (k + 1) := by
  have hm6 : Mp w6 Mb f k := by
    refine hm.keep K (fun e => ?_)
    rcases hf x with ⟨k1, _⟩ | ⟨v0, g0, k1, k2, k3, k4, k5⟩
    · rw [k1] at hvl; rw [← hvl] at e; simp [Value.ownBlock] at e
    · rw [k1] at hvl
      have hvl : v0 = vl := hvl
      rw [← hvl, k2] at e
      obtain ⟨cur, hc⟩ := own_obj k4 k2
      cases e
      exact hm.not_cells hc rfl
  have K7 : Keep (fun b => b = Mb) w6 w7 := (Keep.refl _ w6).grown hg7 (fun b hb => by cases hb; exact Or.inl rfl)
  have hlen : 0 < L.reverse.length := by
    rw [List.length_reverse]; exact List.length_pos_iff.2 hL
  obtain ⟨g', hg'⟩ : ∃ g', v'.ownBlock = some g' := by
    rcases hr.2 with ⟨_, h0⟩ | ⟨g, cap, cur, rfl, _⟩
    · omega
    · exact ⟨g, rfl⟩
  obtain ⟨cur', hc'⟩ := own_obj hr hg'
  have hnm := hm6.not_cells hc'
  have hr7 := own_keep hr K7 (fun g hg e => by rw [hg'] at hg; cases hg; exact hnm e)
  -- who else lies in that block
  have huniq : ∀ z v2, f z = some v2 → v2.ownBlock = some g' → z = x := fun z v2 hz hg2 => by
    rcases hf z with ⟨k1, _⟩ | ⟨v0, g0, k1, k2, k3, k4, k5⟩
    · rw [k1] at hz; cases hz
    rw [hz] at k1
    obtain rfl := Option.some.inj k1
    rw [hg2] at k2
    obtain rfl := Option.some.inj k2
    obtain ⟨cur, hc⟩ := own_obj k4 hg2
    have hlt := lt_of_at hc
    rcases hloc with h | h
    · rw [hg'] at h
      rcases hf x with ⟨j1, _⟩ | ⟨v1, g1, j1, j2, j3, j4, j5⟩
      · rw [j1] at hvl; rw [← hvl] at h; simp [Value.ownBlock] at h
      · rw [j1] at hvl
        have hvl : v1 = vl := hvl
        rw [← hvl, j2] at h
        cases h
        exact j5 z v2 hz hg2
    · rw [hg'] at h; cases h; omega
  have hge : H ≤ g' := by
    rcases hloc with h | h
    · rw [hg'] at h
      rcases hf x with ⟨j1, _⟩ | ⟨v1, g1, j1, j2, j3, j4, j5⟩
      · rw [j1] at hvl; rw [← hvl] at h; simp [Value.ownBlock] at h
      · rw [j1] at hvl
        have hvl : v1 = vl := hvl
        rw [← hvl, j2] at h
        cases h
        exact j3
    · rw [hg'] at h; cases h; omega
  refine ⟨_, hm7, hH, fun z => ?_⟩
  by_cases e : z = x
  · subst e
    refine .inr ⟨v', g', if_pos rfl, hg', hge, by rw [hnx z, if_pos rfl]; exact hr7, fun z' v2 hz hg2 => ?_⟩
    by_cases e2 : z' = z
    · exact e2
    · rw [if_neg e2] at hz
      exact huniq z' v2 hz hg2
  · rw [if_neg e]
    rcases hf z with ⟨k1, k2⟩ | ⟨v2, g2, j1, j2, j3, j4, j5⟩
    · exact .inl ⟨k1, by rw [hnx z, if_neg e]; exact k2⟩
    · have hne : vl.ownBlock ≠ some g2 := fun h => by
        rcases hf x with ⟨i1, _⟩ | ⟨v1, g1, i1, i2, i3, i4, i5⟩
        · rw [i1] at hvl; rw [← hvl] at h; simp [Value.ownBlock] at h
        · rw [i1] at hvl
          have hvl : v1 = vl := hvl
          rw [← hvl, i2] at h
          cases h
          exact e (i5 z v2 j1 j2)
      have j6 := own_keep j4 K (fun g hg h => by rw [j2] at hg; cases hg; exact hne h)
      obtain ⟨c6, hc6⟩ := own_obj j6 j2
      refine .inr ⟨v2, g2, j1, j2, j3, by rw [hnx z, if_neg e]; exact own_keep j6 K7 (fun g hg h => by rw [j2] at hg; cases hg; exact hm6.not_cells hc6 h), fun z' v3 hz hg3 => ?_⟩
      by_cases e2 : z' = x
      · rw [if_pos e2] at hz
        obtain rfl := Option.some.inj hz
        rw [hg'] at hg3
        cases hg3
        exact absurd (huniq z v2 j1 j2) e
      · rw [if_neg e2] at hz
        exact j5 z' v3 hz hg3
/-- The map, as it is read: its blocks lie between H and H2. -/
def Pls (w : World) (Mb H H2 : Nat) (a : List Int) : Prop :=
  H ≤ Mb ∧ Mb < H2 ∧ ∃ f n, Mp w Mb f n ∧ ∀ z, Pl (fun b => b < H ∨ H2 ≤ b) w ((f z).getD (.slice none 0 0)) (pls a z)
theorem Pl.of_own {S : Nat → Prop} {w : World} {v : Value} {l : List (Nat × Nat)} (h : w.ownsRow 0 89 2 v l.length (l.flatMap encW)) (hS : ∀ g, v.ownBlock = some g → ¬ S g) : Pl S w v l := by
  have hr : Rk 2 encW w v l := Rk.of_own encW_len h
  rcases h.2 with ⟨rfl, h0⟩ | ⟨g, cap, cur, rfl, _, h3, h4, h5, h6, h7⟩
  · exact ⟨none, 0, by simp [h0], by omega, .inl (List.eq_nil_of_length_eq_zero h0)⟩
  · refine ⟨_, cap, rfl, h4, .inr ⟨g, 0, rfl, lt_of_at h3, hS g rfl, fun j p hj => ?_⟩⟩
    have hjl := (List.getElem?_eq_some_iff.1 hj).1
    obtain ⟨b, o, hb, _, hc⟩ := hr.at j hjl
    simp only [Option.some.injEq, Addr.mk.injEq, and_true] at hb
    obtain ⟨rfl, rfl⟩ := hb
    have hp : l[j] = p := by rw [List.getElem?_eq_getElem hjl] at hj; exact Option.some.inj hj
    rw [hp] at hc
    exact ⟨hc 0 _ rfl, hc 1 _ rfl⟩
theorem Pls.keep {S : Nat → Prop} {w w' : World} {Mb H H2 : Nat} {a : List Int} (h : Pls w Mb H H2 a) (K : Keep S w w') (hS : ∀ b, H ≤ b → b < H2 → ¬ S b) : Pls w' Mb H H2 a := by
  obtain ⟨h1, h2, f, n, h3, h4⟩ := h
  refine ⟨h1, h2, f, n, h3.keep K (hS _ h1 h2), fun z => ?_⟩
  exact (h4 z).keep (K.mono (fun b _ hb => by
    by_cases e : b < H
    · exact Or.inl e
    · by_cases e2 : H2 ≤ b
      · exact Or.inr e2
      · exact absurd hb (hS b (by omega) (by omega))))
theorem PM.pls {H : Nat} {w : World} {Mb : Nat} {a : List Int} (h : PM H w Mb a a.length) : Pls w Mb H w.heap.size a := by
  obtain ⟨f, h1, h2, h3⟩ := h
  refine ⟨h2, h1.lt, f, _, h1, fun z => ?_⟩
  rcases h3 z with ⟨k1, k2⟩ | ⟨v, g, k1, k2, k3, k4, k5⟩
  · rw [k1]
    unfold Lcx.pls
    rw [k2]
    exact ⟨none, 0, rfl, Nat.le_refl _, .inl rfl⟩
  · rw [k1]
    obtain ⟨cur, hc⟩ := own_obj k4 k2
    exact Pl.of_own k4 (fun g' hg' => by have hg' : v.ownBlock = some g' := hg'; rw [k2] at hg'; cases hg'; have := lt_of_at hc; omega)
/-- 'm[k] = v' whose run is known, as one step of a region that draws. -/
theorem step_update_run {P : Program} {ops : Array Oper} {o : Oper} {a : Act} {w : World} {K : Act → World → Prop} {Q : Exit → Act → World → Prop} {E : Prop}
    (hg : o.guard = none) (m x v : Operand) (t : TypeId) (hop : o.op = Op.mapUpdate t m x v)
    (vm vx vv : Value) (hm : a.eval m = vm) (hx : a.eval x = vx) (hv : a.eval v = vv) (w' : World) (hr : (Instr.mapUpdate t vm vx vv).run P w = .ok () w') (hK : K (a.put o.dst undef) w') :
    if Region.wanted o (yielded ops a.tmps) = true then Oper.wp P o a w K Q else E := by
  have hw : Region.wanted o (yielded ops a.tmps) = true := by simp [Region.wanted, hg]
  rw [if_pos hw]
  unfold Oper.wp
  simp [execOp, hop, hm, hx, hv, hr, Result.andThen]
  exact hK

theorem addw_len (l : List (Nat × Nat)) (k : Nat) : (addw l k).length ≤ l.length + 1 := by
  match l with
  | [] => simp [addw]
  | (q, b) :: t =>
    show (if q = k / 64 then (q, b ||| 2 ^ (k % 64)) :: t else (k / 64, 2 ^ (k % 64)) :: (q, b) :: t).length ≤ _
    split <;> simp
theorem rpl_len (f : Nat → Bool) : ∀ k, (rpl f k).length ≤ k
  | 0 => Nat.le_refl _
  | k + 1 => by
    show (if f k then addw (rpl f k) k else rpl f k).length ≤ _
    have := rpl_len f k
    have := addw_len (rpl f k) k
    split <;> omega
theorem set_bits (t : List (Nat × Nat)) (p : Nat × Nat) (b : Nat) : ((t.reverse ++ [p]).flatMap encW).set (t.length * 2 + 1) (.int .u64 (b : Int)) = (t.reverse ++ [(p.1, b)]).flatMap encW := by
  have hl : ∀ l : List (Nat × Nat), (l.flatMap encW).length = l.length * 2 := fun l => by
    induction l with
    | nil => rfl
    | cons x l ih => rw [List.flatMap_cons, List.length_append, ih, encW_len, List.length_cons]; omega
  rw [List.flatMap_append, List.flatMap_append, List.set_append_right _ _ (by rw [hl, List.length_reverse]; omega), hl, List.length_reverse, show t.length * 2 + 1 - t.length * 2 = 1 by omega]
  rfl
def hdAt : List (Nat × Nat) → Nat → Bool
  | [], _ => false
  | p :: _, q => decide (p.1 = q)
theorem rpl_next {a : List Int} {k : Nat} {x : Int} (hk : k < a.length) (hx : a.reverse[k]? = some x) (z : Int) : rpl (Mc a z) (k + 1) = if z = x then addw (rpl (Mc a x) k) k else rpl (Mc a z) k := by
  show (if Mc a z k then addw (rpl (Mc a z) k) k else rpl (Mc a z) k) = _
  unfold Mc
  rw [hx]
  by_cases e : z = x
  · subst e; simp
  · rw [if_neg (by simpa using fun h => e h.symm), if_neg e]

set_option maxHeartbeats 6400000 in
set_option maxRecDepth 100000 in
theorem placesOf_any (va : Value) (a : List Int) (w : World) (ha : Rz w va a) (hla : a.length ≤ 100000) :
    Calls Try.prog 46 #[va] w fun e w' => ∃ Mb, e = .returned (.map (some Mb)) ∧ Pls w' Mb w.heap.size w'.heap.size a ∧ Below w.heap.size w w' := by
  obtain ⟨ao, ca, rfl⟩ := ha.len
  obtain ⟨i0, hi, hz0, hz1, hz2⟩ := info_parts infoW
  have hmm := @run_makeMap Try.prog
  have FA := Lib.hid ha.at
  clear ha
  have HM0 : Hid (PM w.heap.size (w.alloc (.map #[] 0)) w.heap.size a 0) := Lib.hid ⟨_, mp_made w, Nat.le_refl _, fun z => .inl ⟨rfl, rfl⟩⟩
  have HB0 : Hid (Below w.heap.size w (w.alloc (.map #[] 0))) := Lib.hid ((Below.refl _ w).alloc (Nat.le_refl _) _)
  go_enter Try.func46, Try.ntmps46
  go_wp2_with fail
  go_loopw [4] (fun s wr => ∃ r : Nat, r ≤ a.length ∧ s = .int .i64 ((r : Int) - 1) ∧ Hid (PM w.heap.size wr w.heap.size a (a.length - r)) ∧ Hid (Below w.heap.size w wr)) (fun s _ => (intOf s + 1).toNat)
  case atStart => exact ⟨a.length, Nat.le_refl _, by go_num, by rw [Nat.sub_self]; exact HM0, HB0⟩
  case round =>
    clear HM0 HB0
    obtain ⟨r, hr, rfl, HM, HB⟩ := hrel
    rcases r with _ | i
    · have hneg : ((0 : Nat) : Int) - 1 = -1 := by omega
      rw [hneg]
      rw [Nat.sub_zero] at HM
      have R1 := Lib.hid HM.out.pls
      clear HM
      go_wp2_with fail
      go_ret
      exact ⟨_, rfl, R1.out, HB.out⟩
    · have hia : i < a.length := by omega
      rw [show ((i + 1 : Nat) : Int) - 1 = (i : Int) by omega]
      obtain ⟨ba, oa, rfl, hba, ca0⟩ := FA.out i hia
      have hW := Lib.hid (wordOf_any i a.length wr hia (by omega))
      obtain ⟨k, hk⟩ : ∃ k, a.length - 1 - i = k := ⟨_, rfl⟩
      rw [hk] at hW
      obtain ⟨q0, hq0⟩ : ∃ q0, k / 64 = q0 := ⟨_, rfl⟩
      obtain ⟨b0, hb0⟩ : ∃ b0, 2 ^ (k % 64) = b0 := ⟨_, rfl⟩
      rw [hq0, hb0] at hW
      have HQ0 := Lib.hid hq0
      have HB0 := Lib.hid hb0
      have hb064 : b0 < 2 ^ 64 := by rw [← hb0]; exact Nat.pow_lt_pow_right (by decide) (Nat.mod_lt _ (by decide))
      clear hq0 hb0
      rw [show a.length - (i + 1) = k by omega] at HM
      have hrev : a.reverse[k]? = some a[i] := by
        rw [List.getElem?_eq_getElem (by rw [List.length_reverse]; omega), List.getElem_reverse]
        congr 2; omega
      have HNX := Lib.hid (rpl_next (by omega) hrev)
      have hkn : a.length - i = k + 1 := by omega
      clear hrev hk
      generalize a[i] = x at *
      go_wp2_with fail
      refine hW.out.mono ?_
      rintro e w1 ⟨rfl, hb1⟩
      have hM1 := Lib.hid (HM.out.keep (Keep.of_below (S := fun _ => False) hb1) (fun _ _ _ h => h))
      have hB1 := Lib.hid (HB.out.trans (hb1.mono HB.out.size))
      clear hb1 HM HB hW
      go_upto_region 6 with fail
      have hn := Lib.hid (alloc_new w1 (.cells #[.int .i64 q0, .int .u64 b0] 89))
      have hM2 := Lib.hid (hM1.out.keep (keep_alloc w1 (.cells #[.int .i64 q0, .int .u64 b0] 89)) (fun _ _ _ h => h))
      have hB2 := Lib.hid (hB1.out.alloc hB1.out.size (.cells #[.int .i64 q0, .int .u64 b0] 89))
      have hNw : w.heap.size ≤ w1.heap.size := hB1.out.size
      clear hM1 hB1
      generalize w1.alloc (.cells #[.int .i64 q0, .int .u64 b0] 89) = w2 at *
      generalize w1.heap.size = N at *
      obtain ⟨f, hmp, hH, hf⟩ := hM2.out
      have hlk := hmp.lookup x
      obtain ⟨R, hR⟩ : ∃ R, rpl (Mc a x) k = R := ⟨_, rfl⟩
      obtain ⟨nR, hnR⟩ : ∃ nR, R.reverse.length = nR := ⟨_, rfl⟩
      have hnRle : nR ≤ 100000 := by
        rw [← hnR, ← hR, List.length_reverse]
        have := rpl_len (Mc a x) k
        omega
      obtain ⟨vl, hvl⟩ : ∃ vl, (f x).getD (.slice none 0 0) = vl := ⟨_, rfl⟩
      have hrow : w2.ownsRow 0 89 2 vl nR (R.reverse.flatMap encW) := by
        rw [← hvl, ← hnR, ← hR]
        rcases hf x with ⟨k1, k2⟩ | ⟨v, g, k1, k2, k3, k4, k5⟩
        · rw [k1, k2]; exact World.ownsRow_nil _ _ _ _
        · rw [k1]; exact k4
      rw [hvl] at hlk
      obtain ⟨al, cl, rfl⟩ := own_len hrow
      have ca2 : w2.cell? ⟨ba, oa + i, none⟩ = some (.int .i64 x) := (hB2.out.cell (by exact hba)).trans ca0
      have cn0 : w2.cell? ⟨N, 0, none⟩ = some (.int .i64 q0) := cell_at hn.out 0
      have cn1 : w2.cell? ⟨N, 1, none⟩ = some (.int .u64 b0) := cell_at hn.out 1
      obtain ⟨bb, hbb⟩ : ∃ bb : Bool, hdAt R q0 = bb := ⟨_, rfl⟩
      have HF := Lib.hid (And.intro hmp (And.intro hH (And.intro hf hvl)))
      have HR := Lib.hid hR
      have HNR := Lib.hid hnR
      have HROW := Lib.hid hrow
      have HBB := Lib.hid hbb
      have hia2 : (i : Int) < (a.length : Int) := by omega
      clear hmp hH hf hvl hR hnR hrow hbb ca0
      go_upto_region 8 with fail
      go_cut [40] from 12 to 60 (fun s wx => s = .bool bb ∧ ∃ n : Nat, wx = w2.drewN n)
      case first =>
        rcases R with _ | ⟨p, t⟩
        · obtain rfl : nR = 0 := by have := HNR.out; simpa using this.symm
          have hbb : false = bb := HBB.out
          subst hbb
          clear HBB HF HR HROW HNX
          go_wp2_with fail
          go_quiet (fail)
          go_wp2_with fail
          go_meet
          exact ⟨rfl, nq, rfl⟩
        · have hm : t.length + 1 = nR := by have := HNR.out; simpa using this
          have hRk : Rk 2 encW w2 (.slice al nR cl) (p :: t).reverse := Rk.of_own encW_len (by have h1 := HNR.out; rw [h1]; exact HROW.out)
          rw [← HNR.out] at hRk
          obtain ⟨b, o, rfl, hbl, hc⟩ := hRk.at t.length (by simp)
          have hl : (p :: t).reverse[t.length]'(by simp) = p := by simp
          rw [hl] at hc
          have c3 : w2.cell? ⟨b, o + t.length * 2, none⟩ = some (.int .i64 p.1) := hc 0 _ rfl
          have e1 : IntKind.i64.wrap ((nR : Int) - 1) = (t.length : Int) := by rw [IntKind.wrap_i64]; omega
          have e1' : (nR : Int) - 1 = (t.length : Int) := by omega
          have d0 : decide ((0 : Int) < (nR : Int)) = true := decide_eq_true (by omega)
          have d1 : decide (0 < nR) = true := decide_eq_true (by omega)
          have t1 : (t.length : Int) < (nR : Int) := by omega
          have e3 : ((p.1 : Int) == (q0 : Int)) = bb := by
            have h : decide (p.1 = q0) = bb := HBB.out
            rw [← h]
            by_cases e : p.1 = q0
            · rw [decide_eq_true e, e]; simp
            · rw [decide_eq_false e, beq_eq_false_iff_ne]; omega
          clear HBB HF HR HROW HNX hc hl hRk hm HNR
          generalize p.1 = pa at *
          generalize t.length = m at *
          go_wp2_with fail
          go_quiet (fail)
          go_wp2_with fail
          go_meet
          exact ⟨rfl, nq, rfl⟩
      case rest =>
        obtain ⟨rfl, n8, rfl⟩ := hcut
        have HF3 : Hid (Mp (w2.drewN n8) w.heap.size f k ∧ ∀ (z : Int), f z = none ∧ rpl (Mc a z) k = [] ∨ ∃ v g, f z = some v ∧ v.ownBlock = some g ∧ w.heap.size ≤ g ∧
            (w2.drewN n8).ownsRow 0 89 2 v (rpl (Mc a z) k).reverse.length ((rpl (Mc a z) k).reverse.flatMap encW) ∧ ∀ (z' : Int) (v' : Value), f z' = some v' → v'.ownBlock = some g → z' = z) := Lib.hid ⟨HF.out.1, HF.out.2.2.1⟩
        have HVL := Lib.hid HF.out.2.2.2
        have HROW3 : Hid ((w2.drewN n8).ownsRow 0 89 2 (.slice al nR cl) nR (R.reverse.flatMap encW)) := HROW
        have hB3 : Hid (Below w.heap.size w (w2.drewN n8)) := Lib.hid (below_drewN hB2.out _)
        have hn3 : Hid ((w2.drewN n8).heap[N]? = _) := hn
        have ca3 : (w2.drewN n8).cell? ⟨ba, oa + i, none⟩ = some (.int .i64 x) := ca2
        have cn03 : (w2.drewN n8).cell? ⟨N, 0, none⟩ = some (.int .i64 q0) := cn0
        have cn13 : (w2.drewN n8).cell? ⟨N, 1, none⟩ = some (.int .u64 b0) := cn1
        clear HF HROW hB2 hn ca2 cn0 cn1 hM2 hlk
        generalize w2.drewN n8 = w3 at *
        rcases bb with _ | _
        · -- a new word
          have hadd : Hid (addw R k = (q0, b0) :: R) := Lib.hid (by
            have h1 := HBB.out
            rcases R with _ | ⟨⟨q, b⟩, t⟩
            · show [(k / 64, 2 ^ (k % 64))] = _
              rw [HQ0.out, HB0.out]
            · have h2 : q ≠ q0 := by simpa [hdAt] using h1
              show (if q = k / 64 then _ else (k / 64, 2 ^ (k % 64)) :: (q, b) :: t) = _
              rw [HQ0.out, HB0.out, if_neg h2])
          have hB3s : w.heap.size ≤ w3.heap.size := hB3.out.size
          have HR3 : Hid (Rows3 w.heap.size w3 a k f) := Lib.hid HF3.out.2
          have hvls : ∀ g, (Value.slice al nR cl).ownBlock = some g → w.heap.size ≤ g := fun g hg => by
            rcases HF3.out.2 x with ⟨k1, _⟩ | ⟨v, g', k1, k2, k3, k4, k5⟩
            · have := HVL.out; rw [k1] at this; have this : Value.slice none 0 0 = .slice al nR cl := this
              rw [← this] at hg; simp [Value.ownBlock] at hg
            · have := HVL.out; rw [k1] at this; have this : v = .slice al nR cl := this
              rw [← this, k2] at hg; cases hg; exact k3
          have oA : ((w3.alloc (.cells #[.int .i64 q0, .int .u64 b0] 89)).drew).ownsRow 0 89 2 (.slice al nR cl) nR (R.reverse.flatMap encW) := HROW3.out.alloc _
          obtain ⟨v', w6, q1, hown6, hgrow6, _, hloc6⟩ := run_append_own_at (P := Try.prog) ((w3.alloc (.cells #[.int .i64 q0, .int .u64 b0] 89)).drew) 0 99 0 89 i0 (.agg #[.int .i64 0, .int .u64 0]) 2 16 Try.underlying99 hi hz0 hz1 hz2 rfl (by decide) _ nR _ oA ⟨w3.heap.size, 0, none⟩ 1 1 (encW (q0, b0)) rfl (newsK (wr := w3) (us := encW (q0, b0)) (t := 89)) (encW_one _) (by unfold maxLen; omega) (by omega) (Nat.zero_le _)
          have K6 : Hid (Keep (fun b => (Value.slice al nR cl).ownBlock = some b) w3 w6) := Lib.hid ((((Keep.refl _ w3).alloc _).drew).grown hgrow6 (fun b hb => Or.inl hb))
          have hm6 : Mp w6 w.heap.size f k := by
            refine HF3.out.1.keep K6.out (fun e => ?_)
            rcases HF3.out.2 x with ⟨k1, _⟩ | ⟨v, g', k1, k2, k3, k4, k5⟩
            · have := HVL.out; rw [k1] at this; have this : Value.slice none 0 0 = .slice al nR cl := this
              rw [← this] at e; simp [Value.ownBlock] at e
            · have := HVL.out; rw [k1] at this; have this : v = .slice al nR cl := this
              rw [← this, k2] at e
              obtain ⟨cur, hc⟩ := own_obj k4 k2
              cases e
              exact HF3.out.1.not_cells hc rfl
          obtain ⟨w7, q2, hm7, hg7⟩ := hm6.update x v'
          have hB6 : Below w.heap.size w w6 := ((hB3.out.alloc hB3s _).drew).grown hgrow6 (by show _ ≤ (w3.alloc _).heap.size; simp; omega) hvls
          have ca6 : w6.cell? ⟨ba, oa + i, none⟩ = some (.int .i64 x) := ((hB6.cell (by exact hba)).trans ((hB3.out.cell (by exact hba)).symm)).trans ca3
          have hB7 : Hid (Below w.heap.size w w7) := Lib.hid (hB6.grown hg7 hB6.size (fun b hb => by cases hb; exact Nat.le_refl _))
          have HPM : Hid (PM w.heap.size w7 w.heap.size a (k + 1)) := Lib.hid (HR3.out.insert HF3.out.1 (Nat.le_refl _) hB3s HVL.out (L := (q0, b0) :: R) (by
            intro z; rw [HNX.out z, HR.out, hadd.out]) K6.out (by
            have e1 : ((q0, b0) :: R).reverse.length = nR + 1 := by rw [List.reverse_cons, List.length_append, HNR.out]; rfl
            have e2 : ((q0, b0) :: R).reverse.flatMap encW = R.reverse.flatMap encW ++ encW (q0, b0) := by rw [List.reverse_cons, List.flatMap_append]; simp
            rw [e1, e2]; exact hown6) (by simp) hloc6 (by show _ ≤ (w3.alloc _).heap.size; simp) hm7 hg7)
          have ca3' : (w3.alloc (.cells #[.int .i64 q0, .int .u64 b0] 89)).cell? ⟨ba, oa + i, none⟩ = some (.int .i64 x) := (hB3.out.alloc hB3s _ |>.cell (by exact hba)).trans ((hB3.out.cell (by exact hba)).symm.trans ca3)
          clear hown6 hgrow6 hloc6 hm6 hm7 hg7 hB6 oA hvls HBB hn3
          go_wp2_with fail
          go_region_law (first
            | (refine step_append_run rfl (.tmp 57) (.tmp 59) _ _ rfl _ _ rfl rfl _ _ (fun ty => q1) ?_))
          clear q1 q2 ca3' ca6 cn03 cn13 ca3
          all_goals
            go_wp2_with fail
            go_roundw
            case rel => exact ⟨i, by omega, by go_num, by rw [hkn]; exact HPM, hB7⟩
            case measure => simp [intOf] <;> omega
        · -- one more bit of the last word
          rcases R with _ | ⟨p, t⟩
          · exact absurd HBB.out (by simp [hdAt])
          have hpq : p.1 = q0 := by have := HBB.out; simpa [hdAt] using this
          have hadd : Hid (addw (p :: t) k = (p.1, p.2 ||| b0) :: t) := Lib.hid (by
            obtain ⟨q, b⟩ := p
            show (if q = k / 64 then (q, b ||| 2 ^ (k % 64)) :: t else _) = _
            rw [HQ0.out, HB0.out, if_pos hpq])
          have hm : t.length + 1 = nR := by have := HNR.out; simpa using this
          have hbits : p.2 < 2 ^ 64 := by
            have h1 := (rpl_ok (Mc a x) k).2.1 p (by rw [HR.out]; exact List.mem_cons_self ..)
            exact h1.2
          rcases HF3.out.2 x with ⟨k1, k2⟩ | ⟨v, g, k1, k2, k3, k4, k5⟩
          · rw [HR.out] at k2; cases k2
          have hv : v = .slice al nR cl := by have := HVL.out; rw [k1] at this; exact this
          subst hv
          rcases HROW3.out.2 with ⟨h1, _⟩ | ⟨g', cap', cur, h1, _, h3, h4, h5, h6, h7⟩
          · simp at h1; omega
          simp only [Value.slice.injEq] at h1
          obtain ⟨rfl, _, rfl⟩ := h1
          have hg' : g' = g := by simpa [Value.ownBlock] using k2
          subst hg'
          have hst := HROW3.out.stored (t.length * 2 + 1) (.int .u64 ((p.2 ||| b0 : Nat) : Int))
          rw [List.reverse_cons, set_bits] at hst
          have cv : w3.cell? ⟨g', t.length * 2 + 1, none⟩ = some (.int .u64 p.2) := by
            have h8 := HROW3.out.cellAt (t.length * 2 + 1) (by omega)
            rw [h8, List.reverse_cons, List.flatMap_append]
            have hl : (t.reverse.flatMap encW).length = t.length * 2 := by
              have := k4.1
              rw [HR.out, List.reverse_cons, List.flatMap_append, List.length_append, List.length_append, List.length_reverse] at this
              simp [encW] at this ⊢
              try omega
            rw [List.getElem?_append_right (by rw [hl]; omega), hl, show t.length * 2 + 1 - t.length * 2 = 1 by omega]
            rfl
          have HPM : Hid (PM w.heap.size (w3.drew.setCell ⟨g', t.length * 2 + 1, none⟩ (.int .u64 ((p.2 ||| b0 : Nat) : Int))) w.heap.size a (k + 1)) := Lib.hid (Rows3.change (w := w3) HF3.out.2 HF3.out.1 (Nat.le_refl _) (by omega) k1 k2 (L := (p.1, p.2 ||| b0) :: t) (by
            intro z; rw [HNX.out z, HR.out, hadd.out]) ((Keep.refl (fun b => b = g') w3).drew.setCell (p := ⟨g', _, none⟩) (Or.inl rfl) _) (by
            rw [List.reverse_cons, List.length_append, List.length_reverse, List.length_singleton, hm]
            exact hst.1))
          have HB4 : Hid (Below w.heap.size w (w3.drew.setCell ⟨g', t.length * 2 + 1, none⟩ (.int .u64 ((p.2 ||| b0 : Nat) : Int)))) := Lib.hid (hB3.out.drew.setCell (by exact k3) _)
          have eor : bits .or .u64 (p.2 : Int) (b0 : Int) = ((p.2 ||| b0 : Nat) : Int) := u64_or_nat _ _ hbits hb064
          have fv : w3.frozen? ⟨g', t.length * 2 + 1, none⟩ = false := frozen_at h3 _
          have lg : g' < w3.heap.size := lt_of_at h3
          have e1 : IntKind.i64.wrap ((nR : Int) - 1) = (t.length : Int) := by rw [IntKind.wrap_i64]; omega
          have e1' : IntKind.i64.wrap (t.length : Int) = (t.length : Int) := by rw [IntKind.wrap_i64]; omega
          have t1 : (t.length : Int) < (nR : Int) := by omega
          clear hst k4 k5 h3 h4 h5 h6 h7 HF3 HVL HROW3 HBB hadd HR HNX hpq hbits hn3 hm HNR k1 k2
          generalize t.length = m at *
          generalize p.2 ||| b0 = po at *
          generalize p.2 = pb at *
          have d1 := lit_cell cn13
          have d2 := lit_cell cv
          go_wp2_with fail
          go_still_tail 11, (by kernel_rfl)
          change wpList _ _ _ _ _ w3.drew
          have cv4 : w3.drew.cell? ⟨g', m * 2 + 1, none⟩ = some (.int .u64 pb) := cv
          have fv4 : w3.drew.frozen? ⟨g', m * 2 + 1, none⟩ = false := fv
          clear d1 d2 cv fv cn03 cn13 ca3
          generalize w3.drew = w4 at *
          go_wp2_with fail
          go_roundw
          case rel => exact ⟨i, by omega, by go_num, by rw [hkn]; exact HPM, HB4⟩
          case measure => simp [intOf] <;> omega
end Go.Proofs.Ytbfclmhcoelplaa.Lp
