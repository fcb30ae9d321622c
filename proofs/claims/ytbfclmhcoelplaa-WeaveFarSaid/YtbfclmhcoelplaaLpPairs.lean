/-
  CONTRACT of Pairs (package lcs).
-/
import Derived.Test.YtbfclmhcoelplaaLpCommon
import Derived.WalkKit
namespace Go.Proofs.Ytbfclmhcoelplaa.Lp
open Go.RowKit Go.Shelf Go.Proofs.Ytbfclmhcoelplaa.Cm Go.Proofs.Ytbfclmhcoelplaa.Lc Go.Proofs.Ytbfclmhcoelplaa.Lcx
set_option linter.unusedVariables false
attribute [local go_sem] Oper.semAt_some

theorem infoQ : (Try.prog.info? 68).map (fun i => (i.zero, i.size, i.bytes)) = some (some (.agg #[.int .i64 0, .int .i64 0]), 2, 16) := by kernel_rfl
/-- What lies in memory between two rounds. -/
def Ip (w : World) (pre : List (Nat × Nat)) (W : World) : Prop :=
  ∃ v, W.heap[w.heap.size]? = some (Obj.cells #[v] 48 (0, 0)) ∧ W.ownsRow (w.heap.size + 1) 68 2 v pre.length (pre.flatMap encP) ∧ Below w.heap.size w W
theorem own_mine {n0 B k n : Nat} {A A' : World} {v : Value} {xs : List Value} (h : A.ownsRow B 68 k v n xs) (m : Mine mineT n0 A A') : A'.ownsRow B 68 k v n xs :=
  own_keep h m.keep (fun g hg hs => by
    obtain ⟨cur, hc⟩ := own_obj h hg
    have := hs _ _ _ hc
    revert this
    decide)
theorem Ip.mine {w : World} {pre : List (Nat × Nat)} {A B : World} (h : Ip w pre A) (m : Mine mineT w.heap.size A B) : Ip w pre B := by
  obtain ⟨v, h1, h2, h3⟩ := h
  exact ⟨v, m.2 _ _ _ _ h1 (by decide), own_mine h2 m, h3.trans m.1⟩
/-- The loop's variable in its box; the frame. -/
def Ax (w : World) (a0 a1 g : Value) (x : Nat × Nat) (a' : Act) (W : World) : Prop :=
  ∃ PB, w.heap.size < PB ∧ W.heap[PB]? = some (Obj.cells #[.int .i64 x.1, .int .i64 x.2] 68 (0, 0)) ∧
    a' = { tmps := #[a0, a1, undef, undef, .slice none 0 0, .pointer (some ⟨w.heap.size, 0, none⟩), .pointer (some ⟨PB, 0, none⟩), a0, a1, g, .agg #[.int .i64 x.1, .int .i64 x.2], undef, undef, undef, undef, undef], defers := [] }

set_option maxHeartbeats 3200000 in
set_option maxRecDepth 100000 in
theorem pairs_any (va vb : Value) (a b : List Int) (w : World) (ha : Rz w va a) (hb : Rz w vb b) (hla : a.length ≤ 8000) (hlb : b.length ≤ 8000) :
    Calls Try.prog 25 #[va, vb] w fun e w' => ∃ v, e = .returned v ∧ Rk 2 encP w' v (pairs a b) ∧ Below w.heap.size w w' := by
  have RA := Lib.hid ha
  have RB := Lib.hid hb
  obtain ⟨aoa, ca, rfl⟩ := ha.len
  obtain ⟨aob, cb, rfl⟩ := hb.len
  have HC := Lib.hid (fun w' => common_any aoa aob a.length ca b.length cb w')
  clear ha hb
  refine (callsIn_wide (n := 5)).1 ?_
  refine callsIn_of_wp_marks Try.func25 (by first | rfl | kernel_rfl) trivial ?_ rfl
  simp only [Try.ntmps25, List.size_toArray, List.length_cons, List.length_nil, Nat.reduceAdd, Nat.reduceSub, Array.replicate_succ, Array.replicate_zero, List.push_toArray, List.append_toArray, List.nil_append, List.cons_append]
  gi_wp2_with (refine ⟨trivial, ?_⟩; gi_at_call 37; refine (callsIn_wide.2 (HC.out _)).mono ?_; rintro e w1 ⟨AB, BB, OB, rfl, bA, bB, bO, k1⟩)
  have hO : w1.heap[w.heap.size]? = some (Obj.cells #[.slice none 0 0] 48 (0, 0)) := k1.at (alloc_new w _) (fun h => h)
  have hBw : Below w.heap.size w w1 := (((Keep.refl (fun _ => False) w).alloc _).trans k1).below (fun _ h => h.elim) (Nat.le_refl _)
  have HIT := iter_goes w _ _ a b AB BB OB w1 RA.out RB.out hBw bA bB bO hla hlb
  have hlp : (pairs a b).length ≤ 8000 := by have := pairs_len a b; have := lcs_le_left a b; omega
  obtain ⟨i0, hi, hz0, hz1, hz2⟩ := info_parts infoQ
  refine for_goes (α := Nat × Nat) (K := mineT) (gf := 41) (lb := #[.pointer (some ⟨AB, 0, none⟩), .pointer (some ⟨BB, 0, none⟩), .pointer (some ⟨OB, 0, none⟩)]) rfl (enters_of Try.func41 (by kernel_rfl) rfl) hBw.size
    HIT (fun _ => rfl) (Ip w) (fun pre A B h m => h.mine m) ⟨_, hO, World.ownsRow_nil _ _ _ _, hBw⟩
    (Ax w (.slice aoa a.length ca) (.slice aob b.length cb) (.func (.func 41) #[] #[.pointer (some ⟨AB, 0, none⟩), .pointer (some ⟨BB, 0, none⟩), .pointer (some ⟨OB, 0, none⟩)]))
    (fun x a' A B h m => by obtain ⟨PB, h1, h2, h3⟩ := h; exact ⟨PB, h1, m.2 _ _ _ _ h2 (by decide), h3⟩) ?assign ?body ?done
  case assign =>
    clear hO hBw HIT bA bB bO k1
    rintro l pre x W R hI hR
    have HI := Lib.hid hI
    have HR := Lib.hid hR
    clear hI hR
    simp only [encY]
    gi_wp2
    have KA : ∀ o, Keep (fun _ => False) W (W.alloc o) := fun o => (Keep.refl _ W).alloc o
    have hsz : w.heap.size < W.heap.size := by obtain ⟨v, h1, _⟩ := HI.out; exact lt_of_at h1
    exact HR.out _ _ (BdS.of_keep (KA _) (Nat.le_of_lt hsz) (fun _ h => h.elim) (fun _ h => h.elim)) (HI.out.mine (ItS.none (KA _) (Nat.le_of_lt hsz)).1) ⟨W.heap.size, hsz, alloc_new W _, rfl⟩
  case body =>
    clear hO hBw HIT bA bB bO k1
    rintro l pre x a' W ⟨v, h1, h2, h3⟩ ⟨PB, hPB, hp, rfl⟩ hlen
    have cO : W.cell? ⟨w.heap.size, 0, none⟩ = some v := cell_at h1 0
    have cP0 : W.cell? ⟨PB, 0, none⟩ = some (.int .i64 x.1) := cell_at hp 0
    have cP1 : W.cell? ⟨PB, 1, none⟩ = some (.int .i64 x.2) := cell_at hp 1
    have lO := lt_of_at h1
    have H1 := Lib.hid h1
    have H2 := Lib.hid h2
    have H3 := Lib.hid h3
    clear h1 h2 h3 hp
    gi_wp2_with (gi_at_builtin; refine wpListIn_append_own _ rfl _ _ 48 rfl (w.heap.size + 1) 68 i0 (.agg #[.int .i64 0, .int .i64 0]) 2 16 Try.underlying48 hi hz0 hz1 hz2 rfl (by decide) _ _ _ rfl (H2.out.alloc _) ⟨W.heap.size, 0, none⟩ 1 1 (encP x) rfl rfl newsK (encP_one _) (by unfold maxLen; omega) (by omega) (by simp; omega) ?_; intro v' w2 hown' hgrow _; obtain ⟨g', cap', rfl⟩ := ownsRow_succ hown'; have KW2 : Keep (fun g => v.ownBlock = some g) W w2 := ((Keep.refl _ W).alloc _).grown hgrow (fun k e => Or.inl e); have HO2 : w2.heap[w.heap.size]? = some (Obj.cells #[v] 48 (0, 0)) := KW2.at H1.out (fun e => by have := (H2.out.lt _ e).1; omega); have cO2 : w2.cell? ⟨w.heap.size, 0, none⟩ = some v := cell_at HO2 0; have fO2 : w2.frozen? ⟨w.heap.size, 0, none⟩ = false := frozen_at HO2 0; have lO2 := lt_of_at HO2; have R1 := Lib.hid hown'; have K2 := Lib.hid KW2; have O2 := Lib.hid HO2; clear hown' hgrow KW2 HO2)
    have KS : Keep (fun g => g = w.heap.size) w2 (w2.setCell ⟨w.heap.size, 0, none⟩ (.slice (some ⟨g', 0, none⟩) (pre.length + 1) cap')) := (Keep.refl (fun g => g = w.heap.size) w2).setCell (p := ⟨w.heap.size, 0, none⟩) (Or.inl rfl) _
    have KT : Keep (fun g => g = w.heap.size ∨ v.ownBlock = some g) W (w2.setCell ⟨w.heap.size, 0, none⟩ (.slice (some ⟨g', 0, none⟩) (pre.length + 1) cap')) := (K2.out.mono (fun _ _ h => Or.inr h)).trans (KS.mono (fun _ _ h => Or.inl h))
    have hge : ∀ g, (g = w.heap.size ∨ v.ownBlock = some g) → w.heap.size ≤ g := fun g hg => by
      rcases hg with rfl | hg
      · exact Nat.le_refl _
      · have := (H2.out.lt _ hg).1; omega
    have hown2 := own_keep R1.out KS (fun g hg e => by have := (R1.out.lt g hg).1; omega)
    refine ⟨⟨_, set_at O2.out 0 _, ?_, H3.out.trans (KT.below hge (Nat.le_of_lt lO))⟩, BdS.of_keep KT (Nat.le_of_lt lO) hge (fun g hg => ?_)⟩
    · rw [List.length_append, List.flatMap_append]
      simpa using hown2
    · rcases hg with rfl | hg
      · exact ⟨_, _, _, H1.out, by decide⟩
      · obtain ⟨cur, hc⟩ := own_obj H2.out hg
        exact ⟨_, _, _, hc, by decide⟩
  case done =>
    have k1' := hBw
    clear hO hBw HIT bA bB bO k1
    rintro D W hD ⟨v, h1, h2, h3⟩ hK
    have cO : W.cell? ⟨w.heap.size, 0, none⟩ = some v := cell_at h1 0
    gi_wp2
    refine ⟨by simp, .inl ⟨_, _, rfl, run_takeDeferred hK, ?_⟩⟩
    have tm := turn_mine (K := mineT) (n0 := w.heap.size) (o' := Obj.deferred none) hK rfl (by have := lt_of_at h1; have := k1'.size; simp at *; omega)
    exact ⟨_, results_tmp rfl _ _ _, v, rfl, Rk.of_own encP_len (own_mine h2 tm.1), h3.trans tm.1.1⟩
end Go.Proofs.Ytbfclmhcoelplaa.Lp
