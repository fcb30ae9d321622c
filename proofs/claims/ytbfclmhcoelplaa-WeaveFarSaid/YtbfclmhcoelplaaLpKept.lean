/-
  THE TABLE OF COLUMNS THAT ARE KEPT (package lcs): one column is added, and taken.
-/
import Derived.Test.YtbfclmhcoelplaaLpTake
namespace Go.Proofs.Ytbfclmhcoelplaa.Lp
open Go.RowKit Go.Proofs.Ytbfclmhcoelplaa.Cm Go.Proofs.Ytbfclmhcoelplaa.Lc Go.Proofs.Ytbfclmhcoelplaa.Lcx
set_option linter.unusedVariables false

/-- A table with one row, of W words. -/
def TabU (w : World) (K : Nat) (vc vf : Value) (W : Nat) (X : Nat → Nat) : Prop :=
  w.heap[K]? = some (.cells #[vc, vf] 104 (0, 0)) ∧ w.ownsRow 0 85 1 vc W ((List.range W).map (fun q => Value.int .u64 (X q))) ∧ (vc.ownBlock = none → W = 0) ∧ w.ownsRow 0 3 1 vf 1 [.int .i64 0]
theorem TabU.keep {S : Nat → Prop} {w w' : World} {K W : Nat} {vc vf : Value} {X : Nat → Nat} (h : TabU w K vc vf W X) (k : Keep S w w') (hS : ∀ b, St K vc vf b → ¬ S b) : TabU w' K vc vf W X :=
  ⟨k.at h.1 (hS K (Or.inl rfl)), own_keep h.2.1 k (fun g hg => hS g (Or.inr (Or.inl hg))), h.2.2.1, own_keep h.2.2.2 k (fun g hg => hS g (Or.inr (Or.inr hg)))⟩
set_option maxHeartbeats 1600000 in
theorem addU_any (K W B : Nat) (v : Value) (X : Nat → Nat) (w : World) (h : w.heap[K]? = some (.cells #[.slice none 0 0, .slice none 0 0] 104 (0, 0))) (hv : Wd w v W B X) (hW : W ≤ 1000000) :
    Calls Try.prog 51 #[.pointer (some ⟨K, 0, none⟩), v] w fun e w' => (∃ x, e = .returned x) ∧ ∃ vc' vf', TabU w' K vc' vf' W X ∧
      (∀ g, vc'.ownBlock = some g → w.heap.size ≤ g) ∧ (∀ g, vf'.ownBlock = some g → w.heap.size ≤ g) ∧ Keep (fun b => b = K) w w' := by
  have hT := lt_of_at h
  have h3' : w.drew.ownsRow 0 3 1 (.slice none 0 0) ([] : List Int).length (([] : List Int).map (Value.int .i64)) := World.ownsRow_nil _ _ _ _
  obtain ⟨vf', w1, q1, o1, g1, l1⟩ := append_i (x := 0) h3' (by simp)
  have q1' : ∀ ty, (Builtin.append_ #[22, 22] ty #[.slice none 0 0, .slice (some ⟨w.heap.size, 0, none⟩) 1 1]).run Try.prog ((w.alloc (.cells #[.int .i64 0] 3)).drew) = .ok vf' w1 := q1
  have k1 : Keep (fun _ => False) w w1 := (((Keep.refl _ w).drew).alloc _).grown g1 (fun b hb => by simp [Value.ownBlock] at hb)
  have t1 := k1.at h (fun e => e)
  have f1 := frozen_at t1 1
  have c1 : w1.cell? ⟨K, 1, none⟩ = some (.slice none 0 0) := cell_at t1 1
  have hT1 := lt_of_at t1
  have t2 := set_at t1 1 vf'
  have k2 : Keep (fun b => b = K) w1 (w1.setCell ⟨K, 1, none⟩ vf') := (Keep.refl (fun b => b = K) w1).setCell (p := ⟨K, 1, none⟩) (Or.inl rfl) _
  have k12 : Keep (fun b => b = K) w (w1.setCell ⟨K, 1, none⟩ vf') := (k1.mono (fun _ _ h => h.elim)).trans k2
  have v2 : Wd (w1.setCell ⟨K, 1, none⟩ vf') v W B X := by
    rcases hv with hv | ⟨h0, cap, cur, hv, j1, j2, j3, j4⟩
    · exact .inl hv
    · refine .inr ⟨h0, cap, cur, hv, j1, k12.at j2 (fun e => ?_), j3, j4⟩
      subst e
      rw [j2] at h
      simp only [Option.some.injEq, Obj.cells.injEq] at h
      exact absurd h.2.1 (by decide)
  have p2 : (w1.setCell ⟨K, 1, none⟩ vf').ownsRow 0 3 1 vf' 1 [.int .i64 0] := own_keep o1 k2 (fun g hg e => by
    subst e; exact own_ne_at o1 hg t1 (by decide))
  obtain ⟨vc', w3, q3, o3, g3, l3⟩ := append_u v2 hW
  have k3 : Keep (fun _ => False) (w1.setCell ⟨K, 1, none⟩ vf') w3 := (Keep.refl _ _).grown g3 (fun b hb => by cases hb)
  have t3 := k3.at t2 (fun e => e)
  have f3 := frozen_at t3 0
  have c3 : w3.cell? ⟨K, 0, none⟩ = some (.slice none 0 0) := cell_at t3 0
  have hT3 := lt_of_at t3
  have c2 : (w1.setCell ⟨K, 1, none⟩ vf').cell? ⟨K, 0, none⟩ = some (.slice none 0 0) := cell_at t2 0
  have t4 := set_at t3 0 vc'
  have k4 : Keep (fun b => b = K) w3 (w3.setCell ⟨K, 0, none⟩ vc') := (Keep.refl (fun b => b = K) w3).setCell (p := ⟨K, 0, none⟩) (Or.inl rfl) _
  have hnz : vc'.ownBlock = none → W = 0 := fun hn => by
    rcases l3 with h' | h'
    · rcases o3.2 with ⟨_, h0⟩ | ⟨g, cap, cur, hh, _⟩
      · exact h0
      · rw [hh] at hn; simp [Value.ownBlock] at hn
    · rw [h'] at hn; cases hn
  have FIN : Hid (TabU (w3.setCell ⟨K, 0, none⟩ vc') K vc' vf' W X) := Lib.hid ⟨t4, own_keep o3 k4 (fun g hg e => by
      subst e
      exact own_ne_at o3 hg t3 (by decide)), hnz, own_keep (own_keep p2 k3 (fun _ _ e => e)) k4 (fun g hg e => by
      subst e
      exact own_ne_at (own_keep p2 k3 (fun _ _ e => e)) hg t3 (by decide))⟩
  have FK : Hid (Keep (fun b => b = K) w (w3.setCell ⟨K, 0, none⟩ vc')) := Lib.hid ((k12.trans (k3.mono (fun _ _ h => h.elim))).trans k4)
  have FL1 : Hid (∀ g, vc'.ownBlock = some g → w.heap.size ≤ g) := Lib.hid (fun g hg => by
    rcases l3 with h' | h'
    · rw [h'] at hg; simp [Value.ownBlock] at hg
    · rw [h'] at hg; cases hg; exact k12.size)
  have FL2 : Hid (∀ g, vf'.ownBlock = some g → w.heap.size ≤ g) := Lib.hid (fun g hg => by
    rcases l1 with h' | h'
    · rw [h'] at hg; simp [Value.ownBlock] at hg
    · rw [h'] at hg; cases hg; show w.heap.size ≤ w.heap.size + 1; omega)
  have d0 : w.cell? ⟨K, 0, none⟩ = some (.slice none 0 0) := cell_at h 0
  have d1 : w.cell? ⟨K, 1, none⟩ = some (.slice none 0 0) := cell_at h 1
  obtain ⟨af', cf', hvf⟩ := own_len p2
  obtain ⟨ac', cc', hvc⟩ := own_len o3
  obtain ⟨av, cv, rfl⟩ := hv.len
  clear hnz
  clear h h3' q1 o1 g1 l1 k1 t1 t2 k2 k12 v2 p2 o3 g3 l3 k3 t3 t4 k4 hv
  subst hvf
  subst hvc
  go_enter Try.func51, Try.ntmps51
  go_wp2_with fail
  go_region_law (first
    | (refine step_append_run rfl (.tmp 8) (.tmp 14) _ _ rfl _ _ rfl rfl _ _ q1' ?_))
  all_goals
    go_wp2_with (at_builtin; refine Lib.wpList_append_run _ rfl (.tmp 22) (.tmp 23) _ _ rfl _ _ rfl rfl _ _ (q3 _) ?_)
    go_end0
    exact ⟨⟨_, rfl⟩, _, _, FIN.out, FL1.out, FL2.out, FK.out⟩

theorem fromU {w : World} {v : Value} {W : Nat} {X : Nat → Nat} (h : w.ownsRow 0 85 1 v W ((List.range W).map (fun q => Value.int .u64 (X q)))) (hl : W ≤ 1000000) (h0 : v.ownBlock = none → W = 0) :
    ∃ v' g, (∀ w, (Instr.slice 95 v (some (.int .i64 0)) none none).run Try.prog w = .ok v' w) ∧ (∀ w', w'.ownsRow 0 85 1 v W ((List.range W).map (fun q => Value.int .u64 (X q))) → Wd w' v' W g X) ∧ (0 < W → v.ownBlock = some g) := by
  have u := Try.underlying95
  have hz : Try.prog.cellsOf 85 = 1 := by kernel_rfl
  rcases h.2 with ⟨rfl, rfl⟩ | ⟨g, cap, cur, rfl, hb, hg, h1, h2, h3, h4⟩
  · refine ⟨.slice none 0 0, 0, fun w => ?_, fun w' h' => .inl ⟨rfl, _, _, rfl⟩, fun h => absurd h (Nat.lt_irrefl _)⟩
    go_simp
  · by_cases hW : W = 0
    · subst hW
      refine ⟨.slice (some ⟨g, 0, none⟩) 0 cap, g, fun w => ?_, fun w' h' => .inl ⟨rfl, _, _, rfl⟩, fun _ => rfl⟩
      go_simp
    · refine ⟨.slice (some ⟨g, 0, none⟩) W cap, g, fun w => ?_, fun w' h' => ?_, fun _ => rfl⟩
      · have hc : ¬ cap = 0 := by omega
        go_simp
      · rcases h'.2 with ⟨hv, _⟩ | ⟨g', cap', cur', hv, _, hg', k1, k2, k3, k4⟩
        · simp at hv
        · simp only [Value.slice.injEq, Option.some.injEq, Addr.mk.injEq, and_true, true_and] at hv
          obtain ⟨rfl, rfl⟩ := hv
          refine .inr ⟨by omega, cap, cur', rfl, h1, hg', by omega, fun q hq => ?_⟩
          have h8 := h'.cellAt q (by omega)
          rw [cell_at hg' q] at h8
          rw [h8, List.getElem?_map, List.getElem?_range hq]
          rfl
set_option maxHeartbeats 1600000 in
theorem takeU_any (K W : Nat) (vc vf : Value) (X : Nat → Nat) (w : World) (h : TabU w K vc vf W X) (hW : W ≤ 1000000) :
    Calls Try.prog 61 #[.pointer (some ⟨K, 0, none⟩)] w fun e w' => ∃ v g, e = .returned v ∧ Wd w' v W g X ∧ (0 < W → vc.ownBlock = some g) ∧ Keep (fun b => b = K) w w' ∧ ∃ c, w'.heap[K]? = some (.cells c 104 (0, 0)) := by
  obtain ⟨h1, h2, h20, h3⟩ := h
  obtain ⟨v, gg, q1, p1, p2⟩ := fromU h2 hW h20
  obtain ⟨ac, cc, rfl⟩ := own_len h2
  obtain ⟨af, cf, rfl⟩ := own_len h3
  have hT := lt_of_at h1
  have hcc : W ≤ cc := by
    rcases h2.2 with ⟨hv, h0⟩ | ⟨g, cap, cur, hv, _, _, h4, _⟩
    · simp only [Value.slice.injEq] at hv; omega
    · simp only [Value.slice.injEq] at hv; omega
  have hcf : 1 ≤ cf := by
    rcases h3.2 with ⟨hv, h0⟩ | ⟨g, cap, cur, hv, _, _, h4, _⟩
    · simp only [Value.slice.injEq] at hv; omega
    · simp only [Value.slice.injEq] at hv; omega
  have q2 := fun w => run_toU (ao := ac) (Nat.zero_le W) hcc (by omega) w
  have q3 := fun w => run_toI (ao := af) (Nat.zero_le 1) hcf (by omega) w
  have cf0 : w.cell? ⟨K, 0, none⟩ = some (.slice ac W cc) := cell_at h1 0
  have cf1 : w.cell? ⟨K, 1, none⟩ = some (.slice af 1 cf) := cell_at h1 1
  have ff0 := frozen_at h1 0
  have ff1 := frozen_at h1 1
  obtain ⟨g, hg, hl0⟩ : ∃ g, af = some ⟨g, 0, none⟩ ∧ w.cell? ⟨g, 0, none⟩ = some (.int .i64 0) := by
    rcases h3.2 with ⟨hv, h0⟩ | ⟨g, cap, cur, hv, _, hgg, _⟩
    · omega
    · simp only [Value.slice.injEq] at hv
      obtain ⟨rfl, _, rfl⟩ := hv
      exact ⟨g, rfl, h3.cellAt 0 (by omega)⟩
  subst hg
  have kk : Keep (fun b => b = K) w ((w.setCell ⟨K, 0, none⟩ (.slice ac 0 cc)).setCell ⟨K, 1, none⟩ (.slice (some ⟨g, 0, none⟩) 0 cf)).drew :=
    (((Keep.refl (fun b => b = K) w).setCell (p := ⟨K, 0, none⟩) (Or.inl rfl) _).setCell (p := ⟨K, 1, none⟩) (Or.inl rfl) _).drew
  have FK := Lib.hid kk
  have FP : Hid (Wd ((w.setCell ⟨K, 0, none⟩ (.slice ac 0 cc)).setCell ⟨K, 1, none⟩ (.slice (some ⟨g, 0, none⟩) 0 cf)).drew v W gg X) := Lib.hid (p1 _ (own_keep h2 kk (fun b hb e => by subst e; exact own_ne_at h2 hb h1 (by decide))))
  have P2 := Lib.hid p2
  have FC : Hid (∃ c, ((w.setCell ⟨K, 0, none⟩ (.slice ac 0 cc)).setCell ⟨K, 1, none⟩ (.slice (some ⟨g, 0, none⟩) 0 cf)).drew.heap[K]? = some (.cells c 104 (0, 0))) := Lib.hid ⟨_, set_at (set_at h1 0 _) 1 _⟩
  have q2' : ∀ w, (Instr.slice 95 (.slice ac W cc) none (some (.int .i64 0)) none).run Try.prog w = .ok (.slice ac 0 cc) w := q2
  have q3' : ∀ w, (Instr.slice 22 (.slice (some ⟨g, 0, none⟩) 1 cf) none (some (.int .i64 0)) none).run Try.prog w = .ok (.slice (some ⟨g, 0, none⟩) 0 cf) w := q3
  clear h1 h2 h3 h20 kk p1 p2 hcc hcf q2 q3
  go_enter Try.func61, Try.ntmps61
  go_wp2_with fail
  go_region
  all_goals
    go_wp2_with fail
    go_ret
    exact ⟨_, _, rfl, FP.out, P2.out, FK.out, FC.out⟩
end Go.Proofs.Ytbfclmhcoelplaa.Lp
