/-
  TABLES OF ROWS (package lcs): CONTRACTS of take.
-/
import Derived.Test.YtbfclmhcoelplaaLpTab
import Derived.BigRegion
namespace Go.Proofs.Ytbfclmhcoelplaa.Lp
open Go.RowKit Go.Proofs.Ytbfclmhcoelplaa.Cm Go.Proofs.Ytbfclmhcoelplaa.Lc Go.Proofs.Ytbfclmhcoelplaa.Lcx
set_option linter.unusedVariables false

theorem own_take {w : World} {e z n k : Nat} {ao : Option Addr} {c : Nat} {xs : List Value} (h : w.ownsRow 0 e z (.slice ao n c) n xs) (hk : k ≤ n) : w.ownsRow 0 e z (.slice ao k c) k (xs.take (k * z)) := by
  refine ⟨?_, ?_⟩
  · rw [List.length_take, h.1, Nat.min_eq_left (Nat.mul_le_mul_right _ hk)]
  · rcases h.2 with ⟨hv, hn⟩ | ⟨g, cap, cur, hv, hb, hg, h1, h2, h3, h4⟩
    · simp only [Value.slice.injEq] at hv
      obtain ⟨rfl, _, rfl⟩ := hv
      have : k = 0 := by omega
      subst this
      exact .inl ⟨rfl, rfl⟩
    · simp only [Value.slice.injEq] at hv
      obtain ⟨rfl, _, rfl⟩ := hv
      refine .inr ⟨g, c, cur, rfl, hb, hg, by omega, h2, h3, ?_⟩
      rw [← h4, List.take_take, Nat.min_eq_left (Nat.mul_le_mul_right _ hk)]
theorem run_toW {ao : Option Addr} {n c k : Nat} (hk : k ≤ n) (hn : n ≤ c) (hl : n ≤ 1000000000) (w : World) :
    (Instr.slice 99 (.slice ao n c) none (some (.int .i64 (k : Int))) none).run Try.prog w = .ok (.slice ao k c) w := by
  have u := Try.underlying99
  have hz : Try.prog.cellsOf 89 = 2 := by kernel_rfl
  have hkc : k ≤ c := by omega
  cases ao <;> go_simp
theorem run_toI {ao : Option Addr} {n c k : Nat} (hk : k ≤ n) (hn : n ≤ c) (hl : n ≤ 1000000000) (w : World) :
    (Instr.slice 22 (.slice ao n c) none (some (.int .i64 (k : Int))) none).run Try.prog w = .ok (.slice ao k c) w := by
  have u := Try.underlying22
  have hz : Try.prog.cellsOf 3 = 1 := by kernel_rfl
  have hkc : k ≤ c := by omega
  cases ao <;> go_simp
theorem run_toU {ao : Option Addr} {n c k : Nat} (hk : k ≤ n) (hn : n ≤ c) (hl : n ≤ 1000000000) (w : World) :
    (Instr.slice 95 (.slice ao n c) none (some (.int .i64 (k : Int))) none).run Try.prog w = .ok (.slice ao k c) w := by
  have u := Try.underlying95
  have hz : Try.prog.cellsOf 85 = 1 := by kernel_rfl
  have hkc : k ≤ c := by omega
  cases ao <;> go_simp
theorem row_from {S : Nat → Prop} {w0 : World} {ac : Option Addr} {cc : Nat} {d r : List (Nat × Nat)} (h : w0.ownsRow 0 89 2 (.slice ac (d ++ r).length cc) (d ++ r).length ((d ++ r).flatMap encW)) (hl : (d ++ r).length ≤ 1000000000) (hS : ∀ g, (Value.slice ac (d ++ r).length cc).ownBlock = some g → ¬ S g) :
    ∃ v, (∀ w, (Instr.slice 99 (.slice ac (d ++ r).length cc) (some (.int .i64 (d.length : Int))) none none).run Try.prog w = .ok v w) ∧ Pl S w0 v r := by
  have u := Try.underlying99
  have hz : Try.prog.cellsOf 89 = 2 := by kernel_rfl
  have hpl := Pl.of_own h hS
  have hlen : (d ++ r).length = d.length + r.length := List.length_append
  obtain ⟨ao, cap, hv, hc, hx⟩ := hpl
  simp only [Value.slice.injEq, true_and] at hv
  obtain ⟨rfl, rfl⟩ := hv
  rw [hlen] at hc hl ⊢
  rcases hx with hx | ⟨b, o, rfl, hb, hs, hcell⟩
  · have hd : d = [] := (List.append_eq_nil_iff.1 hx).1
    have hr : r = [] := (List.append_eq_nil_iff.1 hx).2
    subst hd; subst hr
    refine ⟨.slice ac 0 cc, fun w => ?_, _, _, rfl, by omega, .inl rfl⟩
    cases ac <;> go_simp
  · by_cases hic : d.length < cc
    · refine ⟨.slice (some ⟨b, o + d.length * 2, none⟩) r.length (cc - d.length), fun w => ?_, _, _, rfl, by omega, .inr ⟨b, o + d.length * 2, rfl, hb, hs, fun q x hq => ?_⟩⟩
      · have hicn : ¬ cc ≤ d.length := by omega
        have hn : ¬ cc - d.length = 0 := by omega
        have e1 : d.length + r.length - d.length = r.length := by omega
        go_simp
        rw [if_pos (by omega)]
        try rw [if_neg (by omega)]
        try simp
      · have := hcell (d.length + q) x (by rw [List.getElem?_append_right (by omega), Nat.add_sub_cancel_left]; exact hq)
        rw [show o + (d.length + q) * 2 = o + d.length * 2 + q * 2 by omega] at this
        exact this
    · have hr : r = [] := List.eq_nil_of_length_eq_zero (by omega)
      subst hr
      have e2 : d.length = cc := by simp at hc; omega
      refine ⟨.slice (some ⟨b, o, none⟩) 0 0, fun w => ?_, _, 0, rfl, Nat.le_refl _, .inl rfl⟩
      simp only [List.length_nil, Nat.add_zero] at hl ⊢
      rw [e2] at hl ⊢
      go_simp
set_option maxHeartbeats 1600000 in
theorem takeW_any (S : Nat → Prop) (T : Nat) (vc vf : Value) (rows : List (List (Nat × Nat))) (r : List (Nat × Nat)) (w : World) (h : TabW w T vc vf (rows ++ [r])) (hn : rows.length ≤ 1000000) (hf : rows.flatten.length + r.length ≤ 1000000000) (hS : ∀ g, vc.ownBlock = some g → ¬ S g) (hST : ∀ b, b = T → S b) :
    Calls Try.prog 63 #[.pointer (some ⟨T, 0, none⟩)] w fun e w' => ∃ v vc' vf', e = .returned v ∧ Pl S w' v r ∧ TabW w' T vc' vf' rows ∧ vc'.ownBlock = vc.ownBlock ∧ vf'.ownBlock = vf.ownBlock ∧ Keep (fun b => b = T) w w' := by
  obtain ⟨h1, h2, h3⟩ := h
  have e0 : (rows ++ [r]).flatten = rows.flatten ++ r := by simp
  rw [e0] at h2
  have hlen : (rows.flatten ++ r).length = rows.flatten.length + r.length := List.length_append
  have e1 : (rows ++ [r]).length = rows.length + 1 := by simp
  obtain ⟨ac, cc, rfl⟩ := own_len h2
  obtain ⟨af, cf, rfl⟩ := own_len h3
  have hT := lt_of_at h1
  obtain ⟨v, q1, p1⟩ := row_from (S := S) (w0 := w) h2 (by omega) hS
  have hcc : (rows.flatten ++ r).length ≤ cc := by
    rcases h2.2 with ⟨hv, h0⟩ | ⟨g, cap, cur, hv, _, _, h4, _⟩
    · simp only [Value.slice.injEq] at hv; omega
    · simp only [Value.slice.injEq] at hv; omega
  have hcf : (rows ++ [r]).length ≤ cf := by
    rcases h3.2 with ⟨hv, h0⟩ | ⟨g, cap, cur, hv, _, _, h4, _⟩
    · simp only [Value.slice.injEq] at hv; omega
    · simp only [Value.slice.injEq] at hv; omega
  have q2 := fun w => run_toW (ao := ac) (show rows.flatten.length ≤ (rows.flatten ++ r).length by omega) hcc (by omega) w
  have q3 := fun w => run_toI (ao := af) (show rows.length ≤ (rows ++ [r]).length by omega) hcf (by omega) w
  have o2 := own_take h2 (show rows.flatten.length ≤ (rows.flatten ++ r).length by omega)
  have o3 := own_take h3 (show rows.length ≤ (rows ++ [r]).length by omega)
  have t2 : ((rows.flatten ++ r).flatMap encW).take (rows.flatten.length * 2) = rows.flatten.flatMap encW := by
    rw [List.flatMap_append]
    have hl : ∀ l : List (Nat × Nat), (l.flatMap encW).length = l.length * 2 := fun l => by
      induction l with
      | nil => rfl
      | cons x l ih => rw [List.flatMap_cons, List.length_append, ih, encW_len, List.length_cons]; omega
    rw [List.take_append_of_le_length (by rw [hl]; exact Nat.le_refl _), List.take_of_length_le (by rw [hl]; exact Nat.le_refl _)]
  have t3 : ((offs (rows ++ [r])).map (Value.int .i64)).take (rows.length * 1) = (offs rows).map (Value.int .i64) := by
    rw [offs_snoc, List.map_append, Nat.mul_one, List.take_append_of_le_length (by rw [List.length_map, offs_len]; exact Nat.le_refl _), List.take_of_length_le (by rw [List.length_map, offs_len]; exact Nat.le_refl _)]
  rw [t2] at o2
  rw [t3] at o3
  have cf0 : w.cell? ⟨T, 0, none⟩ = some (.slice ac (rows.flatten ++ r).length cc) := cell_at h1 0
  have cf1 : w.cell? ⟨T, 1, none⟩ = some (.slice af (rows ++ [r]).length cf) := cell_at h1 1
  have ff0 := frozen_at h1 0
  have ff1 := frozen_at h1 1
  obtain ⟨g, hg, hl0⟩ : ∃ g, af = some ⟨g, 0, none⟩ ∧ w.cell? ⟨g, rows.length, none⟩ = some (.int .i64 ((rows.flatten.length : Nat) : Int)) := by
    have hr := Rz.of_own (xs := offs (rows ++ [r])) (by rw [offs_len]; exact h3)
    rcases h3.2 with ⟨hv, h0⟩ | ⟨g, cap, cur, hv, _, hgg, _⟩
    · omega
    · simp only [Value.slice.injEq] at hv
      obtain ⟨rfl, _, rfl⟩ := hv
      refine ⟨g, rfl, ?_⟩
      rw [h3.cellAt rows.length (by omega), offs_snoc, List.map_append, List.getElem?_append_right (by rw [List.length_map, offs_len]; exact Nat.le_refl _), List.length_map, offs_len, Nat.sub_self]
      rfl
  subst hg
  have ei : IntKind.i64.wrap (((rows.length + 1 : Nat) : Int) - 1) = (rows.length : Int) := by rw [IntKind.wrap_i64]; omega
  have s1 := set_at h1 0 (.slice ac rows.flatten.length cc)
  have s2 := set_at (w := w.setCell ⟨T, 0, none⟩ (.slice ac rows.flatten.length cc)) s1 1 (.slice (some ⟨g, 0, none⟩) rows.length cf)
  have kk : Keep (fun b => b = T) w ((w.setCell ⟨T, 0, none⟩ (.slice ac rows.flatten.length cc)).setCell ⟨T, 1, none⟩ (.slice (some ⟨g, 0, none⟩) rows.length cf)).drew :=
    (((Keep.refl (fun b => b = T) w).setCell (p := ⟨T, 0, none⟩) (Or.inl rfl) _).setCell (p := ⟨T, 1, none⟩) (Or.inl rfl) _).drew
  have FK := Lib.hid kk
  have FT : Hid (TabW ((w.setCell ⟨T, 0, none⟩ (.slice ac rows.flatten.length cc)).setCell ⟨T, 1, none⟩ (.slice (some ⟨g, 0, none⟩) rows.length cf)).drew T (.slice ac rows.flatten.length cc) (.slice (some ⟨g, 0, none⟩) rows.length cf) rows) :=
    Lib.hid ⟨s2, own_keep o2 kk (fun b hb e => by subst e; exact own_ne_at o2 hb h1 (by decide)), own_keep o3 kk (fun b hb e => by subst e; exact own_ne_at o3 hb h1 (by decide))⟩
  have FP : Hid (Pl S ((w.setCell ⟨T, 0, none⟩ (.slice ac rows.flatten.length cc)).setCell ⟨T, 1, none⟩ (.slice (some ⟨g, 0, none⟩) rows.length cf)).drew v r) := Lib.hid (p1.keep (kk.mono (fun b _ hb => hST b hb)))
  have cg := lit_cell hl0
  have d0 := lit_cell cf0
  have d1 := lit_cell cf1
  have q2d := q2 w.drew
  have q3d := q3 w.drew
  have tb1 : (rows.length : Int) < ((rows ++ [r]).length : Int) := by omega
  have hA : Hid ((Value.slice ac rows.flatten.length cc).ownBlock = (Value.slice ac (rows.flatten ++ r).length cc).ownBlock) := Lib.hid (by cases ac <;> rfl)
  clear h1 h2 h3 o2 o3 t2 t3 s1 s2 kk p1 hcc hcf hlen e0
  rw [e1] at *
  generalize (rows.flatten ++ r).length = N at *
  generalize rows.flatten.length = nf at *
  generalize rows.length = nr at *
  go_enter Try.func63, Try.ntmps63
  go_wp2_with fail
  go_region
  all_goals
    go_wp2_with fail
    go_ret
    exact ⟨_, _, _, rfl, FP.out, FT.out, hA.out, rfl, FK.out⟩
end Go.Proofs.Ytbfclmhcoelplaa.Lp
