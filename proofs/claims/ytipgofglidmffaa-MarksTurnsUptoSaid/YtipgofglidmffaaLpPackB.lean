/-
  CONTRACTS of on and counts (package lcs): the walk goes to the next column.
-/
import Derived.Test.YtipgofglidmffaaLpPackA
import Derived.BigRegion
import Derived.Test.YtipgofglidmffaaShelf
import Derived.Test.YtipgofglidmffaaCmInt
import Derived.Test.YtipgofglidmffaaLcPlain
namespace Go.Proofs.Ytipgofglidmffaa.Lp
open Go.RowKit Go.Proofs.Ytipgofglidmffaa.Cm Go.Proofs.Ytipgofglidmffaa.Lc Go.Proofs.Ytipgofglidmffaa.Lcx
set_option linter.unusedVariables false

/-! ### append of a row of the call's own: its run -/
theorem append_empty {w : World} {B e z n : Nat} {t : TypeId} {v : Value} {xs : List Value} {i0 : TypeInfo} (ht : Try.prog.underlying t = some (.slice e)) (hi : Try.prog.info? e = some i0) (h : w.ownsRow B e z v n xs) (ty : TypeId) (ao : Option Addr) (c : Nat) :
    (Builtin.append_ #[t, t] ty #[v, .slice ao 0 c]).run Try.prog w = .ok v w := by
  rcases h.2 with ⟨rfl, rfl⟩ | ⟨g, cap, cur, rfl, _, _, hnc, _⟩
  · cases ao <;> simp [Builtin.append_, run_underlying ht, sizeOf, typeInfo, hi, Builtin.lenOf, Builtin.firstCells, loadCells, loadCellsFrom]
  · cases ao <;> simp [Builtin.append_, run_underlying ht, sizeOf, typeInfo, hi, Builtin.lenOf, Builtin.firstCells, hnc, storeCells, loadCells, loadCellsFrom]
theorem append_w {w : World} {v u : Value} {os ys : List (Nat × Nat)} (h : w.ownsRow 0 142 2 v os.length (os.flatMap encW)) (hu : w.ownsRow 0 142 2 u ys.length (ys.flatMap encW)) (hs : os.length + ys.length ≤ 1000000000) :
    ∃ v' w', (∀ ty, (Builtin.append_ #[152, 152] ty #[v, u]).run Try.prog w = .ok v' w') ∧ w'.ownsRow 0 142 2 v' (os ++ ys).length ((os ++ ys).flatMap encW) ∧ w.grownBy w' v.ownBlock ∧ (v'.ownBlock = v.ownBlock ∨ v'.ownBlock = some w.heap.size) := by
  obtain ⟨i0, hi, hz0, hz1, hz2⟩ := info_parts infoW
  have ht := Try.underlying152
  by_cases h0 : ys = []
  · subst h0
    obtain ⟨ao, c, rfl⟩ := own_len hu
    refine ⟨v, w, fun ty => append_empty ht hi h ty ao c, by rw [List.append_nil]; exact h, ⟨rfl, rfl, rfl, Nat.le_refl _, fun k _ _ => rfl⟩, Or.inl rfl⟩
  · have hp : 0 < ys.length := List.length_pos_iff.2 h0
    rcases hu.2 with ⟨_, hx⟩ | ⟨g, cap, cur, rfl, _, _⟩
    · omega
    obtain ⟨v', w', h1, h2, h3, _, h5⟩ := run_append_own_at (P := Try.prog) w 0 152 0 142 i0 (.agg #[.int .i64 0, .int .u64 0]) 2 16 ht hi hz0 hz1 hz2 rfl (by decide) v os.length (os.flatMap encW) h ⟨g, 0, none⟩ ys.length cap (ys.flatMap encW) (by have := hu.1; exact this) (hu.cells rfl) (fun x hx => by
      obtain ⟨p, _, hp⟩ := List.mem_flatMap.1 hx
      exact encW_one p x hp) (by unfold maxLen; omega) (by omega) (Nat.zero_le _)
    refine ⟨v', w', fun ty => h1, ?_, h3, h5⟩
    rw [List.length_append, List.flatMap_append]
    exact h2
theorem append_i {w : World} {v : Value} {os : List Int} {x : Int} (h : w.ownsRow 0 3 1 v os.length (os.map (Value.int .i64))) (hs : os.length ≤ 1000000000) :
    ∃ v' w', (∀ ty, (Builtin.append_ #[56, 56] ty #[v, .slice (some ⟨w.heap.size, 0, none⟩) 1 1]).run Try.prog (w.alloc (.cells #[.int .i64 x] 3)) = .ok v' w') ∧ w'.ownsRow 0 3 1 v' (os ++ [x]).length ((os ++ [x]).map (Value.int .i64)) ∧ (w.alloc (.cells #[.int .i64 x] 3)).grownBy w' v.ownBlock ∧ (v'.ownBlock = v.ownBlock ∨ v'.ownBlock = some (w.heap.size + 1)) := by
  obtain ⟨i0, hi, hz0, hz1, hz2⟩ := info_parts infoI
  obtain ⟨v', w', h1, h2, h3, _, h5⟩ := run_append_own_at (P := Try.prog) (w.alloc (.cells #[.int .i64 x] 3)) 0 56 0 3 i0 (.int .i64 0) 1 8 Try.underlying56 hi hz0 hz1 hz2 rfl (by decide) v os.length (os.map (Value.int .i64)) (h.alloc _) ⟨w.heap.size, 0, none⟩ 1 1 [.int .i64 x] rfl newsI1 newsI2 (by unfold maxLen; omega) (by omega) (Nat.zero_le _)
  refine ⟨v', w', fun ty => h1, ?_, h3, by simpa using h5⟩
  rw [List.length_append, List.map_append]
  exact h2
theorem append_u {w : World} {u : Value} {W B : Nat} {X : Nat → Nat} (hu : Wd w u W B X) (hW : W ≤ 1000000) :
    ∃ v' w', (∀ ty, (Builtin.append_ #[148, 148] ty #[.slice none 0 0, u]).run Try.prog w = .ok v' w') ∧ w'.ownsRow 0 117 1 v' W ((List.range W).map (fun q => Value.int .u64 (X q))) ∧ w.grownBy w' none ∧ (v' = .slice none 0 0 ∨ v'.ownBlock = some w.heap.size) := by
  obtain ⟨i0, hi, hz0, hz1, hz2⟩ := info_parts infoU
  have ht := Try.underlying148
  have h := World.ownsRow_nil w 0 117 1
  rcases hu with ⟨rfl, ao, c, rfl⟩ | ⟨h0, cap, cur, rfl, h1, h2, h3, h4⟩
  · exact ⟨_, w, fun ty => append_empty ht hi h ty ao c, h, ⟨rfl, rfl, rfl, Nat.le_refl _, fun k _ _ => rfl⟩, Or.inl rfl⟩
  · obtain ⟨v', w', k1, k2, k3, _, k5⟩ := run_append_own_at (P := Try.prog) w 0 148 0 117 i0 (.int .u64 0) 1 8 ht hi hz0 hz1 hz2 rfl (by decide) (.slice none 0 0) 0 [] h ⟨B, 0, none⟩ W cap ((List.range W).map (fun q => Value.int .u64 (X q))) (by simp) (fun j x hx => by
      have hj : j < W := by have := (List.getElem?_eq_some_iff.1 hx).1; simpa using this
      rw [List.getElem?_map, List.getElem?_range hj] at hx
      have e : (Addr.add ⟨B, 0, none⟩ j) = ⟨B, j, none⟩ := by
        unfold Addr.add
        by_cases h : j = 0
        · subst h; rfl
        · rw [if_neg h]; simp
      rw [e, cell_at h2 j, h4 j hj]
      simpa using hx) (fun x hx => by
      obtain ⟨q, _, rfl⟩ := List.mem_map.1 hx
      rfl) (by unfold maxLen; omega) (by omega) (Nat.zero_le _)
    refine ⟨v', w', fun ty => k1, by simpa using k2, k3, ?_⟩
    rcases k5 with k5 | k5
    · rcases k2.2 with ⟨hv, _⟩ | ⟨g, cap', cur', hv, _⟩
      · exact Or.inl hv
      · rw [hv] at k5; simp [Value.ownBlock] at k5
    · exact Or.inr k5

/-! ### Tables -/
def offs (rows : List (List (Nat × Nat))) : List Int := (List.range rows.length).map (fun i => (((rows.take i).flatten.length : Nat) : Int))
theorem offs_len (rows : List (List (Nat × Nat))) : (offs rows).length = rows.length := by simp [offs]
theorem offs_snoc (rows : List (List (Nat × Nat))) (r : List (Nat × Nat)) : offs (rows ++ [r]) = offs rows ++ [((rows.flatten.length : Nat) : Int)] := by
  unfold offs
  rw [List.length_append, List.length_singleton, List.range_succ, List.map_append]
  congr 1
  · refine List.map_congr_left (fun i hi => ?_)
    have : i < rows.length := List.mem_range.1 hi
    rw [List.take_append_of_le_length (by omega)]
  · simp
/-- A table of rows of words. -/
def TabW (w : World) (T : Nat) (vc vf : Value) (rows : List (List (Nat × Nat))) : Prop :=
  w.heap[T]? = some (.cells #[vc, vf] 164 (0, 0)) ∧ w.ownsRow 0 142 2 vc rows.flatten.length (rows.flatten.flatMap encW) ∧ w.ownsRow 0 3 1 vf rows.length ((offs rows).map (Value.int .i64))
/-- What a table's blocks are. -/
def St (T : Nat) (vc vf : Value) : Nat → Prop := fun b => b = T ∨ vc.ownBlock = some b ∨ vf.ownBlock = some b
theorem TabW.keep {S : Nat → Prop} {w w' : World} {T : Nat} {vc vf : Value} {rows : List (List (Nat × Nat))} (h : TabW w T vc vf rows) (k : Keep S w w') (hS : ∀ b, St T vc vf b → ¬ S b) : TabW w' T vc vf rows :=
  ⟨k.at h.1 (hS T (Or.inl rfl)), own_keep h.2.1 k (fun g hg => hS g (Or.inr (Or.inl hg))), own_keep h.2.2 k (fun g hg => hS g (Or.inr (Or.inr hg)))⟩
theorem newTableW_any (w : World) : Calls Try.prog 85 #[] w fun e w' => e = .returned (.pointer (some ⟨w.heap.size, 0, none⟩)) ∧ TabW w' w.heap.size (.slice none 0 0) (.slice none 0 0) [] ∧ Keep (fun _ => False) w w' := by
  go_enter Try.func85, Try.ntmps85
  go_wp2_with fail
  go_ret
  exact ⟨rfl, ⟨alloc_new w _, World.ownsRow_nil _ _ _ _, World.ownsRow_nil _ _ _ _⟩, keep_alloc w _⟩
theorem newTableU_any (w : World) : Calls Try.prog 84 #[] w fun e w' => e = .returned (.pointer (some ⟨w.heap.size, 0, none⟩)) ∧ w'.heap[w.heap.size]? = some (.cells #[.slice none 0 0, .slice none 0 0] 162 (0, 0)) ∧ Keep (fun _ => False) w w' := by
  go_enter Try.func84, Try.ntmps84
  go_wp2_with fail
  go_ret
  exact ⟨rfl, alloc_new w _, keep_alloc w _⟩

theorem own_ne {w : World} {B B' e e' z z' n n' g : Nat} {v v' : Value} {xs xs' : List Value} (h : w.ownsRow B e z v n xs) (h' : w.ownsRow B' e' z' v' n' xs') (hg : v.ownBlock = some g) (hg' : v'.ownBlock = some g) (he : e ≠ e') : False := by
  obtain ⟨c, hc⟩ := own_obj h hg
  obtain ⟨c', hc'⟩ := own_obj h' hg'
  rw [hc] at hc'
  simp only [Option.some.injEq, Obj.cells.injEq] at hc'
  exact he hc'.2.1
theorem own_ne_at {w : World} {B e z n g : Nat} {v : Value} {xs : List Value} {c : Array Value} {t : TypeId} (h : w.ownsRow B e z v n xs) (hg : v.ownBlock = some g) (ht : w.heap[g]? = some (.cells c t (0, 0))) (he : e ≠ t) : False := by
  obtain ⟨c', hc⟩ := own_obj h hg
  rw [hc] at ht
  simp only [Option.some.injEq, Obj.cells.injEq] at ht
  exact he ht.2.1
set_option maxHeartbeats 1600000 in
theorem addW_any (T : Nat) (vc vf vr : Value) (rows : List (List (Nat × Nat))) (r : List (Nat × Nat)) (w : World) (h : TabW w T vc vf rows) (hr : w.ownsRow 0 142 2 vr r.length (r.flatMap encW)) (hn : rows.length ≤ 1000000) (hf : rows.flatten.length + r.length ≤ 1000000000) :
    Calls Try.prog 101 #[.pointer (some ⟨T, 0, none⟩), vr] w fun e w' => (∃ x, e = .returned x) ∧ ∃ vc' vf', TabW w' T vc' vf' (rows ++ [r]) ∧
      (vc'.ownBlock = vc.ownBlock ∨ ∃ g, vc'.ownBlock = some g ∧ w.heap.size ≤ g) ∧ (vf'.ownBlock = vf.ownBlock ∨ ∃ g, vf'.ownBlock = some g ∧ w.heap.size ≤ g) ∧ Keep (St T vc vf) w w' := by
  obtain ⟨h1, h2, h3⟩ := h
  obtain ⟨ac, cc, rfl⟩ := own_len h2
  obtain ⟨af, cf, rfl⟩ := own_len h3
  have hT := lt_of_at h1
  have h3' : w.drew.ownsRow 0 3 1 (.slice af rows.length cf) (offs rows).length ((offs rows).map (Value.int .i64)) := by rw [offs_len]; exact h3
  obtain ⟨vf', w1, q1, o1, g1, l1⟩ := append_i (x := ((rows.flatten.length : Nat) : Int)) h3' (by rw [offs_len]; omega)
  obtain ⟨af', cf', rfl⟩ := own_len o1
  generalize hvf : Value.slice af' (offs rows ++ [((rows.flatten.length : Nat) : Int)]).length cf' = vf' at *
  have q1' : ∀ ty, (Builtin.append_ #[56, 56] ty #[.slice af rows.length cf, .slice (some ⟨w.heap.size, 0, none⟩) 1 1]).run Try.prog ((w.alloc (.cells #[.int .i64 ((rows.flatten.length : Nat) : Int)] 3)).drew) = .ok vf' w1 := q1
  have hfT : ∀ g, (Value.slice af rows.length cf).ownBlock = some g → g ≠ T := fun g hg e => by
    subst e; exact own_ne_at h3 hg h1 (by decide)
  have hcT : ∀ g, (Value.slice ac rows.flatten.length cc).ownBlock = some g → g ≠ T := fun g hg e => by
    subst e; exact own_ne_at h2 hg h1 (by decide)
  have k1 : Keep (fun b => (Value.slice af rows.length cf).ownBlock = some b) w w1 := (((Keep.refl _ w).drew).alloc _).grown g1 (fun b hb => Or.inl hb)
  have t1 := k1.at h1 (fun e => hfT T e rfl)
  have f1 := frozen_at t1 1
  have c1 : w1.cell? ⟨T, 1, none⟩ = some (.slice af rows.length cf) := cell_at t1 1
  have hT1 := lt_of_at t1
  have t2 := set_at t1 1 vf'
  have k2 : Keep (fun b => b = T) w1 (w1.setCell ⟨T, 1, none⟩ vf') := (Keep.refl (fun b => b = T) w1).setCell (p := ⟨T, 1, none⟩) (Or.inl rfl) _
  have r2 : (w1.setCell ⟨T, 1, none⟩ vf').ownsRow 0 142 2 vr r.length (r.flatMap encW) := own_keep (own_keep hr k1 (fun g hg e => own_ne hr h3 hg e (by decide))) k2 (fun g hg e => by
    subst e; exact own_ne_at (own_keep hr k1 (fun g hg e => own_ne hr h3 hg e (by decide))) hg t1 (by decide))
  have s2 : (w1.setCell ⟨T, 1, none⟩ vf').ownsRow 0 142 2 (.slice ac rows.flatten.length cc) rows.flatten.length (rows.flatten.flatMap encW) := own_keep (own_keep h2 k1 (fun g hg e => own_ne h2 h3 hg e (by decide))) k2 (fun g hg e => hcT g hg e)
  have p2 : (w1.setCell ⟨T, 1, none⟩ vf').ownsRow 0 3 1 vf' (rows ++ [r]).length ((offs (rows ++ [r])).map (Value.int .i64)) := by
    rw [offs_snoc]
    have e : (rows ++ [r]).length = (offs rows ++ [((rows.flatten.length : Nat) : Int)]).length := by simp [offs_len]
    rw [e]
    refine own_keep o1 k2 (fun g hg e => ?_)
    subst e
    exact own_ne_at o1 hg t1 (by decide)
  obtain ⟨vc', w3, q3, o3, g3, l3⟩ := append_w s2 r2 hf
  have k3 : Keep (fun b => (Value.slice ac rows.flatten.length cc).ownBlock = some b) (w1.setCell ⟨T, 1, none⟩ vf') w3 := (Keep.refl _ _).grown g3 (fun b hb => Or.inl hb)
  have t3 := k3.at t2 (fun e => hcT T e rfl)
  have f3 := frozen_at t3 0
  have c3 : w3.cell? ⟨T, 0, none⟩ = some (.slice ac rows.flatten.length cc) := cell_at t3 0
  have hT3 := lt_of_at t3
  have c2 : (w1.setCell ⟨T, 1, none⟩ vf').cell? ⟨T, 0, none⟩ = some (.slice ac rows.flatten.length cc) := cell_at t2 0
  obtain ⟨ac', cc', hvc⟩ := own_len o3
  have t4 := set_at t3 0 vc'
  have k4 : Keep (fun b => b = T) w3 (w3.setCell ⟨T, 0, none⟩ vc') := (Keep.refl (fun b => b = T) w3).setCell (p := ⟨T, 0, none⟩) (Or.inl rfl) _
  have FIN : Hid (TabW (w3.setCell ⟨T, 0, none⟩ vc') T vc' vf' (rows ++ [r])) := Lib.hid ⟨t4, by
      have e : (rows ++ [r]).flatten = rows.flatten ++ r := by simp
      rw [e]
      refine own_keep o3 k4 (fun g hg e => ?_)
      subst e
      exact own_ne_at o3 hg t3 (by decide), own_keep (own_keep p2 k3 (fun g hg e => own_ne p2 s2 hg e (by decide))) k4 (fun g hg e => by
      subst e
      exact own_ne_at (own_keep p2 k3 (fun g hg e => own_ne p2 s2 hg e (by decide))) hg t3 (by decide))⟩
  have FK : Hid (Keep (St T (.slice ac rows.flatten.length cc) (.slice af rows.length cf)) w (w3.setCell ⟨T, 0, none⟩ vc')) := Lib.hid
    ((((k1.mono (fun b _ h => Or.inr (Or.inr h))).trans (k2.mono (fun b _ h => Or.inl h))).trans (k3.mono (fun b _ h => Or.inr (Or.inl h)))).trans (k4.mono (fun b _ h => Or.inl h)))
  have FL1 : Hid (vc'.ownBlock = (Value.slice ac rows.flatten.length cc).ownBlock ∨ ∃ g, vc'.ownBlock = some g ∧ w.heap.size ≤ g) := Lib.hid (by
    rcases l3 with h | h
    · exact Or.inl h
    · exact Or.inr ⟨_, h, Nat.le_trans k1.size k2.size⟩)
  have FL2 : Hid (vf'.ownBlock = (Value.slice af rows.length cf).ownBlock ∨ ∃ g, vf'.ownBlock = some g ∧ w.heap.size ≤ g) := Lib.hid (by
    rcases l1 with h | h
    · exact Or.inl h
    · exact Or.inr ⟨_, h, by show w.heap.size ≤ w.heap.size + 1; omega⟩)
  have d0 : w.cell? ⟨T, 0, none⟩ = some (.slice ac rows.flatten.length cc) := cell_at h1 0
  have d1 : w.cell? ⟨T, 1, none⟩ = some (.slice af rows.length cf) := cell_at h1 1
  obtain ⟨ar, cr, rfl⟩ := own_len hr
  clear h1 h2 h3 h3' q1 o1 g1 l1 k1 t1 t2 k2 r2 s2 p2 o3 g3 l3 k3 t3 t4 k4 hr hfT hcT
  subst hvf
  subst hvc
  generalize (offs rows ++ [((rows.flatten.length : Nat) : Int)]).length = nfn at *
  generalize (rows.flatten ++ r).length = ncn at *
  generalize rows.flatten.length = nf at *
  generalize rows.length = nr at *
  go_enter Try.func101, Try.ntmps101
  go_wp2_with fail
  go_region_law (first
    | (refine step_append_run rfl (.tmp 8) (.tmp 14) _ _ rfl _ _ rfl rfl _ _ q1' ?_))
  all_goals
    go_wp2_with (at_builtin; refine Lib.wpList_append_run _ rfl (.tmp 22) (.tmp 23) _ _ rfl _ _ rfl rfl _ _ (q3 _) ?_)
    go_end0
    exact ⟨⟨_, rfl⟩, _, _, FIN.out, FL1.out, FL2.out, FK.out⟩
end Go.Proofs.Ytipgofglidmffaa.Lp

namespace Go.Proofs.Ytipgofglidmffaa.Lp
open Go.RowKit Go.Proofs.Ytipgofglidmffaa.Cm Go.Proofs.Ytipgofglidmffaa.Lc Go.Proofs.Ytipgofglidmffaa.Lcx
set_option linter.unusedVariables false

theorem own_take {w : World} {e z n k : Nat} {ao : Option Addr} {c : Nat} {xs : List Value} (h : w.ownsRow 0 e z (.slice ao n c) n xs) (hk : k ≤ n) : w.ownsRow 0 e z (.slice ao k c) k (xs.take (k * z)) := by
  refine ⟨?_, ?_⟩
  · rw [List.length_take, h.1, Nat.min_eq_left (Nat.mul_le_mul_right _ hk)]
  · rcases h.2 with ⟨hv, hn⟩ | ⟨g, cap, cur, hv, hb, hg, h1, h2, h3, h4⟩
    · simp only [Value.slice.injEq] at hv
      obtain ⟨rfl, _, rfl⟩ := hv
      have : k = 0 := by omega
      subst this
      exact .inl ⟨rfl, rfl⟩
    · simp only [Value.slice.injEq] at hv
      obtain ⟨rfl, _, rfl⟩ := hv
      refine .inr ⟨g, c, cur, rfl, hb, hg, by omega, h2, h3, ?_⟩
      rw [← h4, List.take_take, Nat.min_eq_left (Nat.mul_le_mul_right _ hk)]
theorem run_toW {ao : Option Addr} {n c k : Nat} (hk : k ≤ n) (hn : n ≤ c) (hl : n ≤ 1000000000) (w : World) :
    (Instr.slice 152 (.slice ao n c) none (some (.int .i64 (k : Int))) none).run Try.prog w = .ok (.slice ao k c) w := by
  have u := Try.underlying152
  have hz : Try.prog.cellsOf 142 = 2 := by kernel_rfl
  have hkc : k ≤ c := by omega
  cases ao <;> go_simp
theorem run_toI {ao : Option Addr} {n c k : Nat} (hk : k ≤ n) (hn : n ≤ c) (hl : n ≤ 1000000000) (w : World) :
    (Instr.slice 56 (.slice ao n c) none (some (.int .i64 (k : Int))) none).run Try.prog w = .ok (.slice ao k c) w := by
  have u := Try.underlying56
  have hz : Try.prog.cellsOf 3 = 1 := by kernel_rfl
  have hkc : k ≤ c := by omega
  cases ao <;> go_simp
theorem run_toU {ao : Option Addr} {n c k : Nat} (hk : k ≤ n) (hn : n ≤ c) (hl : n ≤ 1000000000) (w : World) :
    (Instr.slice 148 (.slice ao n c) none (some (.int .i64 (k : Int))) none).run Try.prog w = .ok (.slice ao k c) w := by
  have u := Try.underlying148
  have hz : Try.prog.cellsOf 117 = 1 := by kernel_rfl
  have hkc : k ≤ c := by omega
  cases ao <;> go_simp
theorem row_from {S : Nat → Prop} {w0 : World} {ac : Option Addr} {cc : Nat} {d r : List (Nat × Nat)} (h : w0.ownsRow 0 142 2 (.slice ac (d ++ r).length cc) (d ++ r).length ((d ++ r).flatMap encW)) (hl : (d ++ r).length ≤ 1000000000) (hS : ∀ g, (Value.slice ac (d ++ r).length cc).ownBlock = some g → ¬ S g) :
    ∃ v, (∀ w, (Instr.slice 152 (.slice ac (d ++ r).length cc) (some (.int .i64 (d.length : Int))) none none).run Try.prog w = .ok v w) ∧ Pl S w0 v r := by
  have u := Try.underlying152
  have hz : Try.prog.cellsOf 142 = 2 := by kernel_rfl
  have hpl := Pl.of_own h hS
  have hlen : (d ++ r).length = d.length + r.length := List.length_append
  obtain ⟨ao, cap, hv, hc, hx⟩ := hpl
  simp only [Value.slice.injEq, true_and] at hv
  obtain ⟨rfl, rfl⟩ := hv
  rw [hlen] at hc hl ⊢
  rcases hx with hx | ⟨b, o, rfl, hb, hs, hcell⟩
  · have hd : d = [] := (List.append_eq_nil_iff.1 hx).1
    have hr : r = [] := (List.append_eq_nil_iff.1 hx).2
    subst hd; subst hr
    refine ⟨.slice ac 0 cc, fun w => ?_, _, _, rfl, by omega, .inl rfl⟩
    cases ac <;> go_simp
  · by_cases hic : d.length < cc
    · refine ⟨.slice (some ⟨b, o + d.length * 2, none⟩) r.length (cc - d.length), fun w => ?_, _, _, rfl, by omega, .inr ⟨b, o + d.length * 2, rfl, hb, hs, fun q x hq => ?_⟩⟩
      · have hicn : ¬ cc ≤ d.length := by omega
        have hn : ¬ cc - d.length = 0 := by omega
        have e1 : d.length + r.length - d.length = r.length := by omega
        go_simp
        rw [if_pos (by omega)]
        try rw [if_neg (by omega)]
        try simp
      · have := hcell (d.length + q) x (by rw [List.getElem?_append_right (by omega), Nat.add_sub_cancel_left]; exact hq)
        rw [show o + (d.length + q) * 2 = o + d.length * 2 + q * 2 by omega] at this
        exact this
    · have hr : r = [] := List.eq_nil_of_length_eq_zero (by omega)
      subst hr
      have e2 : d.length = cc := by simp at hc; omega
      refine ⟨.slice (some ⟨b, o, none⟩) 0 0, fun w => ?_, _, 0, rfl, Nat.le_refl _, .inl rfl⟩
      simp only [List.length_nil, Nat.add_zero] at hl ⊢
      rw [e2] at hl ⊢
      go_simp
set_option maxHeartbeats 1600000 in
theorem takeW_any (S : Nat → Prop) (T : Nat) (vc vf : Value) (rows : List (List (Nat × Nat))) (r : List (Nat × Nat)) (w : World) (h : TabW w T vc vf (rows ++ [r])) (hn : rows.length ≤ 1000000) (hf : rows.flatten.length + r.length ≤ 1000000000) (hS : ∀ g, vc.ownBlock = some g → ¬ S g) (hST : ∀ b, b = T → S b) :
    Calls Try.prog 102 #[.pointer (some ⟨T, 0, none⟩)] w fun e w' => ∃ v vc' vf', e = .returned v ∧ Pl S w' v r ∧ TabW w' T vc' vf' rows ∧ vc'.ownBlock = vc.ownBlock ∧ vf'.ownBlock = vf.ownBlock ∧ Keep (fun b => b = T) w w' := by
  obtain ⟨h1, h2, h3⟩ := h
  have e0 : (rows ++ [r]).flatten = rows.flatten ++ r := by simp
  rw [e0] at h2
  have hlen : (rows.flatten ++ r).length = rows.flatten.length + r.length := List.length_append
  have e1 : (rows ++ [r]).length = rows.length + 1 := by simp
  obtain ⟨ac, cc, rfl⟩ := own_len h2
  obtain ⟨af, cf, rfl⟩ := own_len h3
  have hT := lt_of_at h1
  obtain ⟨v, q1, p1⟩ := row_from (S := S) (w0 := w) h2 (by omega) hS
  have hcc : (rows.flatten ++ r).length ≤ cc := by
    rcases h2.2 with ⟨hv, h0⟩ | ⟨g, cap, cur, hv, _, _, h4, _⟩
    · simp only [Value.slice.injEq] at hv; omega
    · simp only [Value.slice.injEq] at hv; omega
  have hcf : (rows ++ [r]).length ≤ cf := by
    rcases h3.2 with ⟨hv, h0⟩ | ⟨g, cap, cur, hv, _, _, h4, _⟩
    · simp only [Value.slice.injEq] at hv; omega
    · simp only [Value.slice.injEq] at hv; omega
  have q2 := fun w => run_toW (ao := ac) (show rows.flatten.length ≤ (rows.flatten ++ r).length by omega) hcc (by omega) w
  have q3 := fun w => run_toI (ao := af) (show rows.length ≤ (rows ++ [r]).length by omega) hcf (by omega) w
  have o2 := own_take h2 (show rows.flatten.length ≤ (rows.flatten ++ r).length by omega)
  have o3 := own_take h3 (show rows.length ≤ (rows ++ [r]).length by omega)
  have t2 : ((rows.flatten ++ r).flatMap encW).take (rows.flatten.length * 2) = rows.flatten.flatMap encW := by
    rw [List.flatMap_append]
    have hl : ∀ l : List (Nat × Nat), (l.flatMap encW).length = l.length * 2 := fun l => by
      induction l with
      | nil => rfl
      | cons x l ih => rw [List.flatMap_cons, List.length_append, ih, encW_len, List.length_cons]; omega
    rw [List.take_append_of_le_length (by rw [hl]; exact Nat.le_refl _), List.take_of_length_le (by rw [hl]; exact Nat.le_refl _)]
  have t3 : ((offs (rows ++ [r])).map (Value.int .i64)).take (rows.length * 1) = (offs rows).map (Value.int .i64) := by
    rw [offs_snoc, List.map_append, Nat.mul_one, List.take_append_of_le_length (by rw [List.length_map, offs_len]; exact Nat.le_refl _), List.take_of_length_le (by rw [List.length_map, offs_len]; exact Nat.le_refl _)]
  rw [t2] at o2
  rw [t3] at o3
  have cf0 : w.cell? ⟨T, 0, none⟩ = some (.slice ac (rows.flatten ++ r).length cc) := cell_at h1 0
  have cf1 : w.cell? ⟨T, 1, none⟩ = some (.slice af (rows ++ [r]).length cf) := cell_at h1 1
  have ff0 := frozen_at h1 0
  have ff1 := frozen_at h1 1
  obtain ⟨g, hg, hl0⟩ : ∃ g, af = some ⟨g, 0, none⟩ ∧ w.cell? ⟨g, rows.length, none⟩ = some (.int .i64 ((rows.flatten.length : Nat) : Int)) := by
    have hr := Rz.of_own (xs := offs (rows ++ [r])) (by rw [offs_len]; exact h3)
    rcases h3.2 with ⟨hv, h0⟩ | ⟨g, cap, cur, hv, _, hgg, _⟩
    · omega
    · simp only [Value.slice.injEq] at hv
      obtain ⟨rfl, _, rfl⟩ := hv
      refine ⟨g, rfl, ?_⟩
      rw [h3.cellAt rows.length (by omega), offs_snoc, List.map_append, List.getElem?_append_right (by rw [List.length_map, offs_len]; exact Nat.le_refl _), List.length_map, offs_len, Nat.sub_self]
      rfl
  subst hg
  have ei : IntKind.i64.wrap (((rows.length + 1 : Nat) : Int) - 1) = (rows.length : Int) := by rw [IntKind.wrap_i64]; omega
  have s1 := set_at h1 0 (.slice ac rows.flatten.length cc)
  have s2 := set_at (w := w.setCell ⟨T, 0, none⟩ (.slice ac rows.flatten.length cc)) s1 1 (.slice (some ⟨g, 0, none⟩) rows.length cf)
  have kk : Keep (fun b => b = T) w ((w.setCell ⟨T, 0, none⟩ (.slice ac rows.flatten.length cc)).setCell ⟨T, 1, none⟩ (.slice (some ⟨g, 0, none⟩) rows.length cf)).drew :=
    (((Keep.refl (fun b => b = T) w).setCell (p := ⟨T, 0, none⟩) (Or.inl rfl) _).setCell (p := ⟨T, 1, none⟩) (Or.inl rfl) _).drew
  have FK := Lib.hid kk
  have FT : Hid (TabW ((w.setCell ⟨T, 0, none⟩ (.slice ac rows.flatten.length cc)).setCell ⟨T, 1, none⟩ (.slice (some ⟨g, 0, none⟩) rows.length cf)).drew T (.slice ac rows.flatten.length cc) (.slice (some ⟨g, 0, none⟩) rows.length cf) rows) :=
    Lib.hid ⟨s2, own_keep o2 kk (fun b hb e => by subst e; exact own_ne_at o2 hb h1 (by decide)), own_keep o3 kk (fun b hb e => by subst e; exact own_ne_at o3 hb h1 (by decide))⟩
  have FP : Hid (Pl S ((w.setCell ⟨T, 0, none⟩ (.slice ac rows.flatten.length cc)).setCell ⟨T, 1, none⟩ (.slice (some ⟨g, 0, none⟩) rows.length cf)).drew v r) := Lib.hid (p1.keep (kk.mono (fun b _ hb => hST b hb)))
  have cg := lit_cell hl0
  have d0 := lit_cell cf0
  have d1 := lit_cell cf1
  have q2d := q2 w.drew
  have q3d := q3 w.drew
  have tb1 : (rows.length : Int) < ((rows ++ [r]).length : Int) := by omega
  have hA : Hid ((Value.slice ac rows.flatten.length cc).ownBlock = (Value.slice ac (rows.flatten ++ r).length cc).ownBlock) := Lib.hid (by cases ac <;> rfl)
  clear h1 h2 h3 o2 o3 t2 t3 s1 s2 kk p1 hcc hcf hlen e0
  rw [e1] at *
  generalize (rows.flatten ++ r).length = N at *
  generalize rows.flatten.length = nf at *
  generalize rows.length = nr at *
  go_enter Try.func102, Try.ntmps102
  go_wp2_with fail
  go_region
  all_goals
    go_wp2_with fail
    go_ret
    exact ⟨_, _, _, rfl, FP.out, FT.out, hA.out, rfl, FK.out⟩
end Go.Proofs.Ytipgofglidmffaa.Lp

namespace Go.Proofs.Ytipgofglidmffaa.Lp
open Go.RowKit Go.Proofs.Ytipgofglidmffaa.Cm Go.Proofs.Ytipgofglidmffaa.Lc Go.Proofs.Ytipgofglidmffaa.Lcx
set_option linter.unusedVariables false

/-- A table with one row, of W words. -/
def TabU (w : World) (K : Nat) (vc vf : Value) (W : Nat) (X : Nat → Nat) : Prop :=
  w.heap[K]? = some (.cells #[vc, vf] 162 (0, 0)) ∧ w.ownsRow 0 117 1 vc W ((List.range W).map (fun q => Value.int .u64 (X q))) ∧ (vc.ownBlock = none → W = 0) ∧ w.ownsRow 0 3 1 vf 1 [.int .i64 0]
theorem TabU.keep {S : Nat → Prop} {w w' : World} {K W : Nat} {vc vf : Value} {X : Nat → Nat} (h : TabU w K vc vf W X) (k : Keep S w w') (hS : ∀ b, St K vc vf b → ¬ S b) : TabU w' K vc vf W X :=
  ⟨k.at h.1 (hS K (Or.inl rfl)), own_keep h.2.1 k (fun g hg => hS g (Or.inr (Or.inl hg))), h.2.2.1, own_keep h.2.2.2 k (fun g hg => hS g (Or.inr (Or.inr hg)))⟩
set_option maxHeartbeats 1600000 in
theorem addU_any (K W B : Nat) (v : Value) (X : Nat → Nat) (w : World) (h : w.heap[K]? = some (.cells #[.slice none 0 0, .slice none 0 0] 162 (0, 0))) (hv : Wd w v W B X) (hW : W ≤ 1000000) :
    Calls Try.prog 88 #[.pointer (some ⟨K, 0, none⟩), v] w fun e w' => (∃ x, e = .returned x) ∧ ∃ vc' vf', TabU w' K vc' vf' W X ∧
      (∀ g, vc'.ownBlock = some g → w.heap.size ≤ g) ∧ (∀ g, vf'.ownBlock = some g → w.heap.size ≤ g) ∧ Keep (fun b => b = K) w w' := by
  have hT := lt_of_at h
  have h3' : w.drew.ownsRow 0 3 1 (.slice none 0 0) ([] : List Int).length (([] : List Int).map (Value.int .i64)) := World.ownsRow_nil _ _ _ _
  obtain ⟨vf', w1, q1, o1, g1, l1⟩ := append_i (x := 0) h3' (by simp)
  have q1' : ∀ ty, (Builtin.append_ #[56, 56] ty #[.slice none 0 0, .slice (some ⟨w.heap.size, 0, none⟩) 1 1]).run Try.prog ((w.alloc (.cells #[.int .i64 0] 3)).drew) = .ok vf' w1 := q1
  have k1 : Keep (fun _ => False) w w1 := (((Keep.refl _ w).drew).alloc _).grown g1 (fun b hb => by simp [Value.ownBlock] at hb)
  have t1 := k1.at h (fun e => e)
  have f1 := frozen_at t1 1
  have c1 : w1.cell? ⟨K, 1, none⟩ = some (.slice none 0 0) := cell_at t1 1
  have hT1 := lt_of_at t1
  have t2 := set_at t1 1 vf'
  have k2 : Keep (fun b => b = K) w1 (w1.setCell ⟨K, 1, none⟩ vf') := (Keep.refl (fun b => b = K) w1).setCell (p := ⟨K, 1, none⟩) (Or.inl rfl) _
  have k12 : Keep (fun b => b = K) w (w1.setCell ⟨K, 1, none⟩ vf') := (k1.mono (fun _ _ h => h.elim)).trans k2
  have v2 : Wd (w1.setCell ⟨K, 1, none⟩ vf') v W B X := by
    rcases hv with hv | ⟨h0, cap, cur, hv, j1, j2, j3, j4⟩
    · exact .inl hv
    · refine .inr ⟨h0, cap, cur, hv, j1, k12.at j2 (fun e => ?_), j3, j4⟩
      subst e
      rw [j2] at h
      simp only [Option.some.injEq, Obj.cells.injEq] at h
      exact absurd h.2.1 (by decide)
  have p2 : (w1.setCell ⟨K, 1, none⟩ vf').ownsRow 0 3 1 vf' 1 [.int .i64 0] := own_keep o1 k2 (fun g hg e => by
    subst e; exact own_ne_at o1 hg t1 (by decide))
  obtain ⟨vc', w3, q3, o3, g3, l3⟩ := append_u v2 hW
  have k3 : Keep (fun _ => False) (w1.setCell ⟨K, 1, none⟩ vf') w3 := (Keep.refl _ _).grown g3 (fun b hb => by cases hb)
  have t3 := k3.at t2 (fun e => e)
  have f3 := frozen_at t3 0
  have c3 : w3.cell? ⟨K, 0, none⟩ = some (.slice none 0 0) := cell_at t3 0
  have hT3 := lt_of_at t3
  have c2 : (w1.setCell ⟨K, 1, none⟩ vf').cell? ⟨K, 0, none⟩ = some (.slice none 0 0) := cell_at t2 0
  have t4 := set_at t3 0 vc'
  have k4 : Keep (fun b => b = K) w3 (w3.setCell ⟨K, 0, none⟩ vc') := (Keep.refl (fun b => b = K) w3).setCell (p := ⟨K, 0, none⟩) (Or.inl rfl) _
  have hnz : vc'.ownBlock = none → W = 0 := fun hn => by
    rcases l3 with h' | h'
    · rcases o3.2 with ⟨_, h0⟩ | ⟨g, cap, cur, hh, _⟩
      · exact h0
      · rw [hh] at hn; simp [Value.ownBlock] at hn
    · rw [h'] at hn; cases hn
  have FIN : Hid (TabU (w3.setCell ⟨K, 0, none⟩ vc') K vc' vf' W X) := Lib.hid ⟨t4, own_keep o3 k4 (fun g hg e => by
      subst e
      exact own_ne_at o3 hg t3 (by decide)), hnz, own_keep (own_keep p2 k3 (fun _ _ e => e)) k4 (fun g hg e => by
      subst e
      exact own_ne_at (own_keep p2 k3 (fun _ _ e => e)) hg t3 (by decide))⟩
  have FK : Hid (Keep (fun b => b = K) w (w3.setCell ⟨K, 0, none⟩ vc')) := Lib.hid ((k12.trans (k3.mono (fun _ _ h => h.elim))).trans k4)
  have FL1 : Hid (∀ g, vc'.ownBlock = some g → w.heap.size ≤ g) := Lib.hid (fun g hg => by
    rcases l3 with h' | h'
    · rw [h'] at hg; simp [Value.ownBlock] at hg
    · rw [h'] at hg; cases hg; exact k12.size)
  have FL2 : Hid (∀ g, vf'.ownBlock = some g → w.heap.size ≤ g) := Lib.hid (fun g hg => by
    rcases l1 with h' | h'
    · rw [h'] at hg; simp [Value.ownBlock] at hg
    · rw [h'] at hg; cases hg; show w.heap.size ≤ w.heap.size + 1; omega)
  have d0 : w.cell? ⟨K, 0, none⟩ = some (.slice none 0 0) := cell_at h 0
  have d1 : w.cell? ⟨K, 1, none⟩ = some (.slice none 0 0) := cell_at h 1
  obtain ⟨af', cf', hvf⟩ := own_len p2
  obtain ⟨ac', cc', hvc⟩ := own_len o3
  obtain ⟨av, cv, rfl⟩ := hv.len
  clear hnz
  clear h h3' q1 o1 g1 l1 k1 t1 t2 k2 k12 v2 p2 o3 g3 l3 k3 t3 t4 k4 hv
  subst hvf
  subst hvc
  go_enter Try.func88, Try.ntmps88
  go_wp2_with fail
  go_region_law (first
    | (refine step_append_run rfl (.tmp 8) (.tmp 14) _ _ rfl _ _ rfl rfl _ _ q1' ?_))
  all_goals
    go_wp2_with (at_builtin; refine Lib.wpList_append_run _ rfl (.tmp 22) (.tmp 23) _ _ rfl _ _ rfl rfl _ _ (q3 _) ?_)
    go_end0
    exact ⟨⟨_, rfl⟩, _, _, FIN.out, FL1.out, FL2.out, FK.out⟩

theorem fromU {w : World} {v : Value} {W : Nat} {X : Nat → Nat} (h : w.ownsRow 0 117 1 v W ((List.range W).map (fun q => Value.int .u64 (X q)))) (hl : W ≤ 1000000) (h0 : v.ownBlock = none → W = 0) :
    ∃ v' g, (∀ w, (Instr.slice 148 v (some (.int .i64 0)) none none).run Try.prog w = .ok v' w) ∧ (∀ w', w'.ownsRow 0 117 1 v W ((List.range W).map (fun q => Value.int .u64 (X q))) → Wd w' v' W g X) ∧ (0 < W → v.ownBlock = some g) := by
  have u := Try.underlying148
  have hz : Try.prog.cellsOf 117 = 1 := by kernel_rfl
  rcases h.2 with ⟨rfl, rfl⟩ | ⟨g, cap, cur, rfl, hb, hg, h1, h2, h3, h4⟩
  · refine ⟨.slice none 0 0, 0, fun w => ?_, fun w' h' => .inl ⟨rfl, _, _, rfl⟩, fun h => absurd h (Nat.lt_irrefl _)⟩
    go_simp
  · by_cases hW : W = 0
    · subst hW
      refine ⟨.slice (some ⟨g, 0, none⟩) 0 cap, g, fun w => ?_, fun w' h' => .inl ⟨rfl, _, _, rfl⟩, fun _ => rfl⟩
      go_simp
    · refine ⟨.slice (some ⟨g, 0, none⟩) W cap, g, fun w => ?_, fun w' h' => ?_, fun _ => rfl⟩
      · have hc : ¬ cap = 0 := by omega
        go_simp
      · rcases h'.2 with ⟨hv, _⟩ | ⟨g', cap', cur', hv, _, hg', k1, k2, k3, k4⟩
        · simp at hv
        · simp only [Value.slice.injEq, Option.some.injEq, Addr.mk.injEq, and_true, true_and] at hv
          obtain ⟨rfl, rfl⟩ := hv
          refine .inr ⟨by omega, cap, cur', rfl, h1, hg', by omega, fun q hq => ?_⟩
          have h8 := h'.cellAt q (by omega)
          rw [cell_at hg' q] at h8
          rw [h8, List.getElem?_map, List.getElem?_range hq]
          rfl
set_option maxHeartbeats 1600000 in
theorem takeU_any (K W : Nat) (vc vf : Value) (X : Nat → Nat) (w : World) (h : TabU w K vc vf W X) (hW : W ≤ 1000000) :
    Calls Try.prog 100 #[.pointer (some ⟨K, 0, none⟩)] w fun e w' => ∃ v g, e = .returned v ∧ Wd w' v W g X ∧ (0 < W → vc.ownBlock = some g) ∧ Keep (fun b => b = K) w w' ∧ ∃ c, w'.heap[K]? = some (.cells c 162 (0, 0)) := by
  obtain ⟨h1, h2, h20, h3⟩ := h
  obtain ⟨v, gg, q1, p1, p2⟩ := fromU h2 hW h20
  obtain ⟨ac, cc, rfl⟩ := own_len h2
  obtain ⟨af, cf, rfl⟩ := own_len h3
  have hT := lt_of_at h1
  have hcc : W ≤ cc := by
    rcases h2.2 with ⟨hv, h0⟩ | ⟨g, cap, cur, hv, _, _, h4, _⟩
    · simp only [Value.slice.injEq] at hv; omega
    · simp only [Value.slice.injEq] at hv; omega
  have hcf : 1 ≤ cf := by
    rcases h3.2 with ⟨hv, h0⟩ | ⟨g, cap, cur, hv, _, _, h4, _⟩
    · simp only [Value.slice.injEq] at hv; omega
    · simp only [Value.slice.injEq] at hv; omega
  have q2 := fun w => run_toU (ao := ac) (Nat.zero_le W) hcc (by omega) w
  have q3 := fun w => run_toI (ao := af) (Nat.zero_le 1) hcf (by omega) w
  have cf0 : w.cell? ⟨K, 0, none⟩ = some (.slice ac W cc) := cell_at h1 0
  have cf1 : w.cell? ⟨K, 1, none⟩ = some (.slice af 1 cf) := cell_at h1 1
  have ff0 := frozen_at h1 0
  have ff1 := frozen_at h1 1
  obtain ⟨g, hg, hl0⟩ : ∃ g, af = some ⟨g, 0, none⟩ ∧ w.cell? ⟨g, 0, none⟩ = some (.int .i64 0) := by
    rcases h3.2 with ⟨hv, h0⟩ | ⟨g, cap, cur, hv, _, hgg, _⟩
    · omega
    · simp only [Value.slice.injEq] at hv
      obtain ⟨rfl, _, rfl⟩ := hv
      exact ⟨g, rfl, h3.cellAt 0 (by omega)⟩
  subst hg
  have kk : Keep (fun b => b = K) w ((w.setCell ⟨K, 0, none⟩ (.slice ac 0 cc)).setCell ⟨K, 1, none⟩ (.slice (some ⟨g, 0, none⟩) 0 cf)).drew :=
    (((Keep.refl (fun b => b = K) w).setCell (p := ⟨K, 0, none⟩) (Or.inl rfl) _).setCell (p := ⟨K, 1, none⟩) (Or.inl rfl) _).drew
  have FK := Lib.hid kk
  have FP : Hid (Wd ((w.setCell ⟨K, 0, none⟩ (.slice ac 0 cc)).setCell ⟨K, 1, none⟩ (.slice (some ⟨g, 0, none⟩) 0 cf)).drew v W gg X) := Lib.hid (p1 _ (own_keep h2 kk (fun b hb e => by subst e; exact own_ne_at h2 hb h1 (by decide))))
  have P2 := Lib.hid p2
  have FC : Hid (∃ c, ((w.setCell ⟨K, 0, none⟩ (.slice ac 0 cc)).setCell ⟨K, 1, none⟩ (.slice (some ⟨g, 0, none⟩) 0 cf)).drew.heap[K]? = some (.cells c 162 (0, 0))) := Lib.hid ⟨_, set_at (set_at h1 0 _) 1 _⟩
  have q2' : ∀ w, (Instr.slice 148 (.slice ac W cc) none (some (.int .i64 0)) none).run Try.prog w = .ok (.slice ac 0 cc) w := q2
  have q3' : ∀ w, (Instr.slice 56 (.slice (some ⟨g, 0, none⟩) 1 cf) none (some (.int .i64 0)) none).run Try.prog w = .ok (.slice (some ⟨g, 0, none⟩) 0 cf) w := q3
  clear h1 h2 h3 h20 kk p1 p2 hcc hcf q2 q3
  go_enter Try.func100, Try.ntmps100
  go_wp2_with fail
  go_region
  all_goals
    go_wp2_with fail
    go_ret
    exact ⟨_, _, rfl, FP.out, P2.out, FK.out, FC.out⟩
end Go.Proofs.Ytipgofglidmffaa.Lp

namespace Go.Proofs.Ytipgofglidmffaa.Lp
open Go.RowKit Go.Proofs.Ytipgofglidmffaa.Cm Go.Proofs.Ytipgofglidmffaa.Lc Go.Proofs.Ytipgofglidmffaa.Lcx
set_option linter.unusedVariables false

set_option maxHeartbeats 1600000 in
theorem wideOf_any (W n : Nat) (w : World) (hn : n ≤ 100000) (hW : W ≤ 100000) (hs : n * max W 1 ≤ 1048576) :
    Calls Try.prog 87 #[.int .i64 W, .int .i64 n, .int .i64 1048576] w fun e w' => ∃ wd : Nat, e = .returned (.int .i64 wd) ∧ n ≤ wd ∧ 1 ≤ wd ∧ wd ≤ 8589934592 ∧ ∃ k, w' = w.drewN k := by
  obtain ⟨bl, hbl⟩ : ∃ bl, Lib.bitLen ((n : Int)).toNat = bl := ⟨_, rfl⟩
  have hble : bl ≤ 64 := by rw [← hbl]; exact Any.bitLen_leU _ (by omega) (by omega)
  have HL := Lib.hid (fun w => Try.bits_Len (n : Int) w (by omega) (by omega))
  rw [hbl] at HL
  obtain ⟨hb, hhb⟩ : ∃ hb, bl / 2 = hb := ⟨_, rfl⟩
  have e1 : (bl : Int) / 2 = (hb : Int) := by omega
  have hhle : hb ≤ 32 := by omega
  obtain ⟨p, hp⟩ : ∃ p, 2 ^ hb = p := ⟨_, rfl⟩
  have hpp : 1 ≤ p ∧ p ≤ 4294967296 := by
    rw [← hp]
    exact ⟨Nat.two_pow_pos hb, Nat.le_trans (Nat.pow_le_pow_right (by decide) hhle) (by decide)⟩
  have e2 : wrap64 ((2 : Int) ^ hb) = (p : Int) := by
    have : ((2 : Int) ^ hb) = (p : Int) := by rw [← hp]; simp
    rw [this]; unfold wrap64; omega
  have e2' : IntKind.i64.wrap ((2 : Int) ^ hb) = (p : Int) := by
    have : ((2 : Int) ^ hb) = (p : Int) := by rw [← hp]; simp
    rw [this, IntKind.wrap_i64]; omega
  obtain ⟨W1, hW1⟩ : ∃ W1, max W 1 = W1 := ⟨_, rfl⟩
  have hW1p : 1 ≤ W1 ∧ W1 ≤ 100000 := by omega
  rw [hW1] at hs
  obtain ⟨q, hq⟩ : ∃ q, 1048576 / W1 = q := ⟨_, rfl⟩
  have hnq : n ≤ q := by rw [← hq]; exact (Nat.le_div_iff_mul_le (by omega)).2 hs
  have hq2 : q ≤ 1048576 := by rw [← hq]; exact Nat.div_le_self _ _
  have e3 : (1048576 : Int) / (W1 : Int) = (q : Int) := by rw [← hq]; rfl
  have m1 : ∀ w, (Builtin.max_ #[3, 3] 3 #[.int .i64 (W : Int), .int .i64 1]).run Try.prog w = .ok (.int .i64 (W1 : Int)) w := fun w => by rw [max2, ← hW1]; congr 2; omega
  obtain ⟨wd, hwd⟩ : ∃ wd, max p q = wd := ⟨_, rfl⟩
  have m2 : ∀ w, (Builtin.max_ #[3, 3] 3 #[.int .i64 (p : Int), .int .i64 (q : Int)]).run Try.prog w = .ok (.int .i64 (wd : Int)) w := fun w => by rw [max2, ← hwd]; congr 2; omega
  have hWn : ((W1 : Int) == 0) = false := by rw [beq_eq_false_iff_ne]; omega
  have FIN : Hid (n ≤ wd ∧ 1 ≤ wd ∧ wd ≤ 8589934592) := Lib.hid (by omega)
  clear hbl hhb hp hW1 hq hwd hs hnq
  go_enter Try.func87, Try.ntmps87
  go_wp2_with fail
  go_quiet ((go_at_call 45; exact Calls.quiet_of_same (HL.out _)))
  go_wp2_with fail
  go_ret
  exact ⟨wd, rfl, FIN.out.1, FIN.out.2.1, FIN.out.2.2, _, rfl⟩
end Go.Proofs.Ytipgofglidmffaa.Lp

namespace Go.Proofs.Ytipgofglidmffaa.Lp
open Go.RowKit Go.Proofs.Ytipgofglidmffaa.Cm Go.Proofs.Ytipgofglidmffaa.Lc
set_option linter.unusedVariables false

def hd : List Int → List Int → Nat
  | x :: a, y :: b => if x = y then hd a b + 1 else 0
  | _, _ => 0
theorem hd_le : ∀ a b : List Int, hd a b ≤ min a.length b.length
  | [], b => by simp [hd]
  | x :: a, [] => by simp [hd]
  | x :: a, y :: b => by
    have := hd_le a b
    simp only [hd, List.length_cons]
    split <;> omega
theorem hd_same : ∀ (a b : List Int) (k : Nat), k < hd a b → a[k]? = b[k]?
  | [], b, k, h => by simp [hd] at h
  | x :: a, [], k, h => by simp [hd] at h
  | x :: a, y :: b, k, h => by
    simp only [hd] at h
    split at h
    · rename_i e
      subst e
      cases k with
      | zero => rfl
      | succ k => simpa using hd_same a b k (by omega)
    · omega
theorem hd_stop : ∀ (a b : List Int), hd a b < a.length → hd a b < b.length → a[hd a b]? ≠ b[hd a b]?
  | [], b, h, _ => by simp [hd] at h
  | x :: a, [], _, h => by simp [hd] at h
  | x :: a, y :: b, h, k => by
    simp only [hd] at h k ⊢
    split
    · rename_i e
      rw [if_pos e] at h k
      simp only [List.length_cons] at h k
      simpa using hd_stop a b (by omega) (by omega)
    · rename_i e
      simpa using e
def tl (a b : List Int) : Nat := min (hd a.reverse b.reverse) (min a.length b.length - hd a b)
theorem rev_at {a : List Int} {k : Nat} (h : k < a.length) : a.reverse[k]? = some (a[a.length - 1 - k]'(by omega)) := by
  rw [List.getElem?_eq_getElem (by simpa using h), List.getElem_reverse]

theorem drew_cell {w wr : World} {n : Nat} {p : Addr} {v : Value} (h : wr = w.drewN n) (c : w.cell? p = some v) : wr.cell? p = some v := by rw [h]; exact c

theorem min2 (w : World) (x y : Int) : (Builtin.min_ #[3, 3] 3 #[.int .i64 x, .int .i64 y]).run Try.prog w = .ok (.int .i64 (min x y)) w := by
  have e : ∀ x y : Int, (if y < x then y else x) = min x y := fun x y => by
    rw [Int.min_def]
    split <;> split <;> omega
  simp [Builtin.min_, Builtin.min2, e]

set_option maxHeartbeats 3200000 in
theorem ends_any (va vb : Value) (a b : List Int) (w : World) (ha : Rz w va a) (hb : Rz w vb b) (hla : a.length ≤ 100000) (hlb : b.length ≤ 100000) :
    Calls Try.prog 68 #[va, vb] w fun e w' => e = .returned (.tuple #[.int .i64 (hd a b), .int .i64 (tl a b)]) ∧ ∃ n, w' = w.drewN n := by
  obtain ⟨ao, ca, rfl⟩ := ha.len
  obtain ⟨bo, cb, rfl⟩ := hb.len
  have FA := Lib.hid ha.at
  have FB := Lib.hid hb.at
  clear ha hb
  have hle := hd_le a b
  have HS := Lib.hid (hd_same a b)
  have HX := Lib.hid (hd_stop a b)
  have HS2 := Lib.hid (hd_same a.reverse b.reverse)
  have HX2 := Lib.hid (hd_stop a.reverse b.reverse)
  have HL2 := Lib.hid (hd_le a.reverse b.reverse)
  have HT : Hid (tl a b = min (hd a.reverse b.reverse) (min a.length b.length - hd a b)) := Lib.hid rfl
  obtain ⟨L, hL⟩ : ∃ L, min a.length b.length = L := ⟨_, rfl⟩
  have HLL : Hid (L ≤ a.length ∧ L ≤ b.length ∧ (L = a.length ∨ L = b.length)) := Lib.hid (by omega)
  have eL : min (a.length : Int) (b.length : Int) = (L : Int) := by omega
  rw [hL] at hle HT
  generalize hd a b = h at *
  generalize tl a b = t at *
  generalize hd a.reverse b.reverse = r at *
  clear hL
  have m2 := min2
  go_enter Try.func68, Try.ntmps68
  go_wp2_with fail
  go_loopw [4] (fun s wr => ∃ k n : Nat, k ≤ h ∧ s = .int .i64 k ∧ wr = w.drewN n) (fun s _ => h - (intOf s).toNat)
  case atStart => exact ⟨0, 0, Nat.zero_le _, rfl, rfl⟩
  case round =>
    obtain ⟨k, n, hk, rfl, hwr⟩ := hrel
    have HW := Lib.hid hwr
    by_cases hkh : k < h
    · have hka : k < a.length := by have := HLL.out; omega
      have hkb : k < b.length := by have := HLL.out; omega
      obtain ⟨b1, o1, rfl, hb1, c1⟩ := FA.out k hka
      obtain ⟨b2, o2, rfl, hb2, c2⟩ := FB.out k hkb
      have e3 : a[k] = b[k] := by have := HS.out k hkh; rw [geti hka, geti hkb] at this; exact Option.some.inj this
      have k1 : wr.cell? ⟨b1, o1 + k, none⟩ = some (.int .i64 a[k]) := by rw [hwr]; exact c1
      have k2 : wr.cell? ⟨b2, o2 + k, none⟩ = some (.int .i64 b[k]) := by rw [hwr]; exact c2
      have d0 : decide (k < L) = true := decide_eq_true (by omega)
      have d1 : decide ((k : Int) < (L : Int)) = true := decide_eq_true (by omega)
      have t1 : (k : Int) < (a.length : Int) := by omega
      have t2 : (k : Int) < (b.length : Int) := by omega
      rw [← e3] at k2
      clear c1 c2 e3 hwr
      generalize a[k] = av at *
      go_wp2_with fail
      go_quiet (fail)
      go_wp2_with fail
      go_roundw
      case rel => exact ⟨k + 1, n + nq, by omega, by go_num, by rw [HW.out, World.drewN_drewN]⟩
      case measure => simp [intOf] <;> omega
    · obtain rfl : k = h := by omega
      clear hwr
      by_cases hkl : k < L
      · have hka : k < a.length := by have := HLL.out; omega
        have hkb : k < b.length := by have := HLL.out; omega
        obtain ⟨b1, o1, rfl, hb1, c1⟩ := FA.out k hka
        obtain ⟨b2, o2, rfl, hb2, c2⟩ := FB.out k hkb
        have e3 : (a[k] == b[k]) = false := by
          have := HX.out hka hkb; rw [geti hka, geti hkb] at this; rw [beq_eq_false_iff_ne]; intro h'; exact this (by rw [h'])
        have k1 : wr.cell? ⟨b1, o1 + k, none⟩ = some (.int .i64 a[k]) := by rw [HW.out]; exact c1
        have k2 : wr.cell? ⟨b2, o2 + k, none⟩ = some (.int .i64 b[k]) := by rw [HW.out]; exact c2
        have d0 : decide (k < L) = true := decide_eq_true (by omega)
        have d1 : decide ((k : Int) < (L : Int)) = true := decide_eq_true (by omega)
        have t1 : (k : Int) < (a.length : Int) := by omega
        have t2 : (k : Int) < (b.length : Int) := by omega
        clear c1 c2
        generalize a[k] = av at *
        generalize b[k] = bv at *
        go_wp2_with fail
        go_quiet (fail)
        clear k1 k2 e3 d0 d1 t1 t2 hka hkb
        have HW2 : Hid (wr.drewN nq = w.drewN (n + nq)) := Lib.hid (by rw [HW.out, World.drewN_drewN])
        generalize wr.drewN nq = wq at *
        generalize n + nq = n2 at *
        clear HW hkh
        obtain ⟨m, hm⟩ : ∃ m, L - k = m := ⟨_, rfl⟩
        have em : IntKind.i64.wrap ((L : Int) - (k : Int)) = (m : Int) := by rw [IntKind.wrap_i64]; omega
        have em2 : (L : Int) - (k : Int) = (m : Int) := by omega
        have hkL : m ≤ L := by omega
        rw [hm] at HT
        have HT2 : Hid (t = min r m) := HT
        have HW2' : wq = w.drewN n2 := HW2.out
        subst HW2'
        clear HW2 HT
        go_wp2_with fail
        go_loopw [5] (fun s wr => ∃ k n : Nat, k ≤ t ∧ s = .int .i64 k ∧ wr = w.drewN n) (fun s _ => t - (intOf s).toNat)
        case atStart => exact ⟨0, _, Nat.zero_le _, rfl, rfl⟩
        case round =>
          obtain ⟨q, nn, hq, rfl, hwr⟩ := hrel
          have HW := Lib.hid hwr
          have htm : t ≤ m := by have := HT2.out; omega
          by_cases hqt : q < t
          · have hqa : q < a.length := by have := HLL.out; omega
            have hqb : q < b.length := by have := HLL.out; omega
            obtain ⟨ia, hia⟩ : ∃ ia, a.length - 1 - q = ia := ⟨_, rfl⟩
            obtain ⟨ib, hib⟩ : ∃ ib, b.length - 1 - q = ib := ⟨_, rfl⟩
            have hial : ia < a.length := by omega
            have hibl : ib < b.length := by omega
            have e3 : a[ia] = b[ib] := by
              have := HS2.out q (by have := HT2.out; omega)
              rw [rev_at hqa, rev_at hqb] at this
              simpa only [hia, hib] using Option.some.inj this
            obtain ⟨b3, o3, hao, hb3, c1⟩ := FA.out ia hial
            obtain ⟨b4, o4, hbo, hb4, c2⟩ := FB.out ib hibl
            have k1 := drew_cell hwr c1
            have k2 := drew_cell hwr c2
            cases hao
            cases hbo
            have d0 : decide (q < m) = true := decide_eq_true (by omega)
            have d1 : decide ((q : Int) < (m : Int)) = true := decide_eq_true (by omega)
            have t1 : (ia : Int) < (a.length : Int) := by omega
            have t2 : (ib : Int) < (b.length : Int) := by omega
            obtain ⟨a1, ha1⟩ : ∃ a1 : Nat, a.length - 1 = a1 := ⟨_, rfl⟩
            obtain ⟨b1', hb1'⟩ : ∃ b1 : Nat, b.length - 1 = b1 := ⟨_, rfl⟩
            have s1 : IntKind.i64.wrap ((a.length : Int) - 1) = (a1 : Int) := by rw [IntKind.wrap_i64]; omega
            have s2 : IntKind.i64.wrap ((b.length : Int) - 1) = (b1' : Int) := by rw [IntKind.wrap_i64]; omega
            have s3 : IntKind.i64.wrap ((a1 : Int) - (q : Int)) = (ia : Int) := by rw [IntKind.wrap_i64]; omega
            have s4 : IntKind.i64.wrap ((b1' : Int) - (q : Int)) = (ib : Int) := by rw [IntKind.wrap_i64]; omega
            rw [← e3] at k2
            clear c1 c2 e3 hwr hia hib ha1 hb1'
            generalize a[ia] = av at *
            go_wp2_with fail
            go_quiet (fail)
            go_wp2_with fail
            go_roundw
            case rel => exact ⟨q + 1, nn + nq, by omega, by go_num, by rw [HW.out, World.drewN_drewN]⟩
            case measure => simp [intOf] <;> omega
          · obtain rfl : q = t := by omega
            clear hwr
            by_cases hqm : q < m
            · have hqa : q < a.length := by have := HLL.out; omega
              have hqb : q < b.length := by have := HLL.out; omega
              obtain ⟨ia, hia⟩ : ∃ ia, a.length - 1 - q = ia := ⟨_, rfl⟩
              obtain ⟨ib, hib⟩ : ∃ ib, b.length - 1 - q = ib := ⟨_, rfl⟩
              have hial : ia < a.length := by omega
              have hibl : ib < b.length := by omega
              have hqr : q = r := by have := HT2.out; omega
              have e3 : (a[ia] == b[ib]) = false := by
                have := HX2.out (by rw [List.length_reverse, ← hqr]; exact hqa) (by rw [List.length_reverse, ← hqr]; exact hqb)
                rw [← hqr, rev_at hqa, rev_at hqb] at this
                rw [beq_eq_false_iff_ne]
                intro h'
                simp only [hia, hib] at this
                exact this (by rw [h'])
              obtain ⟨b3, o3, hao, hb3, c1⟩ := FA.out ia hial
              obtain ⟨b4, o4, hbo, hb4, c2⟩ := FB.out ib hibl
              have k1 := drew_cell HW.out c1
              have k2 := drew_cell HW.out c2
              cases hao
              cases hbo
              have d0 : decide (q < m) = true := decide_eq_true (by omega)
              have d1 : decide ((q : Int) < (m : Int)) = true := decide_eq_true (by omega)
              have t1 : (ia : Int) < (a.length : Int) := by omega
              have t2 : (ib : Int) < (b.length : Int) := by omega
              obtain ⟨a1, ha1⟩ : ∃ a1 : Nat, a.length - 1 = a1 := ⟨_, rfl⟩
              obtain ⟨b1', hb1'⟩ : ∃ b1 : Nat, b.length - 1 = b1 := ⟨_, rfl⟩
              have s1 : IntKind.i64.wrap ((a.length : Int) - 1) = (a1 : Int) := by rw [IntKind.wrap_i64]; omega
              have s2 : IntKind.i64.wrap ((b.length : Int) - 1) = (b1' : Int) := by rw [IntKind.wrap_i64]; omega
              have s3 : IntKind.i64.wrap ((a1 : Int) - (q : Int)) = (ia : Int) := by rw [IntKind.wrap_i64]; omega
              have s4 : IntKind.i64.wrap ((b1' : Int) - (q : Int)) = (ib : Int) := by rw [IntKind.wrap_i64]; omega
              clear c1 c2 hia hib ha1 hb1' hqr HX2
              generalize a[ia] = av at *
              generalize b[ib] = bv at *
              go_wp2_with fail
              go_quiet (fail)
              go_wp2_with fail
              go_ret2
              exact ⟨rfl, nn + nq, by rw [HW.out, World.drewN_drewN]⟩
            · have d0 : decide (q < m) = false := decide_eq_false (by omega)
              have d1 : decide ((q : Int) < (m : Int)) = false := decide_eq_false (by omega)
              go_wp2_with fail
              go_quiet (fail)
              go_wp2_with fail
              go_ret2
              exact ⟨rfl, nn + nq, by rw [HW.out, World.drewN_drewN]⟩
      · have d0 : decide (k < L) = false := decide_eq_false (by omega)
        have d1 : decide ((k : Int) < (L : Int)) = false := decide_eq_false (by omega)
        go_wp2_with fail
        go_quiet (fail)
        clear d0 d1
        have HW2 : Hid (wr.drewN nq = w.drewN (n + nq)) := Lib.hid (by rw [HW.out, World.drewN_drewN])
        generalize wr.drewN nq = wq at *
        generalize n + nq = n2 at *
        clear HW hkh
        obtain ⟨m, hm⟩ : ∃ m, L - k = m := ⟨_, rfl⟩
        have em : IntKind.i64.wrap ((L : Int) - (k : Int)) = (m : Int) := by rw [IntKind.wrap_i64]; omega
        have em2 : (L : Int) - (k : Int) = (m : Int) := by omega
        have hkL : m ≤ L := by omega
        rw [hm] at HT
        have HT2 : Hid (t = min r m) := HT
        have HW2' : wq = w.drewN n2 := HW2.out
        subst HW2'
        clear HW2 HT
        go_wp2_with fail
        go_loopw [5] (fun s wr => ∃ k n : Nat, k ≤ t ∧ s = .int .i64 k ∧ wr = w.drewN n) (fun s _ => t - (intOf s).toNat)
        case atStart => exact ⟨0, _, Nat.zero_le _, rfl, rfl⟩
        case round =>
          obtain ⟨q, nn, hq, rfl, hwr⟩ := hrel
          have HW := Lib.hid hwr
          have htm : t ≤ m := by have := HT2.out; omega
          by_cases hqt : q < t
          · have hqa : q < a.length := by have := HLL.out; omega
            have hqb : q < b.length := by have := HLL.out; omega
            obtain ⟨ia, hia⟩ : ∃ ia, a.length - 1 - q = ia := ⟨_, rfl⟩
            obtain ⟨ib, hib⟩ : ∃ ib, b.length - 1 - q = ib := ⟨_, rfl⟩
            have hial : ia < a.length := by omega
            have hibl : ib < b.length := by omega
            have e3 : a[ia] = b[ib] := by
              have := HS2.out q (by have := HT2.out; omega)
              rw [rev_at hqa, rev_at hqb] at this
              simpa only [hia, hib] using Option.some.inj this
            obtain ⟨b3, o3, hao, hb3, c1⟩ := FA.out ia hial
            obtain ⟨b4, o4, hbo, hb4, c2⟩ := FB.out ib hibl
            have k1 := drew_cell hwr c1
            have k2 := drew_cell hwr c2
            cases hao
            cases hbo
            have d0 : decide (q < m) = true := decide_eq_true (by omega)
            have d1 : decide ((q : Int) < (m : Int)) = true := decide_eq_true (by omega)
            have t1 : (ia : Int) < (a.length : Int) := by omega
            have t2 : (ib : Int) < (b.length : Int) := by omega
            obtain ⟨a1, ha1⟩ : ∃ a1 : Nat, a.length - 1 = a1 := ⟨_, rfl⟩
            obtain ⟨b1', hb1'⟩ : ∃ b1 : Nat, b.length - 1 = b1 := ⟨_, rfl⟩
            have s1 : IntKind.i64.wrap ((a.length : Int) - 1) = (a1 : Int) := by rw [IntKind.wrap_i64]; omega
            have s2 : IntKind.i64.wrap ((b.length : Int) - 1) = (b1' : Int) := by rw [IntKind.wrap_i64]; omega
            have s3 : IntKind.i64.wrap ((a1 : Int) - (q : Int)) = (ia : Int) := by rw [IntKind.wrap_i64]; omega
            have s4 : IntKind.i64.wrap ((b1' : Int) - (q : Int)) = (ib : Int) := by rw [IntKind.wrap_i64]; omega
            rw [← e3] at k2
            clear c1 c2 e3 hwr hia hib ha1 hb1'
            generalize a[ia] = av at *
            go_wp2_with fail
            go_quiet (fail)
            go_wp2_with fail
            go_roundw
            case rel => exact ⟨q + 1, nn + nq, by omega, by go_num, by rw [HW.out, World.drewN_drewN]⟩
            case measure => simp [intOf] <;> omega
          · obtain rfl : q = t := by omega
            clear hwr
            by_cases hqm : q < m
            · have hqa : q < a.length := by have := HLL.out; omega
              have hqb : q < b.length := by have := HLL.out; omega
              obtain ⟨ia, hia⟩ : ∃ ia, a.length - 1 - q = ia := ⟨_, rfl⟩
              obtain ⟨ib, hib⟩ : ∃ ib, b.length - 1 - q = ib := ⟨_, rfl⟩
              have hial : ia < a.length := by omega
              have hibl : ib < b.length := by omega
              have hqr : q = r := by have := HT2.out; omega
              have e3 : (a[ia] == b[ib]) = false := by
                have := HX2.out (by rw [List.length_reverse, ← hqr]; exact hqa) (by rw [List.length_reverse, ← hqr]; exact hqb)
                rw [← hqr, rev_at hqa, rev_at hqb] at this
                rw [beq_eq_false_iff_ne]
                intro h'
                simp only [hia, hib] at this
                exact this (by rw [h'])
              obtain ⟨b3, o3, hao, hb3, c1⟩ := FA.out ia hial
              obtain ⟨b4, o4, hbo, hb4, c2⟩ := FB.out ib hibl
              have k1 := drew_cell HW.out c1
              have k2 := drew_cell HW.out c2
              cases hao
              cases hbo
              have d0 : decide (q < m) = true := decide_eq_true (by omega)
              have d1 : decide ((q : Int) < (m : Int)) = true := decide_eq_true (by omega)
              have t1 : (ia : Int) < (a.length : Int) := by omega
              have t2 : (ib : Int) < (b.length : Int) := by omega
              obtain ⟨a1, ha1⟩ : ∃ a1 : Nat, a.length - 1 = a1 := ⟨_, rfl⟩
              obtain ⟨b1', hb1'⟩ : ∃ b1 : Nat, b.length - 1 = b1 := ⟨_, rfl⟩
              have s1 : IntKind.i64.wrap ((a.length : Int) - 1) = (a1 : Int) := by rw [IntKind.wrap_i64]; omega
              have s2 : IntKind.i64.wrap ((b.length : Int) - 1) = (b1' : Int) := by rw [IntKind.wrap_i64]; omega
              have s3 : IntKind.i64.wrap ((a1 : Int) - (q : Int)) = (ia : Int) := by rw [IntKind.wrap_i64]; omega
              have s4 : IntKind.i64.wrap ((b1' : Int) - (q : Int)) = (ib : Int) := by rw [IntKind.wrap_i64]; omega
              clear c1 c2 hia hib ha1 hb1' hqr HX2
              generalize a[ia] = av at *
              generalize b[ib] = bv at *
              go_wp2_with fail
              go_quiet (fail)
              go_wp2_with fail
              go_ret2
              exact ⟨rfl, nn + nq, by rw [HW.out, World.drewN_drewN]⟩
            · have d0 : decide (q < m) = false := decide_eq_false (by omega)
              have d1 : decide ((q : Int) < (m : Int)) = false := decide_eq_false (by omega)
              go_wp2_with fail
              go_quiet (fail)
              go_wp2_with fail
              go_ret2
              exact ⟨rfl, nn + nq, by rw [HW.out, World.drewN_drewN]⟩

end Go.Proofs.Ytipgofglidmffaa.Lp

namespace Go.Proofs.Ytipgofglidmffaa.Lp
open Go.RowKit Go.Proofs.Ytipgofglidmffaa.Cm Go.Proofs.Ytipgofglidmffaa.Lc Go.Proofs.Ytipgofglidmffaa.Lcx
set_option linter.unusedVariables false

/-- The column at place j of b is at hand; 'were' is some memory of the call's own. -/
structure Fc (w0 : World) (a b : List Int) (Mb H2 H3 C B : Nat) (vc vw : Value) (j : Nat) (X : Nat → Nat) (t : Nat) (wr : World) : Prop where
  col : Col wr C vc ((a.length + 63) / 64) B X t
  is : IsCol a b j X
  pls : Pls wr Mb w0.heap.size H2 a
  bel : Below w0.heap.size w0 wr
  ord : w0.heap.size ≤ H2 ∧ H2 ≤ C ∧ C < H3 ∧ H2 ≤ B ∧ B < H3 ∧ B ≠ C ∧ H3 ≤ wr.heap.size
  row : ∃ xs : List (Nat × Nat), xs.length ≤ 100000 ∧ wr.ownsRow 0 142 2 vw xs.length (xs.flatMap encW) ∧ ∀ g, vw.ownBlock = some g → H3 ≤ g
theorem chg_take (X M : Nat → Nat) (W : Nat) (hW : W ≤ 100000) : ([] ++ chg X M W : List (Nat × Nat)).length ≤ 100000 := by
  have := chg_len X M W
  simp; omega

/-! ### Plain: what is alike at both ends can be had in any case -/
theorem lcs_head : ∀ (p x y : List Int), lcs (p ++ x) (p ++ y) = p.length + lcs x y
  | [], x, y => by simp
  | z :: p, x, y => by
    rw [List.cons_append, List.cons_append, lcs_yes rfl, lcs_head p x y, List.length_cons]; omega
theorem lcs_tail (p x y : List Int) : lcs (x ++ p) (y ++ p) = lcs x y + p.length := by
  rw [← lcs_rev, List.reverse_append, List.reverse_append, lcs_head, lcs_rev, List.length_reverse]; omega
/-- The part between the ends. -/
def mdl (a : List Int) (h t : Nat) : List Int := (a.drop h).take (a.length - t - h)
theorem ends_le (a b : List Int) : hd a b ≤ a.length ∧ hd a b ≤ b.length ∧ hd a b + tl a b ≤ a.length ∧ hd a b + tl a b ≤ b.length := by
  have := hd_le a b
  unfold tl
  omega
theorem take_eq {a b : List Int} {h : Nat} (h1 : h ≤ a.length) (h2 : h ≤ b.length) (hs : ∀ k, k < h → a[k]? = b[k]?) : a.take h = b.take h := by
  apply List.ext_getElem?
  intro k
  by_cases hk : k < h
  · rw [List.getElem?_take_of_lt hk, List.getElem?_take_of_lt hk, hs k hk]
  · rw [List.getElem?_eq_none (by rw [List.length_take]; omega), List.getElem?_eq_none (by rw [List.length_take]; omega)]
theorem tail_eq (a b : List Int) : a.drop (a.length - tl a b) = b.drop (b.length - tl a b) := by
  have hl := hd_le a.reverse b.reverse
  have h1 : tl a b ≤ hd a.reverse b.reverse := by unfold tl; omega
  have := take_eq (a := a.reverse) (b := b.reverse) (h := tl a b) (by omega) (by omega) (fun k hk => hd_same _ _ k (by omega))
  have h2 := congrArg List.reverse this
  rw [List.reverse_take, List.reverse_take, List.reverse_reverse, List.reverse_reverse, List.length_reverse, List.length_reverse] at h2
  exact h2
theorem parts (a : List Int) (h t : Nat) (hh : h + t ≤ a.length) : a = a.take h ++ (mdl a h t ++ a.drop (a.length - t)) := by
  unfold mdl
  have e1 : a.drop (a.length - t) = (a.drop h).drop (a.length - t - h) := by rw [List.drop_drop]; congr 1; omega
  rw [e1, List.take_append_drop, List.take_append_drop]
theorem ends_lcs (a b : List Int) : lcs a b = hd a b + lcs (mdl a (hd a b) (tl a b)) (mdl b (hd a b) (tl a b)) + tl a b := by
  obtain ⟨h1, h2, h3, h4⟩ := ends_le a b
  have ht := take_eq h1 h2 (hd_same a b)
  have hd' := tail_eq a b
  have e : lcs a b = lcs (a.take (hd a b) ++ (mdl a (hd a b) (tl a b) ++ a.drop (a.length - tl a b))) (b.take (hd a b) ++ (mdl b (hd a b) (tl a b) ++ b.drop (b.length - tl a b))) := congr (congrArg lcs (parts a _ _ h3)) (parts b _ _ h4)
  rw [e, ht, lcs_head, hd', lcs_tail, List.length_take, List.length_drop]
  omega
theorem mdl_len {a : List Int} {h t : Nat} (hh : h + t ≤ a.length) : (mdl a h t).length = a.length - t - h := by
  unfold mdl; rw [List.length_take, List.length_drop]; omega

theorem dice_eq (a b : List Int) : ((dice a b : Nat) : Int) = if a.length + b.length = 0 then 1000 else ((2 * (lcs a b : Int)) * 1000) / ((a.length + b.length : Nat) : Int) := by
  unfold dice
  by_cases h : a.length + b.length = 0
  · rw [if_pos h, if_pos h]; rfl
  · rw [if_neg h, if_neg h, Int.natCast_ediv]
    congr 1
    omega
end Go.Proofs.Ytipgofglidmffaa.Lp

namespace Go.Proofs.Ytipgofglidmffaa.Lp
open Go.RowKit Go.Proofs.Ytipgofglidmffaa.Cm Go.Proofs.Ytipgofglidmffaa.Lc Go.Proofs.Ytipgofglidmffaa.Lcx
set_option linter.unusedVariables false

/-! ### Plain: all columns -/
def Xc (a : List Int) : List Int → Nat → Nat
  | [] => fun _ => 0
  | y :: b => nw (Xc a b) (msk (pls a y))
def rws (a : List Int) (W : Nat) : List Int → List (List (Nat × Nat))
  | [] => []
  | y :: b => chg (Xc a b) (msk (pls a y)) W :: rws a W b
theorem isCol_at (a B : List Int) : ∀ (n j : Nat), B.length - j = n → j ≤ B.length → IsCol a B j (Xc a (B.drop j))
  | 0, j, h, hj => by
    obtain rfl : j = B.length := by omega
    rw [List.drop_eq_nil_of_le (Nat.le_refl _)]
    exact isCol_end a B
  | n + 1, j, h, hj => by
    have hl : j < B.length := by omega
    rw [List.drop_eq_getElem_cons hl]
    exact (isCol_at a B n (j + 1) (by omega) (by omega)).step hl
theorem isCol_all {a B : List Int} {j : Nat} (hj : j ≤ B.length) : IsCol a B j (Xc a (B.drop j)) := isCol_at a B _ j rfl hj
theorem rws_len (a : List Int) (W : Nat) : ∀ b : List Int, (rws a W b).length = b.length
  | [] => rfl
  | y :: b => by show (rws a W b).length + 1 = b.length + 1; rw [rws_len a W b]
theorem rws_flat (a : List Int) (W : Nat) : ∀ b : List Int, ((rws a W b).reverse).flatten.length ≤ b.length * W
  | [] => by simp [rws]
  | y :: b => by
    show ((chg (Xc a b) (msk (pls a y)) W :: rws a W b).reverse).flatten.length ≤ (b.length + 1) * W
    rw [List.reverse_cons, List.flatten_append, List.length_append, Nat.succ_mul]
    have := rws_flat a W b
    have := chg_len (Xc a b) (msk (pls a y)) W
    rw [List.flatten_cons, List.flatten_nil, List.append_nil]
    omega
/-- What was changed, put back. -/
def back (Y : Nat → Nat) : List (Nat × Nat) → Nat → Nat
  | [] => Y
  | p :: l => back (up Y p.1 p.2) l
theorem back_snoc (Y : Nat → Nat) (l : List (Nat × Nat)) (p : Nat × Nat) : back Y (l ++ [p]) = up (back Y l) p.1 p.2 := by
  induction l generalizing Y with
  | nil => rfl
  | cons x l ih => exact ih _
theorem back_chg (X M : Nat → Nat) : ∀ k q, back (nw X M) (chg X M k) q = if q < k then X q else nw X M q
  | 0, q => by rw [if_neg (by omega)]; rfl
  | k + 1, q => by
    show back (nw X M) (chg X M k ++ (if nw X M k = X k then [] else [(k, X k)])) q = _
    have ih := back_chg X M k q
    by_cases e : nw X M k = X k
    · rw [if_pos e, List.append_nil, ih]
      by_cases h1 : q < k
      · rw [if_pos h1, if_pos (by omega)]
      · rw [if_neg h1]
        by_cases h2 : q < k + 1
        · rw [if_pos h2, show q = k by omega, e]
        · rw [if_neg h2]
    · rw [if_neg e, back_snoc]
      unfold up
      by_cases h1 : q = k
      · rw [if_pos h1, if_pos (by omega), h1]
      · rw [if_neg h1, ih]
        by_cases h2 : q < k
        · rw [if_pos h2, if_pos (by omega)]
        · rw [if_neg h2, if_neg (by omega)]
theorem back_all {X M : Nat → Nat} {W : Nat} (h : ∀ q, W ≤ q → nw X M q = X q) : back (nw X M) (chg X M W) = X := funext (fun q => by
  rw [back_chg]
  by_cases e : q < W
  · rw [if_pos e]
  · rw [if_neg e, h q (by omega)])
theorem Xc_zero (a b : List Int) (q : Nat) (h : (a.length + 63) / 64 ≤ q) : Xc a b q = 0 := by
  have := isCol_all (a := a) (B := b) (j := 0) (Nat.zero_le _)
  rw [List.drop_zero] at this
  exact this.zero h

/-- The walk, as it lies. -/
def WkAt (w : World) (Wb : Nat) (vb : Value) (n Mb wd Kt Tt : Nat) (pn : Value) (at_ : Nat) : Prop :=
  w.heap[Wb]? = some (.cells #[vb, .int .i64 n, .map (some Mb), .int .i64 wd, .pointer (some ⟨Kt, 0, none⟩), .pointer (some ⟨Tt, 0, none⟩), pn, .int .i64 at_] 145 (0, 0))
theorem ne_of_types {w : World} {k k' : Nat} {c c' : Array Value} {t t' : TypeId} {f f' : Nat × Nat} (h : w.heap[k]? = some (.cells c t f)) (h' : w.heap[k']? = some (.cells c' t' f')) (ht : t ≠ t') : k ≠ k' := by
  intro e
  subst e
  rw [h] at h'
  simp only [Option.some.injEq, Obj.cells.injEq] at h'
  exact ht h'.2.1
theorem own_ne_at' {w : World} {B e z n g : Nat} {v : Value} {xs : List Value} {c : Array Value} {t : TypeId} (h : w.ownsRow B e z v n xs) (ht : w.heap[g]? = some (.cells c t (0, 0))) (he : e ≠ t) : v.ownBlock ≠ some g := fun hg => own_ne_at h hg ht he

/-- Where the loop of reckon stands: the columns from place j of b on are told. -/
structure Rc (w0 : World) (a b : List Int) (Wb : Nat) (vb : Value) (Mb wd Kt Tt H H2 H3 C B : Nat) (vc : Value) (j : Nat) (vw vct vft : Value) (t : Nat) (wr : World) : Prop where
  wk : WkAt wr Wb vb a.length Mb wd Kt Tt (.pointer (some ⟨C, 0, none⟩)) 0
  col : Col wr C vc ((a.length + 63) / 64) B (Xc a (b.drop j)) t
  tab : TabW wr Tt vct vft (rws a ((a.length + 63) / 64) (b.drop j)).reverse
  plm : Pls wr Mb H H2 a
  bel : Below w0.heap.size w0 wr
  row : ∃ xs : List (Nat × Nat), xs.length ≤ 100000 ∧ wr.ownsRow 0 142 2 vw xs.length (xs.flatMap encW)
  vwge : ∀ g, vw.ownBlock = some g → H3 ≤ g ∧ vct.ownBlock ≠ some g
  vcge : ∀ g, vct.ownBlock = some g → H3 ≤ g
  vfge : ∀ g, vft.ownBlock = some g → H3 ≤ g
  ord : w0.heap.size ≤ H ∧ H2 ≤ H3 ∧ H3 ≤ wr.heap.size ∧ w0.heap.size ≤ Wb ∧ H2 ≤ C ∧ w0.heap.size ≤ B ∧ (B < H ∨ H2 ≤ B) ∧ (Wb < H ∨ H2 ≤ Wb) ∧ (Tt < H ∨ H2 ≤ Tt) ∧ w0.heap.size ≤ Tt ∧ H ≤ H2 ∧ C < H3 ∧ B < H3 ∧ B ≠ C ∧ Wb < H3 ∧ Tt < H3 ∧ Wb ≠ B ∧ Tt ≠ B

theorem Rc.drew {w0 : World} {a b : List Int} {Wb : Nat} {vb : Value} {Mb wd Kt Tt H H2 H3 C B : Nat} {vc : Value} {j : Nat} {vw vct vft : Value} {t : Nat} {wr : World} (h : Rc w0 a b Wb vb Mb wd Kt Tt H H2 H3 C B vc j vw vct vft t wr) (n : Nat) :
    Rc w0 a b Wb vb Mb wd Kt Tt H H2 H3 C B vc j vw vct vft t (wr.drewN n) :=
  ⟨h.wk, h.col, h.tab, h.plm, below_drewN h.bel n, h.row, h.vwge, h.vcge, h.vfge, h.ord⟩
def ReckPost (w0 : World) (a b : List Int) (Wb : Nat) (vb : Value) (Mb wd Kt Tt : Nat) (e : Ending) (w' : World) : Prop :=
  (∃ x, e = .returned x) ∧ ∃ C vc B t vct vft, WkAt w' Wb vb a.length Mb wd Kt Tt (.pointer (some ⟨C, 0, none⟩)) 0 ∧ Col w' C vc ((a.length + 63) / 64) B (Xc a b) t ∧
    TabW w' Tt vct vft (rws a ((a.length + 63) / 64) b).reverse ∧ Below w0.heap.size w0 w' ∧ w0.heap.size ≤ C ∧ w0.heap.size ≤ B ∧ B ≠ C ∧ Wb ≠ B ∧ Tt ≠ B ∧ (∀ g, vct.ownBlock = some g → g ≠ B) ∧ (∀ g, vft.ownBlock = some g → g ≠ B)

theorem Rc.post {w0 : World} {a b : List Int} {Wb : Nat} {vb : Value} {Mb wd Kt Tt H H2 H3 C B : Nat} {vc : Value} {vw vct vft x : Value} {t : Nat} {wr : World} (h : Rc w0 a b Wb vb Mb wd Kt Tt H H2 H3 C B vc 0 vw vct vft t wr) : ReckPost w0 a b Wb vb Mb wd Kt Tt (.returned x) wr := by
  have h1 := h.col
  have h2 := h.tab
  rw [List.drop_zero] at h1 h2
  obtain ⟨o1, o2, o3, o4, o5, o6, o7⟩ := h.ord
  exact ⟨⟨x, rfl⟩, C, vc, B, t, vct, vft, h.wk, h1, h2, h.bel, by omega, o6, by omega, by omega, by omega, fun g hg => by have := h.vcge g hg; omega, fun g hg => by have := h.vfge g hg; omega⟩
/-- What back leaves alone. -/
theorem Rc.half {w0 : World} {a b : List Int} {Wb : Nat} {vb : Value} {Mb wd Kt Tt H H2 H3 C B : Nat} {vc : Value} {j : Nat} {vw vw0 vct vft : Value} {t : Nat} {wr w5 : World} (h : Rc w0 a b Wb vb Mb wd Kt Tt H H2 H3 C B vc (j + 1) vw vct vft t wr) (h0 : vw0.ownBlock = vw.ownBlock)
    (hk : Keep (Sb C B vw0) wr w5) : WkAt w5 Wb vb a.length Mb wd Kt Tt (.pointer (some ⟨C, 0, none⟩)) 0 ∧ TabW w5 Tt vct vft (rws a ((a.length + 63) / 64) (b.drop (j + 1))).reverse := by
  obtain ⟨o1, o2, o3, o4, o5, o6, o7, o8, o9, o10, o11, o12, o13, o14, o15, o16, e2, e4⟩ := h.ord
  have hSbge : ∀ g, vw0.ownBlock = some g → H3 ≤ g := fun g hg => (h.vwge g (by rw [← h0]; exact hg)).1
  have hCt := h.col.1
  have hTt := h.tab.1
  have e1 : Wb ≠ C := ne_of_types h.wk hCt (by decide)
  have e3 : Tt ≠ C := ne_of_types hTt hCt (by decide)
  have e5 : Wb ≠ Tt := ne_of_types h.wk hTt (by decide)
  have wk5 : WkAt w5 Wb vb a.length Mb wd Kt Tt (.pointer (some ⟨C, 0, none⟩)) 0 := hk.at h.wk (fun hs => by
    rcases hs with e | e | e
    · exact e1 e
    · exact e2 e
    · have := hSbge _ e; omega)
  have tab5 : TabW w5 Tt vct vft (rws a ((a.length + 63) / 64) (b.drop (j + 1))).reverse := h.tab.keep hk (fun g hg hs => by
    rcases hg with rfl | hg | hg
    · rcases hs with e | e | e
      · exact e3 e
      · exact e4 e
      · have := hSbge _ e; omega
    · have := h.vcge g hg
      rcases hs with e | e | e
      · omega
      · omega
      · rw [h0] at e; exact (h.vwge g e).2 hg
    · have := h.vfge g hg
      rcases hs with e | e | e
      · omega
      · omega
      · obtain ⟨xs, _, hr⟩ := h.row
        rw [h0] at e
        exact own_ne hr h.tab.2.2 e hg (by decide))
  exact ⟨wk5, tab5⟩
/-- One more column. -/
theorem Rc.step {w0 : World} {a b : List Int} {Wb : Nat} {vb : Value} {Mb wd Kt Tt H H2 H3 C B : Nat} {vc : Value} {j : Nat} (hj : j < b.length) {vw vw0 vct vft v' vct' vft' : Value} {t t' : Nat} {wr w5 w6 : World} (h : Rc w0 a b Wb vb Mb wd Kt Tt H H2 H3 C B vc (j + 1) vw vct vft t wr) (h0 : vw0.ownBlock = vw.ownBlock)
    (hk : Keep (Sb C B vw0) wr w5) (hcol : Col w5 C vc ((a.length + 63) / 64) B (nw (Xc a (b.drop (j + 1))) (msk (pls a b[j]))) t')
    (hrow : w5.ownsRow 0 142 2 v' (chg (Xc a (b.drop (j + 1))) (msk (pls a b[j])) ((a.length + 63) / 64)).length ((chg (Xc a (b.drop (j + 1))) (msk (pls a b[j])) ((a.length + 63) / 64)).flatMap encW))
    (hloc : v'.ownBlock = vw0.ownBlock ∨ ∃ g, v'.ownBlock = some g ∧ wr.heap.size ≤ g) (hW : (a.length + 63) / 64 ≤ 100000)
    (hk6 : Keep (St Tt vct vft) w5 w6) (htab : TabW w6 Tt vct' vft' ((rws a ((a.length + 63) / 64) (b.drop (j + 1))).reverse ++ [chg (Xc a (b.drop (j + 1))) (msk (pls a b[j])) ((a.length + 63) / 64)]))
    (hl1 : vct'.ownBlock = vct.ownBlock ∨ ∃ g, vct'.ownBlock = some g ∧ w5.heap.size ≤ g) (hl2 : vft'.ownBlock = vft.ownBlock ∨ ∃ g, vft'.ownBlock = some g ∧ w5.heap.size ≤ g) :
    Rc w0 a b Wb vb Mb wd Kt Tt H H2 H3 C B vc j v' vct' vft' t' w6 := by
  obtain ⟨o1, o2, o3, o4, o5, o6, o7, o8, o9, o10, o11, o12, o13, o14, o15, o16, e2, e4⟩ := h.ord
  have hSbge : ∀ g, vw0.ownBlock = some g → H3 ≤ g := fun g hg => (h.vwge g (by rw [← h0]; exact hg)).1
  obtain ⟨wk5, tab5⟩ := h.half h0 hk
  have e1 : Wb ≠ C := ne_of_types h.wk h.col.1 (by decide)
  have e3 : Tt ≠ C := ne_of_types h.tab.1 h.col.1 (by decide)
  have e5 : Wb ≠ Tt := ne_of_types h.wk h.tab.1 (by decide)
  have hlt : ∀ (v : Value) (e z n : Nat) (xs : List Value) (w : World) (g : Nat), w.ownsRow 0 e z v n xs → v.ownBlock = some g → g < w.heap.size := fun v e z n xs w g ho hg => (ho.lt g hg).2
  have hStge : ∀ g, St Tt vct vft g → g = Tt ∨ H3 ≤ g := fun g hg => by
    rcases hg with e | e | e
    · exact Or.inl e
    · exact Or.inr (h.vcge g e)
    · exact Or.inr (h.vfge g e)
  have hv'ge : ∀ g, v'.ownBlock = some g → H3 ≤ g ∧ vct.ownBlock ≠ some g := fun g hg => by
    rcases hloc with e | ⟨g', e, hg'⟩
    · rw [e, h0] at hg; exact h.vwge g hg
    · rw [e] at hg
      cases hg
      exact ⟨by omega, fun hc => by have := hlt _ _ _ _ _ _ _ h.tab.2.1 hc; omega⟩
  have hbd := List.drop_eq_getElem_cons hj
  refine ⟨hk6.at wk5 (fun hs => by rcases hStge _ hs with e | e <;> omega), ?_, ?_, (h.plm.keep hk (fun g g1 g2 hs => ?_)).keep hk6 (fun g g1 g2 hs => ?_), ?_, ⟨_, ?_, own_keep hrow hk6 (fun g hg hs => ?_)⟩, ?_, ?_, ?_, ?_⟩
  · rw [hbd]
    exact hcol.keep hk6 (fun hs => by rcases hStge _ hs with e | e <;> omega) (fun hs => by rcases hStge _ hs with e | e <;> omega)
  · rw [hbd]
    show TabW w6 Tt vct' vft' (_ :: rws a _ (b.drop (j + 1))).reverse
    rw [List.reverse_cons]
    exact htab
  · rcases hs with e | e | e
    · omega
    · omega
    · have := hSbge _ e; omega
  · rcases hStge _ hs with e | e <;> omega
  · refine h.bel.trans ((hk.below (fun g hs => ?_) h.bel.size).trans (hk6.below (fun g hs => ?_) (Nat.le_trans h.bel.size hk.size)))
    · rcases hs with e | e | e
      · omega
      · omega
      · have := hSbge _ e; omega
    · rcases hStge _ hs with e | e <;> omega
  · have := chg_len (Xc a (b.drop (j + 1))) (msk (pls a b[j])) ((a.length + 63) / 64); omega
  · rcases hs with e | e | e
    · subst e; have := (hv'ge _ hg).1; omega
    · exact (hv'ge _ hg).2 e
    · exact own_ne hrow tab5.2.2 hg e (by decide)
  · intro g hg
    refine ⟨(hv'ge g hg).1, fun hc => ?_⟩
    rcases hl1 with e | ⟨g', e, hg'⟩
    · rw [e] at hc; exact (hv'ge g hg).2 hc
    · rw [e] at hc; cases hc
      have := hlt _ _ _ _ _ _ _ hrow hg; omega
  · intro g hg
    rcases hl1 with e | ⟨g', e, hg'⟩
    · rw [e] at hg; exact h.vcge g hg
    · rw [e] at hg; cases hg
      have := hk.size; omega
  · intro g hg
    rcases hl2 with e | ⟨g', e, hg'⟩
    · rw [e] at hg; exact h.vfge g hg
    · rw [e] at hg; cases hg
      have := hk.size; omega
  · have := hk.size
    have := hk6.size
    omega

set_option maxHeartbeats 6400000 in
set_option maxRecDepth 100000 in
theorem reckon_any (w0 : World) (a b : List Int) (Wb Mb wd Kt Tt H H2 : Nat) (vb vcu vfu : Value) (w : World) (hrb : Rz w0 vb b) (hbw : Below w0.heap.size w0 w) (hwk : WkAt w Wb vb a.length Mb wd Kt Tt (.pointer none) 0)
    (hku : TabU w Kt vcu vfu ((a.length + 63) / 64) (fun _ => 0)) (htw : TabW w Tt (.slice none 0 0) (.slice none 0 0) []) (hpl : Pls w Mb H H2 a) (hwd : b.length ≤ wd) (hwd2 : wd ≤ 8589934592) (hla : a.length ≤ 100000) (hlb : b.length ≤ 100000)
    (hord : w0.heap.size ≤ H ∧ H ≤ H2 ∧ H2 ≤ w.heap.size ∧ w0.heap.size ≤ Wb ∧ (Wb < H ∨ H2 ≤ Wb) ∧ w0.heap.size ≤ Tt ∧ (Tt < H ∨ H2 ≤ Tt) ∧ (Kt < H ∨ H2 ≤ Kt) ∧ w0.heap.size ≤ Kt ∧ (∀ g, vcu.ownBlock = some g → H2 ≤ g)) :
    Calls Try.prog 90 #[.pointer (some ⟨Wb, 0, none⟩)] w (ReckPost w0 a b Wb vb Mb wd Kt Tt) := by
  obtain ⟨i1, i2, i3, i4, i5, i6, i7, i8, i9, i10⟩ := hord
  have hWb : (a.length + 63) / 64 ≤ 100000 := by omega
  have HTK := Lib.hid (takeU_any Kt _ vcu vfu _ w hku (by omega))
  obtain ⟨aob, cb, rfl⟩ := hrb.len
  have FB := Lib.hid hrb.at
  have c4 : w.cell? ⟨Wb, 4, none⟩ = some (.pointer (some ⟨Kt, 0, none⟩)) := cell_at hwk 4
  have HWK := Lib.hid hwk
  have HKU := Lib.hid hku
  have HTW := Lib.hid htw
  have HPL := Lib.hid hpl
  have HBW := Lib.hid hbw
  have hlt := lt_of_at hwk
  obtain ⟨wm, hwm⟩ : ∃ wm, min wd b.length = wm := ⟨_, rfl⟩
  have hwmb : wm = b.length := by omega
  clear hwk hku htw hpl hbw hrb
  go_enter Try.func90, Try.ntmps90
  go_wp2_with fail
  refine HTK.out.mono ?_
  rintro e w1 ⟨v, g, rfl, hwdv, hg, hk1, cK, hcK⟩
  have K1 := Lib.hid hk1
  have hneT : Tt ≠ Kt := ne_of_types HTW.out.1 HKU.out.1 (by decide)
  have hne : Wb ≠ Kt := ne_of_types HWK.out HKU.out.1 (by decide)
  obtain ⟨B, hwdB, hB1, hB2, hB3, hBW, hBT⟩ : ∃ B, Wd w1 v ((a.length + 63) / 64) B (fun _ => 0) ∧ w0.heap.size ≤ B ∧ (B < H ∨ H2 ≤ B) ∧ B < w1.heap.size ∧ B ≠ Wb ∧ B ≠ Tt := by
    by_cases h0 : (a.length + 63) / 64 = 0
    · have hl : Kt < w1.heap.size := Nat.lt_of_lt_of_le (lt_of_at HKU.out.1) hk1.size
      refine ⟨Kt, .inl ⟨h0, ?_⟩, i9, i8, hl, fun e => hne e.symm, fun e => hneT e.symm⟩
      obtain ⟨ao, c, hv⟩ := hwdv.len
      exact ⟨ao, c, by rw [hv, h0]⟩
    · have hgv := hg (by omega)
      have h2 := i10 g hgv
      rcases hwdv with ⟨h, _⟩ | ⟨_, cap, cur, hv, j1, j2, j3, j4⟩
      · exact absurd h h0
      · exact ⟨g, .inr ⟨by omega, cap, cur, hv, j1, j2, j3, j4⟩, by omega, Or.inr h2, lt_of_at j2, fun e => by subst e; exact own_ne_at HKU.out.2.1 hgv HWK.out (by decide), fun e => by subst e; exact own_ne_at HKU.out.2.1 hgv HTW.out.1 (by decide)⟩
  have HCO := Lib.hid (columnOf_any v _ B _ w1 hwdB (fun _ _ => rfl) (by omega))
  clear hwdv hk1 hg HTK hwdB hcK
  go_wp2_with fail
  refine HCO.out.mono ?_
  rintro e w2 ⟨rfl, hcol, hk2⟩
  have hsz1 := K1.out.size
  have hK12 : Keep (fun b => b = Kt) w w2 := K1.out.trans (hk2.mono (fun _ _ h => h.elim))
  have hneTW : Tt ≠ Wb := ne_of_types HTW.out.1 HWK.out (by decide)
  have hwk2 : WkAt w2 Wb (.slice aob b.length cb) a.length Mb wd Kt Tt (.pointer none) 0 := hK12.at HWK.out hne
  have c6 : w2.cell? ⟨Wb, 6, none⟩ = some (.pointer none) := cell_at hwk2 6
  have f6 := frozen_at hwk2 6
  have hlt2 := lt_of_at hwk2
  have hlw := lt_of_at HWK.out
  have hlT := lt_of_at HTW.out.1
  have hwk3 := set_at hwk2 6 (.pointer (some ⟨w1.heap.size, 0, none⟩))
  have hk3 : Keep (fun b => b = Wb) w2 (w2.setCell ⟨Wb, 6, none⟩ (.pointer (some ⟨w1.heap.size, 0, none⟩))) := (Keep.refl (fun b => b = Wb) w2).setCell (p := ⟨Wb, 6, none⟩) (Or.inl rfl) _
  have hk13 : Keep (fun b => b = Kt ∨ b = Wb) w (w2.setCell ⟨Wb, 6, none⟩ (.pointer (some ⟨w1.heap.size, 0, none⟩))) := (hK12.mono (fun _ _ h => Or.inl h)).trans (hk3.mono (fun _ _ h => Or.inr h))
  have HR0 : Hid (Rc w0 a b Wb (.slice aob b.length cb) Mb wd Kt Tt H H2 (w2.setCell ⟨Wb, 6, none⟩ (.pointer (some ⟨w1.heap.size, 0, none⟩))).heap.size w1.heap.size B v b.length (.slice none 0 0) (.slice none 0 0) (.slice none 0 0) ((a.length + 63) / 64) (w2.setCell ⟨Wb, 6, none⟩ (.pointer (some ⟨w1.heap.size, 0, none⟩)))) := Lib.hid (by
    have hsz3 := hk3.size
    have hlc := lt_of_at hcol.1
    refine ⟨hwk3, ?_, ?_, HPL.out.keep hk13 (fun g h1 h2 hs => by rcases hs with h | h <;> omega), HBW.out.trans ((hk13.below (fun g hs => by rcases hs with h | h <;> omega) (HBW.out.size)) ), ⟨[], by simp, World.ownsRow_nil _ _ _ _⟩,
      by simp [Value.ownBlock], by simp [Value.ownBlock], by simp [Value.ownBlock], ?_⟩
    · rw [List.drop_eq_nil_of_le (Nat.le_refl _)]
      exact hcol.keep hk3 (by omega) hBW
    · rw [List.drop_eq_nil_of_le (Nat.le_refl _)]
      exact HTW.out.keep hk13 (fun g hs => by
        rcases hs with h | h | h
        · subst h; intro h; rcases h with h | h
          · exact hneT h
          · exact hneTW h
        · simp [Value.ownBlock] at h
        · simp [Value.ownBlock] at h)
    · omega)
  have c6' : w2.cell? ⟨Wb, 6, none⟩ = some (.pointer none) := c6
  clear hwk3 hk3 hk13 hcol hk2 hK12 hwk2 HTW HKU HWK HPL HBW K1
  go_upto_region 2 with fail
  generalize w2.setCell ⟨Wb, 6, none⟩ (.pointer (some ⟨w1.heap.size, 0, none⟩)) = w3 at *
  generalize hH3 : w3.heap.size = H3 at *
  generalize w1.heap.size = C at *
  clear hH3 c6 c6' f6
  have c0 : w3.cell? ⟨Wb, 0, none⟩ = some (.slice aob b.length cb) := cell_at HR0.out.wk 0
  have c3 : w3.cell? ⟨Wb, 3, none⟩ = some (.int .i64 wd) := cell_at HR0.out.wk 3
  have c7 : w3.cell? ⟨Wb, 7, none⟩ = some (.int .i64 (0 : Nat)) := cell_at HR0.out.wk 7
  have c7' : w3.cell? ⟨Wb, 7, none⟩ = some (.int .i64 0) := c7
  have ea : IntKind.i64.wrap (wd : Int) = (wd : Int) := by rw [IntKind.wrap_i64]; omega
  have ea2 : IntKind.i64.wrap ((0 : Int) + (wd : Int)) = (wd : Int) := by rw [IntKind.wrap_i64]; omega
  have emn : ∀ w, (Builtin.min_ #[3, 3] 3 #[.int .i64 (wd : Int), .int .i64 (b.length : Int)]).run Try.prog w = .ok (.int .i64 (b.length : Int)) w := fun w => by rw [min2]; congr 2; omega
  have eb : IntKind.i64.wrap ((b.length : Int) - 1) = (b.length : Int) - 1 := by rw [IntKind.wrap_i64]; omega
  go_wp2_with fail
  go_quiet (fail)
  have HR1 := Lib.hid (HR0.out.drew nq)
  clear HR0 c0 c3 c7 c7' ea ea2 emn eb
  generalize w3.drewN nq = w4 at *
  go_wp2_with fail
  go_loopw [2, 3] (fun vw s wr => ∃ (r : Nat) (vct vft : Value) (t : Nat), r ≤ b.length ∧ s = .int .i64 ((r : Int) - 1) ∧ Hid (Rc w0 a b Wb (.slice aob b.length cb) Mb wd Kt Tt H H2 H3 C B v r vw vct vft t wr)) (fun _ s _ => (intOf s + 1).toNat)
  case atStart => exact ⟨b.length, _, _, _, Nat.le_refl _, by go_num, HR1⟩
  case round =>
    clear HR1
    obtain ⟨r, vct, vft, t, hr, rfl, HF⟩ := hrel
    have c7 : wr.cell? ⟨Wb, 7, none⟩ = some (.int .i64 0) := cell_at HF.out.wk 7
    rcases r with _ | j
    · have hneg : ((0 : Nat) : Int) - 1 = -1 := by omega
      rw [hneg]
      go_wp2_with fail
      go_end0
      exact HF.out.post
    · have hjb : j < b.length := by omega
      rw [show ((j + 1 : Nat) : Int) - 1 = (j : Int) by omega]
      obtain ⟨bb, ob, rfl, hbb, cb0⟩ := FB.out j hjb
      have cb1 : wr.cell? ⟨bb, ob + j, none⟩ = some (.int .i64 b[j]) := (HF.out.bel.cell (by exact hbb)).trans cb0
      have c0 : wr.cell? ⟨Wb, 0, none⟩ = some (.slice (some ⟨bb, ob, none⟩) b.length cb) := cell_at HF.out.wk 0
      have c2 : wr.cell? ⟨Wb, 2, none⟩ = some (.map (some Mb)) := cell_at HF.out.wk 2
      have c6 : wr.cell? ⟨Wb, 6, none⟩ = some (.pointer (some ⟨C, 0, none⟩)) := cell_at HF.out.wk 6
      obtain ⟨h1, h2, f, n, hmp, hpl⟩ := HF.out.plm
      have hmp2 : Mp wr.drew Mb f n := hmp
      have hl2 := hmp2.lookup b[j]
      obtain ⟨xs, hxl, hrow⟩ := HF.out.row
      obtain ⟨vw0, hs0, hrow0, hown0⟩ := slice_none hrow (by omega)
      have hplx := hpl b[j]
      obtain ⟨vp, hvp⟩ : ∃ vp, (f b[j]).getD (.slice none 0 0) = vp := ⟨_, rfl⟩
      rw [hvp] at hl2 hplx
      obtain ⟨o1, o2, o3, o4, o5, o6, o7, o8, o9, o10, o11, o12, o13, o14, o15, o16, o17, o18⟩ := HF.out.ord
      have hB2 : B < wr.heap.size := by omega
      have his := isCol_all (a := a) (B := b) (j := j + 1) (by omega)
      have HBk := Lib.hid (back_any C B ((a.length + 63) / 64) t v vp vw0 (Xc a (b.drop (j + 1))) (msk (pls a b[j])) (pls a b[j]) [] wr.drew HF.out.col his.lt (fun _ => rfl)
        (Pl.more (S := fun b => b < H ∨ H2 ≤ b) hplx (fun b hb hs => by
          rcases hs with h | h | h
          · right; omega
          · subst h; exact o7
          · right; rw [hown0] at h; have := (HF.out.vwge b h).1; omega))
        (pls_in a _) (pls_rise a _) hrow0 (fun h => by rw [hown0] at h; have := (HF.out.vwge C h).1; omega) (fun h => by rw [hown0] at h; have := (HF.out.vwge B h).1; omega) o14 hWb (by simp) (by
          have := rpl_len (Mc a b[j]) a.length
          unfold Lcx.pls; rw [List.length_reverse]; omega) hB2)
      have HO0 := Lib.hid hown0
      have htb : (chg (Xc a (b.drop (j + 1))) (msk (pls a b[j])) ((a.length + 63) / 64)).length ≤ 100000 := by
        have := chg_len (Xc a (b.drop (j + 1))) (msk (pls a b[j])) ((a.length + 63) / 64); omega
      have hfl := rws_flat a ((a.length + 63) / 64) (b.drop (j + 1))
      have hfl2 : (b.drop (j + 1)).length * ((a.length + 63) / 64) ≤ 100000 * 1600 := Nat.mul_le_mul (by rw [List.length_drop]; omega) (by omega)
      have hrl : (rws a ((a.length + 63) / 64) (b.drop (j + 1))).reverse.length ≤ 1000000 := by rw [List.length_reverse, rws_len, List.length_drop]; omega
      have HADD : Hid (∀ (v' : Value) (w5 : World), TabW w5 Tt vct vft (rws a ((a.length + 63) / 64) (b.drop (j + 1))).reverse → w5.ownsRow 0 142 2 v' (chg (Xc a (b.drop (j + 1))) (msk (pls a b[j])) ((a.length + 63) / 64)).length ((chg (Xc a (b.drop (j + 1))) (msk (pls a b[j])) ((a.length + 63) / 64)).flatMap encW) → _) :=
        Lib.hid (fun v' w5 ht hr => addW_any Tt vct vft v' _ _ w5 ht hr hrl (by omega))
      have d1 := lit_cell cb1
      have d0 := lit_cell c0
      have d2 := lit_cell c2
      have d6 := lit_cell c6
      have hjb2 : (j : Int) < (b.length : Int) := by omega
      clear hmp hmp2 hpl hplx hvp hrow hrow0 hown0 hxl cb0 h1 h2 htb hfl hfl2 hrl his
      go_wp2_with fail
      go_still_tail 18, (by kernel_rfl)
      change wpList _ _ _ _ _ wr.drew
      go_wp2_with fail
      refine HBk.out.mono ?_
      rintro e w5 ⟨v', t', rfl, hcol, hrow, hloc, hk⟩
      have hk0 : Keep (Sb C B vw0) wr w5 := (Keep.refl _ wr).drew.trans hk
      obtain ⟨wk5, tab5⟩ := HF.out.half HO0.out hk0
      have c5 : w5.cell? ⟨Wb, 5, none⟩ = some (.pointer (some ⟨Tt, 0, none⟩)) := cell_at wk5 5
      have hlw5 := lt_of_at wk5
      have HAD := Lib.hid (HADD.out v' w5 tab5 hrow)
      have H5 := Lib.hid (And.intro hcol (And.intro hrow (And.intro hloc hk0)))
      clear hcol hrow hloc hk hk0 wk5 tab5 HBk HADD d0 d1 d2 d6 c0 c2 c6 c7 hl2 cb1
      go_wp2_with fail
      refine HAD.out.mono ?_
      rintro e w6 ⟨⟨x6, rfl⟩, vct', vft', htab, hl1, hl2', hk6⟩
      have HFn : Hid (Rc w0 a b Wb (.slice (some ⟨bb, ob, none⟩) b.length cb) Mb wd Kt Tt H H2 H3 C B v j v' vct' vft' t' w6) := Lib.hid
        (HF.out.step hjb HO0.out H5.out.2.2.2 H5.out.1 H5.out.2.1 H5.out.2.2.1 hWb hk6 htab hl1 hl2')
      clear htab hl1 hl2' hk6 HAD H5 c5
      go_wp2_with fail
      go_roundw
      case rel => exact ⟨j, _, _, t', by omega, by go_num, HFn⟩
      case measure => simp [intOf] <;> omega
end Go.Proofs.Ytipgofglidmffaa.Lp

namespace Go.Proofs.Ytipgofglidmffaa.Lp
open Go.RowKit Go.Proofs.Ytipgofglidmffaa.Cm Go.Proofs.Ytipgofglidmffaa.Lc Go.Proofs.Ytipgofglidmffaa.Lcx
set_option linter.unusedVariables false

/-- The walk stands at place j of b. -/
structure Ws (w0 : World) (a b : List Int) (Wb : Nat) (vb : Value) (Mb wd Kt Tt C B : Nat) (vc : Value) (j : Nat) (vct vft : Value) (t : Nat) (w : World) : Prop where
  wk : WkAt w Wb vb a.length Mb wd Kt Tt (.pointer (some ⟨C, 0, none⟩)) j
  col : Col w C vc ((a.length + 63) / 64) B (Xc a (b.drop j)) t
  tab : TabW w Tt vct vft (rws a ((a.length + 63) / 64) (b.drop j)).reverse
  bel : Below w0.heap.size w0 w
  ord : w0.heap.size ≤ C ∧ w0.heap.size ≤ B ∧ w0.heap.size ≤ Wb ∧ w0.heap.size ≤ Tt ∧ B ≠ C ∧ Wb ≠ B ∧ Tt ≠ B
  vcB : ∀ g, vct.ownBlock = some g → g ≠ B
  vfB : ∀ g, vft.ownBlock = some g → g ≠ B
/-- What a step of the walk changes. -/
def Son (Wb Tt C B W : Nat) : Nat → Prop := fun k => k = Wb ∨ k = Tt ∨ k = C ∨ (0 < W ∧ k = B)

/-- Where the loop of on stands: so many words are put back. -/
structure Oc (w : World) (a b : List Int) (Wb : Nat) (vb : Value) (Mb wd Kt Tt C B : Nat) (vc : Value) (j : Nat) (v vct vft : Value) (r : List (Nat × Nat)) (k t : Nat) (wr : World) : Prop where
  wk : WkAt wr Wb vb a.length Mb wd Kt Tt (.pointer (some ⟨C, 0, none⟩)) j
  col : Col wr C vc ((a.length + 63) / 64) B (back (Xc a (b.drop j)) (r.take k)) t
  tab : TabW wr Tt vct vft (rws a ((a.length + 63) / 64) (b.drop (j + 1))).reverse
  row : Pl (fun g => g = Wb ∨ g = Tt ∨ g = C ∨ g = B) wr v r
  keep : Keep (Son Wb Tt C B ((a.length + 63) / 64)) w wr

set_option maxHeartbeats 6400000 in
set_option maxRecDepth 100000 in
theorem on_any (w0 : World) (a b : List Int) (Wb Mb wd Kt Tt C B j t cb : Nat) (aob : Option Addr) (vc vct vft : Value) (w : World) (h : Ws w0 a b Wb (.slice aob b.length cb) Mb wd Kt Tt C B vc j vct vft t w) (hj : j < b.length) (hwd : b.length ≤ wd) (hwd2 : wd ≤ 8589934592) (hla : a.length ≤ 100000) (hlb : b.length ≤ 100000) :
    Calls Try.prog 91 #[.pointer (some ⟨Wb, 0, none⟩)] w fun e w' => (∃ x, e = .returned x) ∧ (∃ vct' vft' t', Ws w0 a b Wb (.slice aob b.length cb) Mb wd Kt Tt C B vc (j + 1) vct' vft' t' w') ∧ Keep (Son Wb Tt C B ((a.length + 63) / 64)) w w' := by
  obtain ⟨o1, o2, o3, o4, o5, o6, o7⟩ := h.ord
  have hW : (a.length + 63) / 64 ≤ 100000 := by omega
  have e1 : Wb ≠ C := ne_of_types h.wk h.col.1 (by decide)
  have e3 : Tt ≠ C := ne_of_types h.tab.1 h.col.1 (by decide)
  have e5 : Wb ≠ Tt := ne_of_types h.wk h.tab.1 (by decide)
  have hbd := List.drop_eq_getElem_cons hj
  have htab := h.tab
  rw [hbd] at htab
  have htab2 : TabW w Tt vct vft ((rws a ((a.length + 63) / 64) (b.drop (j + 1))).reverse ++ [chg (Xc a (b.drop (j + 1))) (msk (pls a b[j])) ((a.length + 63) / 64)]) := by
    have : (rws a ((a.length + 63) / 64) (b[j] :: b.drop (j + 1))).reverse = (rws a ((a.length + 63) / 64) (b.drop (j + 1))).reverse ++ [chg (Xc a (b.drop (j + 1))) (msk (pls a b[j])) ((a.length + 63) / 64)] := by
      show (_ :: rws a _ (b.drop (j + 1))).reverse = _
      rw [List.reverse_cons]
    rw [this] at htab; exact htab
  have hrl : (chg (Xc a (b.drop (j + 1))) (msk (pls a b[j])) ((a.length + 63) / 64)).length ≤ 100000 := by
    have := chg_len (Xc a (b.drop (j + 1))) (msk (pls a b[j])) ((a.length + 63) / 64); omega
  have hfl := rws_flat a ((a.length + 63) / 64) (b.drop (j + 1))
  have hfl2 : (b.drop (j + 1)).length * ((a.length + 63) / 64) ≤ 100000 * 1600 := Nat.mul_le_mul (by rw [List.length_drop]; omega) (by omega)
  have hrl2 : (rws a ((a.length + 63) / 64) (b.drop (j + 1))).reverse.length ≤ 1000000 := by rw [List.length_reverse, rws_len, List.length_drop]; omega
  have HTK := Lib.hid (takeW_any (fun g => g = Wb ∨ g = Tt ∨ g = C ∨ g = B) Tt vct vft _ _ w htab2 hrl2 (by omega) (fun g hg hs => by
    rcases hs with e | e | e | e
    · subst e; exact own_ne_at h.tab.2.1 hg h.wk (by decide)
    · subst e; exact own_ne_at h.tab.2.1 hg h.tab.1 (by decide)
    · subst e; exact own_ne_at h.tab.2.1 hg h.col.1 (by decide)
    · exact h.vcB g hg e) (fun g hg => Or.inr (Or.inl hg)))
  have hin := chg_in (Xc a (b.drop (j + 1))) (msk (pls a b[j])) ((a.length + 63) / 64)
  have hbk : back (Xc a (b.drop j)) (chg (Xc a (b.drop (j + 1))) (msk (pls a b[j])) ((a.length + 63) / 64)) = Xc a (b.drop (j + 1)) := by
    rw [hbd]
    refine back_all (fun q hq => ?_)
    have z1 := Xc_zero a (b[j] :: b.drop (j + 1)) q hq
    have z2 := Xc_zero a (b.drop (j + 1)) q hq
    rw [z2]; exact z1
  have c5 : w.cell? ⟨Wb, 5, none⟩ = some (.pointer (some ⟨Tt, 0, none⟩)) := cell_at h.wk 5
  have hlw := lt_of_at h.wk
  have HIN := Lib.hid hin
  have HBK := Lib.hid hbk
  have HS := Lib.hid h
  have hW0 : (a.length + 63) / 64 = 0 → (chg (Xc a (b.drop (j + 1))) (msk (pls a b[j])) ((a.length + 63) / 64)) = [] := fun e => by rw [e]; rfl
  have HW0 := Lib.hid hW0
  clear htab htab2 hfl hfl2 hrl2 hbd h hin hbk hW0
  generalize chg (Xc a (b.drop (j + 1))) (msk (pls a b[j])) ((a.length + 63) / 64) = r at *
  go_enter Try.func91, Try.ntmps91
  go_wp2_with fail
  refine HTK.out.mono ?_
  rintro e w1 ⟨v, vct', vft', rfl, hpl, htab, hc', hf', hk1⟩
  have HC' := Lib.hid hc'
  have HF' := Lib.hid hf'
  have HO : Hid (Oc w a b Wb (.slice aob b.length cb) Mb wd Kt Tt C B vc j v vct' vft' r 0 t w1) := Lib.hid
    ⟨hk1.at HS.out.wk e5, by rw [List.take_zero]; exact HS.out.col.keep hk1 (fun e => e3 e.symm) (fun e => o7 e.symm), htab, hpl, hk1.mono (fun g _ hg => Or.inr (Or.inl hg))⟩
  obtain ⟨av, cv, hv, _⟩ := hpl
  subst hv
  clear htab hc' hf' hk1 HTK c5
  go_wp2_with fail
  go_loopw [3, 10] (fun u s wr => ∃ k t, k ≤ r.length ∧ s = .int .i64 k ∧ Hid (Oc w a b Wb (.slice aob b.length cb) Mb wd Kt Tt C B vc j (.slice av r.length cv) vct' vft' r k t wr)) (fun _ s _ => r.length - (intOf s).toNat)
  case atStart => exact ⟨0, t, Nat.zero_le _, rfl, HO⟩
  case round =>
    clear HO
    obtain ⟨k, t2, hk, rfl, HO⟩ := hrel
    by_cases hkr : k < r.length
    · obtain ⟨ao2, cap2, hv2, hc2, hx2⟩ := HO.out.row
      simp only [Value.slice.injEq, true_and] at hv2
      obtain ⟨rfl, rfl⟩ := hv2
      rcases hx2 with hx2 | ⟨g, o, rfl, hg, hsg, hcell⟩
      · rw [hx2] at hkr; exact absurd hkr (Nat.not_lt_zero _)
      obtain ⟨k1, k2⟩ := hcell k r[k] (List.getElem?_eq_getElem hkr)
      have hpW := (HIN.out r[k] (List.getElem_mem hkr)).1
      have hTK : r.take (k + 1) = r.take k ++ [r[k]] := by rw [List.take_add_one, List.getElem?_eq_getElem hkr]; rfl
      have HCB := Lib.hid (back_snoc (Xc a (b.drop j)) (r.take k) r[k])
      rw [← hTK] at HCB
      have tk : (k : Int) < (r.length : Int) := by omega
      have c6 : wr.cell? ⟨Wb, 6, none⟩ = some (.pointer (some ⟨C, 0, none⟩)) := cell_at HO.out.wk 6
      have hlwr := lt_of_at HO.out.wk
      have W0p : 0 < (a.length + 63) / 64 := by omega
      clear hcell hTK hc2
      generalize r[k].1 = pa at *
      generalize r[k].2 = pb at *
      go_upto_region 3 with fail
      have hn := Lib.hid (alloc_new wr (.cells #[.int .i64 pa, .int .u64 pb] 142))
      have hka := Lib.hid (keep_alloc wr (.cells #[.int .i64 pa, .int .u64 pb] 142))
      have d6 := cell_at (hka.out.at HO.out.wk (fun h => h)) 6
      have d6 : (wr.alloc (.cells #[.int .i64 pa, .int .u64 pb] 142)).cell? ⟨Wb, 6, none⟩ = some (.pointer (some ⟨C, 0, none⟩)) := d6
      generalize wr.alloc (.cells #[.int .i64 pa, .int .u64 pb] 142) = w2 at *
      generalize wr.heap.size = N at *
      have d0 : w2.cell? ⟨N, 0, none⟩ = some (.int .i64 pa) := cell_at hn.out 0
      have d1 : w2.cell? ⟨N, 1, none⟩ = some (.int .u64 pb) := cell_at hn.out 1
      have hc2 : Col w2 C vc ((a.length + 63) / 64) B (back (Xc a (b.drop j)) (r.take k)) t2 := HO.out.col.keep hka.out (fun h => h) (fun h => h)
      have HP := Lib.hid (put_any C B ((a.length + 63) / 64) t2 pa pb vc (back (Xc a (b.drop j)) (r.take k)) w2.drew hc2 hpW (by omega) o5)
      have l0 := lit_cell d0
      have l1 := lit_cell d1
      have l6 := lit_cell d6
      clear k1 k2 c6 hn hc2
      go_wp2_with fail
      go_still_tail 5, (by kernel_rfl)
      change wpList _ _ _ _ _ w2.drew
      go_wp2_with fail
      refine HP.out.mono ?_
      rintro e w5 ⟨⟨x5, rfl⟩, hcol, hkeep⟩
      have hk5 : Keep (fun g => g = C ∨ g = B) wr w5 := ((hka.out.mono (fun _ _ h => h.elim)).trans (Keep.refl _ w2).drew).trans hkeep
      have HOn : Hid (Oc w a b Wb (.slice aob b.length cb) Mb wd Kt Tt C B vc j (.slice (some ⟨g, o, none⟩) r.length cv) vct' vft' r (k + 1) (max t2 (pa + 1)) w5) := Lib.hid
        ⟨hk5.at HO.out.wk (fun h => h.elim e1 o6), by rw [HCB.out]; exact hcol, HO.out.tab.keep hk5 (fun g' hg' hs => by
          rcases hg' with e | e | e
          · subst e; exact hs.elim e3 o7
          · rcases hs with h | h
            · subst h; exact own_ne_at HO.out.tab.2.1 e HO.out.col.1 (by decide)
            · rw [HC'.out] at e; exact HS.out.vcB g' e h
          · rcases hs with h | h
            · subst h; exact own_ne_at HO.out.tab.2.2 e HO.out.col.1 (by decide)
            · rw [HF'.out] at e; exact HS.out.vfB g' e h), HO.out.row.keep (hk5.mono (fun g' _ h => Or.inr (Or.inr h))),
          HO.out.keep.trans (hk5.mono (fun g' _ h => Or.inr (Or.inr (h.elim Or.inl (fun h => Or.inr ⟨W0p, h⟩)))))⟩
      clear hcol hkeep hk5 HP hka d0 d1 d6 l0 l1 l6
      go_wp2_with fail
      go_roundw
      case rel => exact ⟨k + 1, _, by omega, by go_num, HOn⟩
      case measure => simp [intOf] <;> omega
    · obtain rfl : k = r.length := by omega
      have hcol := HO.out.col
      rw [List.take_of_length_le (Nat.le_refl _), HBK.out] at hcol
      have c7 : wr.cell? ⟨Wb, 7, none⟩ = some (.int .i64 j) := cell_at HO.out.wk 7
      have f7 := frozen_at HO.out.wk 7
      have hlwr := lt_of_at HO.out.wk
      obtain ⟨j1, hj1⟩ : ∃ j1, j + 1 = j1 := ⟨_, rfl⟩
      have ej : IntKind.i64.wrap ((j : Int) + 1) = (j1 : Int) := by rw [IntKind.wrap_i64]; omega
      have hcol' : Col wr C vc ((a.length + 63) / 64) B (Xc a (b.drop j1)) t2 := by rw [← hj1]; exact hcol
      have htab' : TabW wr Tt vct' vft' (rws a ((a.length + 63) / 64) (b.drop j1)).reverse := by rw [← hj1]; exact HO.out.tab
      have wk2 := set_at HO.out.wk 7 (.int .i64 (j1 : Int))
      have hk2 : Keep (fun g => g = Wb) wr (wr.setCell ⟨Wb, 7, none⟩ (.int .i64 (j1 : Int))) := (Keep.refl (fun g => g = Wb) wr).setCell (p := ⟨Wb, 7, none⟩) (Or.inl rfl) _
      have HWS : Hid (Ws w0 a b Wb (.slice aob b.length cb) Mb wd Kt Tt C B vc j1 vct' vft' t2 (wr.setCell ⟨Wb, 7, none⟩ (.int .i64 (j1 : Int)))) := Lib.hid
        ⟨wk2, hcol'.keep hk2 (fun e => e1 e.symm) (fun e => o6 e.symm), by
          exact htab'.keep hk2 (fun g' hg' hs => by
            subst hs
            rcases hg' with e | e | e
            · exact e5 e
            · exact own_ne_at HO.out.tab.2.1 e HO.out.wk (by decide)
            · exact own_ne_at HO.out.tab.2.2 e HO.out.wk (by decide)),
          HS.out.bel.trans ((HO.out.keep.trans (hk2.mono (fun g' _ h => Or.inl h))).below (fun g' hg' => by
            rcases hg' with h | h | h | ⟨_, h⟩ <;> omega) HS.out.bel.size), ⟨o1, o2, o3, o4, o5, o6, o7⟩, fun g' hg' => HS.out.vcB g' (by rw [← HC'.out]; exact hg'), fun g' hg' => HS.out.vfB g' (by rw [← HF'.out]; exact hg')⟩
      have HKE : Hid (Keep (Son Wb Tt C B ((a.length + 63) / 64)) w (wr.setCell ⟨Wb, 7, none⟩ (.int .i64 (j1 : Int)))) := Lib.hid (HO.out.keep.trans (hk2.mono (fun g' _ h => Or.inl h)))
      have HJ1 := Lib.hid hj1
      have hj1b : j1 ≤ b.length := by omega
      have hj1p : 0 < j1 := by omega
      clear hcol hcol' htab' wk2 hk2 HO hj1 HC' HF' HIN HBK HW0 HS
      go_upto_region 6 with fail
      generalize wr.setCell ⟨Wb, 7, none⟩ (.int .i64 (j1 : Int)) = w5 at *
      have d0 : w5.cell? ⟨Wb, 0, none⟩ = some (.slice aob b.length cb) := cell_at HWS.out.wk 0
      have d3 : w5.cell? ⟨Wb, 3, none⟩ = some (.int .i64 wd) := cell_at HWS.out.wk 3
      have d7 : w5.cell? ⟨Wb, 7, none⟩ = some (.int .i64 j1) := cell_at HWS.out.wk 7
      obtain ⟨m, hm⟩ : ∃ m, j1 % wd = m := ⟨_, rfl⟩
      have em : (j1 : Int) % (wd : Int) = (m : Int) := by rw [← hm]; exact (Int.natCast_emod _ _).symm
      have etm : (j1 : Int).tmod (wd : Int) = (m : Int) := by rw [Int.tmod_eq_emod_of_nonneg (by omega)]; exact em
      have hwdn : ((wd : Int) == 0) = false := by rw [beq_eq_false_iff_ne]; omega
      have hm64 : m ≤ 100000 := by rw [← hm]; exact Nat.le_trans (Nat.mod_le _ _) (by omega)
      have ewm : IntKind.i64.wrap (m : Int) = (m : Int) := by rw [IntKind.wrap_i64]; omega
      by_cases hm0 : m = 0
      · have e0 : ((m : Int) == 0) = true := by rw [beq_iff_eq]; omega
        have hge : wd ≤ j1 := by
          rcases Nat.lt_or_ge j1 wd with h | h
          · rw [Nat.mod_eq_of_lt h] at hm; omega
          · exact h
        have d : decide ((j1 : Int) < (b.length : Int)) = false := decide_eq_false (by omega)
        have d' : decide (j1 < b.length) = false := decide_eq_false (by omega)
        clear hm hm0
        go_wp2_with fail
        go_quiet (fail)
        go_wp2_with fail
        go_end0
        exact ⟨⟨_, rfl⟩, ⟨_, _, _, by rw [HJ1.out]; exact ⟨HWS.out.wk, HWS.out.col, HWS.out.tab, below_drewN HWS.out.bel _, HWS.out.ord, HWS.out.vcB, HWS.out.vfB⟩⟩, HKE.out.drewN _⟩
      · have e0 : ((m : Int) == 0) = false := by rw [beq_eq_false_iff_ne]; omega
        clear hm hm0
        go_wp2_with fail
        go_quiet (fail)
        go_wp2_with fail
        go_end0
        exact ⟨⟨_, rfl⟩, ⟨_, _, _, by rw [HJ1.out]; exact ⟨HWS.out.wk, HWS.out.col, HWS.out.tab, below_drewN HWS.out.bel _, HWS.out.ord, HWS.out.vcB, HWS.out.vfB⟩⟩, HKE.out.drewN _⟩
end Go.Proofs.Ytipgofglidmffaa.Lp
