/-
  TABLES OF ROWS (package lcs): what they hold in memory; CONTRACTS of newTable, add, take.
-/
import Derived.Test.YtbfclmhcoelplaaLpPlaces
namespace Go.Proofs.Ytbfclmhcoelplaa.Lp
open Go.RowKit Go.Proofs.Ytbfclmhcoelplaa.Cm Go.Proofs.Ytbfclmhcoelplaa.Lc Go.Proofs.Ytbfclmhcoelplaa.Lcx
set_option linter.unusedVariables false

/-! ### append of a row of the call's own: its run -/
theorem append_empty {w : World} {B e z n : Nat} {t : TypeId} {v : Value} {xs : List Value} {i0 : TypeInfo} (ht : Try.prog.underlying t = some (.slice e)) (hi : Try.prog.info? e = some i0) (h : w.ownsRow B e z v n xs) (ty : TypeId) (ao : Option Addr) (c : Nat) :
    (Builtin.append_ #[t, t] ty #[v, .slice ao 0 c]).run Try.prog w = .ok v w := by
  rcases h.2 with ⟨rfl, rfl⟩ | ⟨g, cap, cur, rfl, _, _, hnc, _⟩
  · cases ao <;> simp [Builtin.append_, run_underlying ht, sizeOf, typeInfo, hi, Builtin.lenOf, Builtin.firstCells, loadCells, loadCellsFrom]
  · cases ao <;> simp [Builtin.append_, run_underlying ht, sizeOf, typeInfo, hi, Builtin.lenOf, Builtin.firstCells, hnc, storeCells, loadCells, loadCellsFrom]
theorem append_w {w : World} {v u : Value} {os ys : List (Nat × Nat)} (h : w.ownsRow 0 89 2 v os.length (os.flatMap encW)) (hu : w.ownsRow 0 89 2 u ys.length (ys.flatMap encW)) (hs : os.length + ys.length ≤ 1000000000) :
    ∃ v' w', (∀ ty, (Builtin.append_ #[99, 99] ty #[v, u]).run Try.prog w = .ok v' w') ∧ w'.ownsRow 0 89 2 v' (os ++ ys).length ((os ++ ys).flatMap encW) ∧ w.grownBy w' v.ownBlock ∧ (v'.ownBlock = v.ownBlock ∨ v'.ownBlock = some w.heap.size) := by
  obtain ⟨i0, hi, hz0, hz1, hz2⟩ := info_parts infoW
  have ht := Try.underlying99
  by_cases h0 : ys = []
  · subst h0
    obtain ⟨ao, c, rfl⟩ := own_len hu
    refine ⟨v, w, fun ty => append_empty ht hi h ty ao c, by rw [List.append_nil]; exact h, ⟨rfl, rfl, rfl, Nat.le_refl _, fun k _ _ => rfl⟩, Or.inl rfl⟩
  · have hp : 0 < ys.length := List.length_pos_iff.2 h0
    rcases hu.2 with ⟨_, hx⟩ | ⟨g, cap, cur, rfl, _, _⟩
    · omega
    obtain ⟨v', w', h1, h2, h3, _, h5⟩ := run_append_own_at (P := Try.prog) w 0 99 0 89 i0 (.agg #[.int .i64 0, .int .u64 0]) 2 16 ht hi hz0 hz1 hz2 rfl (by decide) v os.length (os.flatMap encW) h ⟨g, 0, none⟩ ys.length cap (ys.flatMap encW) (by have := hu.1; exact this) (hu.cells rfl) (fun x hx => by
      obtain ⟨p, _, hp⟩ := List.mem_flatMap.1 hx
      exact encW_one p x hp) (by unfold maxLen; omega) (by omega) (Nat.zero_le _)
    refine ⟨v', w', fun ty => h1, ?_, h3, h5⟩
    rw [List.length_append, List.flatMap_append]
    exact h2
theorem append_i {w : World} {v : Value} {os : List Int} {x : Int} (h : w.ownsRow 0 3 1 v os.length (os.map (Value.int .i64))) (hs : os.length ≤ 1000000000) :
    ∃ v' w', (∀ ty, (Builtin.append_ #[22, 22] ty #[v, .slice (some ⟨w.heap.size, 0, none⟩) 1 1]).run Try.prog (w.alloc (.cells #[.int .i64 x] 3)) = .ok v' w') ∧ w'.ownsRow 0 3 1 v' (os ++ [x]).length ((os ++ [x]).map (Value.int .i64)) ∧ (w.alloc (.cells #[.int .i64 x] 3)).grownBy w' v.ownBlock ∧ (v'.ownBlock = v.ownBlock ∨ v'.ownBlock = some (w.heap.size + 1)) := by
  obtain ⟨i0, hi, hz0, hz1, hz2⟩ := info_parts infoI
  obtain ⟨v', w', h1, h2, h3, _, h5⟩ := run_append_own_at (P := Try.prog) (w.alloc (.cells #[.int .i64 x] 3)) 0 22 0 3 i0 (.int .i64 0) 1 8 Try.underlying22 hi hz0 hz1 hz2 rfl (by decide) v os.length (os.map (Value.int .i64)) (h.alloc _) ⟨w.heap.size, 0, none⟩ 1 1 [.int .i64 x] rfl newsI1 newsI2 (by unfold maxLen; omega) (by omega) (Nat.zero_le _)
  refine ⟨v', w', fun ty => h1, ?_, h3, by simpa using h5⟩
  rw [List.length_append, List.map_append]
  exact h2
theorem append_u {w : World} {u : Value} {W B : Nat} {X : Nat → Nat} (hu : Wd w u W B X) (hW : W ≤ 1000000) :
    ∃ v' w', (∀ ty, (Builtin.append_ #[95, 95] ty #[.slice none 0 0, u]).run Try.prog w = .ok v' w') ∧ w'.ownsRow 0 85 1 v' W ((List.range W).map (fun q => Value.int .u64 (X q))) ∧ w.grownBy w' none ∧ (v' = .slice none 0 0 ∨ v'.ownBlock = some w.heap.size) := by
  obtain ⟨i0, hi, hz0, hz1, hz2⟩ := info_parts infoU
  have ht := Try.underlying95
  have h := World.ownsRow_nil w 0 85 1
  rcases hu with ⟨rfl, ao, c, rfl⟩ | ⟨h0, cap, cur, rfl, h1, h2, h3, h4⟩
  · exact ⟨_, w, fun ty => append_empty ht hi h ty ao c, h, ⟨rfl, rfl, rfl, Nat.le_refl _, fun k _ _ => rfl⟩, Or.inl rfl⟩
  · obtain ⟨v', w', k1, k2, k3, _, k5⟩ := run_append_own_at (P := Try.prog) w 0 95 0 85 i0 (.int .u64 0) 1 8 ht hi hz0 hz1 hz2 rfl (by decide) (.slice none 0 0) 0 [] h ⟨B, 0, none⟩ W cap ((List.range W).map (fun q => Value.int .u64 (X q))) (by simp) (fun j x hx => by
      have hj : j < W := by have := (List.getElem?_eq_some_iff.1 hx).1; simpa using this
      rw [List.getElem?_map, List.getElem?_range hj] at hx
      have e : (Addr.add ⟨B, 0, none⟩ j) = ⟨B, j, none⟩ := by
        unfold Addr.add
        by_cases h : j = 0
        · subst h; rfl
        · rw [if_neg h]; simp
      rw [e, cell_at h2 j, h4 j hj]
      simpa using hx) (fun x hx => by
      obtain ⟨q, _, rfl⟩ := List.mem_map.1 hx
      rfl) (by unfold maxLen; omega) (by omega) (Nat.zero_le _)
    refine ⟨v', w', fun ty => k1, by simpa using k2, k3, ?_⟩
    rcases k5 with k5 | k5
    · rcases k2.2 with ⟨hv, _⟩ | ⟨g, cap', cur', hv, _⟩
      · exact Or.inl hv
      · rw [hv] at k5; simp [Value.ownBlock] at k5
    · exact Or.inr k5

/-! ### Tables -/
def offs (rows : List (List (Nat × Nat))) : List Int := (List.range rows.length).map (fun i => (((rows.take i).flatten.length : Nat) : Int))
theorem offs_len (rows : List (List (Nat × Nat))) : (offs rows).length = rows.length := by simp [offs]
theorem offs_snoc (rows : List (List (Nat × Nat))) (r : List (Nat × Nat)) : offs (rows ++ [r]) = offs rows ++ [((rows.flatten.length : Nat) : Int)] := by
  unfold offs
  rw [List.length_append, List.length_singleton, List.range_succ, List.map_append]
  congr 1
  · refine List.map_congr_left (fun i hi => ?_)
    have : i < rows.length := List.mem_range.1 hi
    rw [List.take_append_of_le_length (by omega)]
  · simp
/-- A table of rows of words. -/
def TabW (w : World) (T : Nat) (vc vf : Value) (rows : List (List (Nat × Nat))) : Prop :=
  w.heap[T]? = some (.cells #[vc, vf] 106 (0, 0)) ∧ w.ownsRow 0 89 2 vc rows.flatten.length (rows.flatten.flatMap encW) ∧ w.ownsRow 0 3 1 vf rows.length ((offs rows).map (Value.int .i64))
/-- What a table's blocks are. -/
def St (T : Nat) (vc vf : Value) : Nat → Prop := fun b => b = T ∨ vc.ownBlock = some b ∨ vf.ownBlock = some b
theorem TabW.keep {S : Nat → Prop} {w w' : World} {T : Nat} {vc vf : Value} {rows : List (List (Nat × Nat))} (h : TabW w T vc vf rows) (k : Keep S w w') (hS : ∀ b, St T vc vf b → ¬ S b) : TabW w' T vc vf rows :=
  ⟨k.at h.1 (hS T (Or.inl rfl)), own_keep h.2.1 k (fun g hg => hS g (Or.inr (Or.inl hg))), own_keep h.2.2 k (fun g hg => hS g (Or.inr (Or.inr hg)))⟩
theorem newTableW_any (w : World) : Calls Try.prog 48 #[] w fun e w' => e = .returned (.pointer (some ⟨w.heap.size, 0, none⟩)) ∧ TabW w' w.heap.size (.slice none 0 0) (.slice none 0 0) [] ∧ Keep (fun _ => False) w w' := by
  go_enter Try.func48, Try.ntmps48
  go_wp2_with fail
  go_ret
  exact ⟨rfl, ⟨alloc_new w _, World.ownsRow_nil _ _ _ _, World.ownsRow_nil _ _ _ _⟩, keep_alloc w _⟩
theorem newTableU_any (w : World) : Calls Try.prog 47 #[] w fun e w' => e = .returned (.pointer (some ⟨w.heap.size, 0, none⟩)) ∧ w'.heap[w.heap.size]? = some (.cells #[.slice none 0 0, .slice none 0 0] 104 (0, 0)) ∧ Keep (fun _ => False) w w' := by
  go_enter Try.func47, Try.ntmps47
  go_wp2_with fail
  go_ret
  exact ⟨rfl, alloc_new w _, keep_alloc w _⟩

theorem own_ne {w : World} {B B' e e' z z' n n' g : Nat} {v v' : Value} {xs xs' : List Value} (h : w.ownsRow B e z v n xs) (h' : w.ownsRow B' e' z' v' n' xs') (hg : v.ownBlock = some g) (hg' : v'.ownBlock = some g) (he : e ≠ e') : False := by
  obtain ⟨c, hc⟩ := own_obj h hg
  obtain ⟨c', hc'⟩ := own_obj h' hg'
  rw [hc] at hc'
  simp only [Option.some.injEq, Obj.cells.injEq] at hc'
  exact he hc'.2.1
theorem own_ne_at {w : World} {B e z n g : Nat} {v : Value} {xs : List Value} {c : Array Value} {t : TypeId} (h : w.ownsRow B e z v n xs) (hg : v.ownBlock = some g) (ht : w.heap[g]? = some (.cells c t (0, 0))) (he : e ≠ t) : False := by
  obtain ⟨c', hc⟩ := own_obj h hg
  rw [hc] at ht
  simp only [Option.some.injEq, Obj.cells.injEq] at ht
  exact he ht.2.1
set_option maxHeartbeats 1600000 in
theorem addW_any (T : Nat) (vc vf vr : Value) (rows : List (List (Nat × Nat))) (r : List (Nat × Nat)) (w : World) (h : TabW w T vc vf rows) (hr : w.ownsRow 0 89 2 vr r.length (r.flatMap encW)) (hn : rows.length ≤ 1000000) (hf : rows.flatten.length + r.length ≤ 1000000000) :
    Calls Try.prog 62 #[.pointer (some ⟨T, 0, none⟩), vr] w fun e w' => (∃ x, e = .returned x) ∧ ∃ vc' vf', TabW w' T vc' vf' (rows ++ [r]) ∧
      (vc'.ownBlock = vc.ownBlock ∨ ∃ g, vc'.ownBlock = some g ∧ w.heap.size ≤ g) ∧ (vf'.ownBlock = vf.ownBlock ∨ ∃ g, vf'.ownBlock = some g ∧ w.heap.size ≤ g) ∧ Keep (St T vc vf) w w' := by
  obtain ⟨h1, h2, h3⟩ := h
  obtain ⟨ac, cc, rfl⟩ := own_len h2
  obtain ⟨af, cf, rfl⟩ := own_len h3
  have hT := lt_of_at h1
  have h3' : w.drew.ownsRow 0 3 1 (.slice af rows.length cf) (offs rows).length ((offs rows).map (Value.int .i64)) := by rw [offs_len]; exact h3
  obtain ⟨vf', w1, q1, o1, g1, l1⟩ := append_i (x := ((rows.flatten.length : Nat) : Int)) h3' (by rw [offs_len]; omega)
  obtain ⟨af', cf', rfl⟩ := own_len o1
  generalize hvf : Value.slice af' (offs rows ++ [((rows.flatten.length : Nat) : Int)]).length cf' = vf' at *
  have q1' : ∀ ty, (Builtin.append_ #[22, 22] ty #[.slice af rows.length cf, .slice (some ⟨w.heap.size, 0, none⟩) 1 1]).run Try.prog ((w.alloc (.cells #[.int .i64 ((rows.flatten.length : Nat) : Int)] 3)).drew) = .ok vf' w1 := q1
  have hfT : ∀ g, (Value.slice af rows.length cf).ownBlock = some g → g ≠ T := fun g hg e => by
    subst e; exact own_ne_at h3 hg h1 (by decide)
  have hcT : ∀ g, (Value.slice ac rows.flatten.length cc).ownBlock = some g → g ≠ T := fun g hg e => by
    subst e; exact own_ne_at h2 hg h1 (by decide)
  have k1 : Keep (fun b => (Value.slice af rows.length cf).ownBlock = some b) w w1 := (((Keep.refl _ w).drew).alloc _).grown g1 (fun b hb => Or.inl hb)
  have t1 := k1.at h1 (fun e => hfT T e rfl)
  have f1 := frozen_at t1 1
  have c1 : w1.cell? ⟨T, 1, none⟩ = some (.slice af rows.length cf) := cell_at t1 1
  have hT1 := lt_of_at t1
  have t2 := set_at t1 1 vf'
  have k2 : Keep (fun b => b = T) w1 (w1.setCell ⟨T, 1, none⟩ vf') := (Keep.refl (fun b => b = T) w1).setCell (p := ⟨T, 1, none⟩) (Or.inl rfl) _
  have r2 : (w1.setCell ⟨T, 1, none⟩ vf').ownsRow 0 89 2 vr r.length (r.flatMap encW) := own_keep (own_keep hr k1 (fun g hg e => own_ne hr h3 hg e (by decide))) k2 (fun g hg e => by
    subst e; exact own_ne_at (own_keep hr k1 (fun g hg e => own_ne hr h3 hg e (by decide))) hg t1 (by decide))
  have s2 : (w1.setCell ⟨T, 1, none⟩ vf').ownsRow 0 89 2 (.slice ac rows.flatten.length cc) rows.flatten.length (rows.flatten.flatMap encW) := own_keep (own_keep h2 k1 (fun g hg e => own_ne h2 h3 hg e (by decide))) k2 (fun g hg e => hcT g hg e)
  have p2 : (w1.setCell ⟨T, 1, none⟩ vf').ownsRow 0 3 1 vf' (rows ++ [r]).length ((offs (rows ++ [r])).map (Value.int .i64)) := by
    rw [offs_snoc]
    have e : (rows ++ [r]).length = (offs rows ++ [((rows.flatten.length : Nat) : Int)]).length := by simp [offs_len]
    rw [e]
    refine own_keep o1 k2 (fun g hg e => ?_)
    subst e
    exact own_ne_at o1 hg t1 (by decide)
  obtain ⟨vc', w3, q3, o3, g3, l3⟩ := append_w s2 r2 hf
  have k3 : Keep (fun b => (Value.slice ac rows.flatten.length cc).ownBlock = some b) (w1.setCell ⟨T, 1, none⟩ vf') w3 := (Keep.refl _ _).grown g3 (fun b hb => Or.inl hb)
  have t3 := k3.at t2 (fun e => hcT T e rfl)
  have f3 := frozen_at t3 0
  have c3 : w3.cell? ⟨T, 0, none⟩ = some (.slice ac rows.flatten.length cc) := cell_at t3 0
  have hT3 := lt_of_at t3
  have c2 : (w1.setCell ⟨T, 1, none⟩ vf').cell? ⟨T, 0, none⟩ = some (.slice ac rows.flatten.length cc) := cell_at t2 0
  obtain ⟨ac', cc', hvc⟩ := own_len o3
  have t4 := set_at t3 0 vc'
  have k4 : Keep (fun b => b = T) w3 (w3.setCell ⟨T, 0, none⟩ vc') := (Keep.refl (fun b => b = T) w3).setCell (p := ⟨T, 0, none⟩) (Or.inl rfl) _
  have FIN : Hid (TabW (w3.setCell ⟨T, 0, none⟩ vc') T vc' vf' (rows ++ [r])) := Lib.hid ⟨t4, by
      have e : (rows ++ [r]).flatten = rows.flatten ++ r := by simp
      rw [e]
      refine own_keep o3 k4 (fun g hg e => ?_)
      subst e
      exact own_ne_at o3 hg t3 (by decide), own_keep (own_keep p2 k3 (fun g hg e => own_ne p2 s2 hg e (by decide))) k4 (fun g hg e => by
      subst e
      exact own_ne_at (own_keep p2 k3 (fun g hg e => own_ne p2 s2 hg e (by decide))) hg t3 (by decide))⟩
  have FK : Hid (Keep (St T (.slice ac rows.flatten.length cc) (.slice af rows.length cf)) w (w3.setCell ⟨T, 0, none⟩ vc')) := Lib.hid
    ((((k1.mono (fun b _ h => Or.inr (Or.inr h))).trans (k2.mono (fun b _ h => Or.inl h))).trans (k3.mono (fun b _ h => Or.inr (Or.inl h)))).trans (k4.mono (fun b _ h => Or.inl h)))
  have FL1 : Hid (vc'.ownBlock = (Value.slice ac rows.flatten.length cc).ownBlock ∨ ∃ g, vc'.ownBlock = some g ∧ w.heap.size ≤ g) := Lib.hid (by
    rcases l3 with h | h
    · exact Or.inl h
    · exact Or.inr ⟨_, h, Nat.le_trans k1.size k2.size⟩)
  have FL2 : Hid (vf'.ownBlock = (Value.slice af rows.length cf).ownBlock ∨ ∃ g, vf'.ownBlock = some g ∧ w.heap.size ≤ g) := Lib.hid (by
    rcases l1 with h | h
    · exact Or.inl h
    · exact Or.inr ⟨_, h, by show w.heap.size ≤ w.heap.size + 1; omega⟩)
  have d0 : w.cell? ⟨T, 0, none⟩ = some (.slice ac rows.flatten.length cc) := cell_at h1 0
  have d1 : w.cell? ⟨T, 1, none⟩ = some (.slice af rows.length cf) := cell_at h1 1
  obtain ⟨ar, cr, rfl⟩ := own_len hr
  clear h1 h2 h3 h3' q1 o1 g1 l1 k1 t1 t2 k2 r2 s2 p2 o3 g3 l3 k3 t3 t4 k4 hr hfT hcT
  subst hvf
  subst hvc
  generalize (offs rows ++ [((rows.flatten.length : Nat) : Int)]).length = nfn at *
  generalize (rows.flatten ++ r).length = ncn at *
  generalize rows.flatten.length = nf at *
  generalize rows.length = nr at *
  go_enter Try.func62, Try.ntmps62
  go_wp2_with fail
  go_region_law (first
    | (refine step_append_run rfl (.tmp 8) (.tmp 14) _ _ rfl _ _ rfl rfl _ _ q1' ?_))
  all_goals
    go_wp2_with (at_builtin; refine Lib.wpList_append_run _ rfl (.tmp 22) (.tmp 23) _ _ rfl _ _ rfl rfl _ _ (q3 _) ?_)
    go_end0
    exact ⟨⟨_, rfl⟩, _, _, FIN.out, FL1.out, FL2.out, FK.out⟩
end Go.Proofs.Ytbfclmhcoelplaa.Lp
