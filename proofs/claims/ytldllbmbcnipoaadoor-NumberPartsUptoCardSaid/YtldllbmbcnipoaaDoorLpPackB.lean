/-
  CONTRACTS of on and counts (package lcs): the walk goes to the next column.
-/
import Derived.Test.YtldllbmbcnipoaaDoorLpPackA
import Derived.BigRegion
import Derived.Test.YtldllbmbcnipoaaDoorShelf
import Derived.Test.YtldllbmbcnipoaaDoorPkNB
import Derived.Test.YtldllbmbcnipoaaDoorLcPlain
namespace Go.Proofs.YtldllbmbcnipoaaDoor.Lp
open Go.RowKit Go.Proofs.YtldllbmbcnipoaaDoor.Cm Go.Proofs.YtldllbmbcnipoaaDoor.Lc Go.Proofs.YtldllbmbcnipoaaDoor.Lcx
set_option linter.unusedVariables false

/-! ### append of a row of the call's own: its run -/
theorem append_empty {w : World} {B e z n : Nat} {t : TypeId} {v : Value} {xs : List Value} {i0 : TypeInfo} (ht : Tryd.prog.underlying t = some (.slice e)) (hi : Tryd.prog.info? e = some i0) (h : w.ownsRow B e z v n xs) (ty : TypeId) (ao : Option Addr) (c : Nat) :
    (Builtin.append_ #[t, t] ty #[v, .slice ao 0 c]).run Tryd.prog w = .ok v w := by
  rcases h.2 with ⟨rfl, rfl⟩ | ⟨g, cap, cur, rfl, _, _, hnc, _⟩
  · cases ao <;> simp [Builtin.append_, run_underlying ht, sizeOf, typeInfo, hi, Builtin.lenOf, Builtin.firstCells, loadCells, loadCellsFrom]
  · cases ao <;> simp [Builtin.append_, run_underlying ht, sizeOf, typeInfo, hi, Builtin.lenOf, Builtin.firstCells, hnc, storeCells, loadCells, loadCellsFrom]
theorem append_w {w : World} {v u : Value} {os ys : List (Nat × Nat)} (h : w.ownsRow 0 125 2 v os.length (os.flatMap encW)) (hu : w.ownsRow 0 125 2 u ys.length (ys.flatMap encW)) (hs : os.length + ys.length ≤ 1000000000) :
    ∃ v' w', (∀ ty, (Builtin.append_ #[110, 110] ty #[v, u]).run Tryd.prog w = .ok v' w') ∧ w'.ownsRow 0 125 2 v' (os ++ ys).length ((os ++ ys).flatMap encW) ∧ w.grownBy w' v.ownBlock ∧ (v'.ownBlock = v.ownBlock ∨ v'.ownBlock = some w.heap.size) := by
  obtain ⟨i0, hi, hz0, hz1, hz2⟩ := info_parts infoW
  have ht := Tryd.underlying110
  by_cases h0 : ys = []
  · subst h0
    obtain ⟨ao, c, rfl⟩ := own_len hu
    refine ⟨v, w, fun ty => append_empty ht hi h ty ao c, by rw [List.append_nil]; exact h, ⟨rfl, rfl, rfl, Nat.le_refl _, fun k _ _ => rfl⟩, Or.inl rfl⟩
  · have hp : 0 < ys.length := List.length_pos_iff.2 h0
    rcases hu.2 with ⟨_, hx⟩ | ⟨g, cap, cur, rfl, _, _⟩
    · omega
    obtain ⟨v', w', h1, h2, h3, _, h5⟩ := run_append_own_at (P := Tryd.prog) w 0 110 0 125 i0 (.agg #[.int .i64 0, .int .u64 0]) 2 16 ht hi hz0 hz1 hz2 rfl (by decide) v os.length (os.flatMap encW) h ⟨g, 0, none⟩ ys.length cap (ys.flatMap encW) (by have := hu.1; exact this) (hu.cells rfl) (fun x hx => by
      obtain ⟨p, _, hp⟩ := List.mem_flatMap.1 hx
      exact encW_one p x hp) (by unfold maxLen; omega) (by omega) (Nat.zero_le _)
    refine ⟨v', w', fun ty => h1, ?_, h3, h5⟩
    rw [List.length_append, List.flatMap_append]
    exact h2
theorem append_i {w : World} {v : Value} {os : List Int} {x : Int} (h : w.ownsRow 0 3 1 v os.length (os.map (Value.int .i64))) (hs : os.length ≤ 1000000000) :
    ∃ v' w', (∀ ty, (Builtin.append_ #[27, 27] ty #[v, .slice (some ⟨w.heap.size, 0, none⟩) 1 1]).run Tryd.prog (w.alloc (.cells #[.int .i64 x] 3)) = .ok v' w') ∧ w'.ownsRow 0 3 1 v' (os ++ [x]).length ((os ++ [x]).map (Value.int .i64)) ∧ (w.alloc (.cells #[.int .i64 x] 3)).grownBy w' v.ownBlock ∧ (v'.ownBlock = v.ownBlock ∨ v'.ownBlock = some (w.heap.size + 1)) := by
  obtain ⟨i0, hi, hz0, hz1, hz2⟩ := info_parts infoI
  obtain ⟨v', w', h1, h2, h3, _, h5⟩ := run_append_own_at (P := Tryd.prog) (w.alloc (.cells #[.int .i64 x] 3)) 0 27 0 3 i0 (.int .i64 0) 1 8 Tryd.underlying27 hi hz0 hz1 hz2 rfl (by decide) v os.length (os.map (Value.int .i64)) (h.alloc _) ⟨w.heap.size, 0, none⟩ 1 1 [.int .i64 x] rfl newsI1 newsI2 (by unfold maxLen; omega) (by omega) (Nat.zero_le _)
  refine ⟨v', w', fun ty => h1, ?_, h3, by simpa using h5⟩
  rw [List.length_append, List.map_append]
  exact h2
theorem append_u {w : World} {u : Value} {W B : Nat} {X : Nat → Nat} (hu : Wd w u W B X) (hW : W ≤ 1000000) :
    ∃ v' w', (∀ ty, (Builtin.append_ #[112, 112] ty #[.slice none 0 0, u]).run Tryd.prog w = .ok v' w') ∧ w'.ownsRow 0 104 1 v' W ((List.range W).map (fun q => Value.int .u64 (X q))) ∧ w.grownBy w' none ∧ (v' = .slice none 0 0 ∨ v'.ownBlock = some w.heap.size) := by
  obtain ⟨i0, hi, hz0, hz1, hz2⟩ := info_parts infoU
  have ht := Tryd.underlying112
  have h := World.ownsRow_nil w 0 104 1
  rcases hu with ⟨rfl, ao, c, rfl⟩ | ⟨h0, cap, cur, rfl, h1, h2, h3, h4⟩
  · exact ⟨_, w, fun ty => append_empty ht hi h ty ao c, h, ⟨rfl, rfl, rfl, Nat.le_refl _, fun k _ _ => rfl⟩, Or.inl rfl⟩
  · obtain ⟨v', w', k1, k2, k3, _, k5⟩ := run_append_own_at (P := Tryd.prog) w 0 112 0 104 i0 (.int .u64 0) 1 8 ht hi hz0 hz1 hz2 rfl (by decide) (.slice none 0 0) 0 [] h ⟨B, 0, none⟩ W cap ((List.range W).map (fun q => Value.int .u64 (X q))) (by simp) (fun j x hx => by
      have hj : j < W := by have := (List.getElem?_eq_some_iff.1 hx).1; simpa using this
      rw [List.getElem?_map, List.getElem?_range hj] at hx
      have e : (Addr.add ⟨B, 0, none⟩ j) = ⟨B, j, none⟩ := by
        unfold Addr.add
        by_cases h : j = 0
        · subst h; rfl
        · rw [if_neg h]; simp
      rw [e, cell_at h2 j, h4 j hj]
      simpa using hx) (fun x hx => by
      obtain ⟨q, _, rfl⟩ := List.mem_map.1 hx
      rfl) (by unfold maxLen; omega) (by omega) (Nat.zero_le _)
    refine ⟨v', w', fun ty => k1, by simpa using k2, k3, ?_⟩
    rcases k5 with k5 | k5
    · rcases k2.2 with ⟨hv, _⟩ | ⟨g, cap', cur', hv, _⟩
      · exact Or.inl hv
      · rw [hv] at k5; simp [Value.ownBlock] at k5
    · exact Or.inr k5

/-! ### Tables -/
def offs (rows : List (List (Nat × Nat))) : List Int := (List.range rows.length).map (fun i => (((rows.take i).flatten.length : Nat) : Int))
theorem offs_len (rows : List (List (Nat × Nat))) : (offs rows).length = rows.length := by simp [offs]
theorem offs_snoc (rows : List (List (Nat × Nat))) (r : List (Nat × Nat)) : offs (rows ++ [r]) = offs rows ++ [((rows.flatten.length : Nat) : Int)] := by
  unfold offs
  rw [List.length_append, List.length_singleton, List.range_succ, List.map_append]
  congr 1
  · refine List.map_congr_left (fun i hi => ?_)
    have : i < rows.length := List.mem_range.1 hi
    rw [List.take_append_of_le_length (by omega)]
  · simp
/-- What a table's blocks are. -/
def St (T : Nat) (vc vf : Value) : Nat → Prop := fun b => b = T ∨ vc.ownBlock = some b ∨ vf.ownBlock = some b
theorem own_ne {w : World} {B B' e e' z z' n n' g : Nat} {v v' : Value} {xs xs' : List Value} (h : w.ownsRow B e z v n xs) (h' : w.ownsRow B' e' z' v' n' xs') (hg : v.ownBlock = some g) (hg' : v'.ownBlock = some g) (he : e ≠ e') : False := by
  obtain ⟨c, hc⟩ := own_obj h hg
  obtain ⟨c', hc'⟩ := own_obj h' hg'
  rw [hc] at hc'
  simp only [Option.some.injEq, Obj.cells.injEq] at hc'
  exact he hc'.2.1
theorem own_ne_at {w : World} {B e z n g : Nat} {v : Value} {xs : List Value} {c : Array Value} {t : TypeId} (h : w.ownsRow B e z v n xs) (hg : v.ownBlock = some g) (ht : w.heap[g]? = some (.cells c t (0, 0))) (he : e ≠ t) : False := by
  obtain ⟨c', hc⟩ := own_obj h hg
  rw [hc] at ht
  simp only [Option.some.injEq, Obj.cells.injEq] at ht
  exact he ht.2.1
end Go.Proofs.YtldllbmbcnipoaaDoor.Lp

namespace Go.Proofs.YtldllbmbcnipoaaDoor.Lp
open Go.RowKit Go.Proofs.YtldllbmbcnipoaaDoor.Cm Go.Proofs.YtldllbmbcnipoaaDoor.Lc Go.Proofs.YtldllbmbcnipoaaDoor.Lcx
set_option linter.unusedVariables false

theorem own_take {w : World} {e z n k : Nat} {ao : Option Addr} {c : Nat} {xs : List Value} (h : w.ownsRow 0 e z (.slice ao n c) n xs) (hk : k ≤ n) : w.ownsRow 0 e z (.slice ao k c) k (xs.take (k * z)) := by
  refine ⟨?_, ?_⟩
  · rw [List.length_take, h.1, Nat.min_eq_left (Nat.mul_le_mul_right _ hk)]
  · rcases h.2 with ⟨hv, hn⟩ | ⟨g, cap, cur, hv, hb, hg, h1, h2, h3, h4⟩
    · simp only [Value.slice.injEq] at hv
      obtain ⟨rfl, _, rfl⟩ := hv
      have : k = 0 := by omega
      subst this
      exact .inl ⟨rfl, rfl⟩
    · simp only [Value.slice.injEq] at hv
      obtain ⟨rfl, _, rfl⟩ := hv
      refine .inr ⟨g, c, cur, rfl, hb, hg, by omega, h2, h3, ?_⟩
      rw [← h4, List.take_take, Nat.min_eq_left (Nat.mul_le_mul_right _ hk)]
theorem run_toW {ao : Option Addr} {n c k : Nat} (hk : k ≤ n) (hn : n ≤ c) (hl : n ≤ 1000000000) (w : World) :
    (Instr.slice 110 (.slice ao n c) none (some (.int .i64 (k : Int))) none).run Tryd.prog w = .ok (.slice ao k c) w := by
  have u := Tryd.underlying110
  have hz : Tryd.prog.cellsOf 125 = 2 := by kernel_rfl
  have hkc : k ≤ c := by omega
  cases ao <;> go_simp
theorem run_toI {ao : Option Addr} {n c k : Nat} (hk : k ≤ n) (hn : n ≤ c) (hl : n ≤ 1000000000) (w : World) :
    (Instr.slice 27 (.slice ao n c) none (some (.int .i64 (k : Int))) none).run Tryd.prog w = .ok (.slice ao k c) w := by
  have u := Tryd.underlying27
  have hz : Tryd.prog.cellsOf 3 = 1 := by kernel_rfl
  have hkc : k ≤ c := by omega
  cases ao <;> go_simp
theorem run_toU {ao : Option Addr} {n c k : Nat} (hk : k ≤ n) (hn : n ≤ c) (hl : n ≤ 1000000000) (w : World) :
    (Instr.slice 112 (.slice ao n c) none (some (.int .i64 (k : Int))) none).run Tryd.prog w = .ok (.slice ao k c) w := by
  have u := Tryd.underlying112
  have hz : Tryd.prog.cellsOf 104 = 1 := by kernel_rfl
  have hkc : k ≤ c := by omega
  cases ao <;> go_simp
theorem row_from {S : Nat → Prop} {w0 : World} {ac : Option Addr} {cc : Nat} {d r : List (Nat × Nat)} (h : w0.ownsRow 0 125 2 (.slice ac (d ++ r).length cc) (d ++ r).length ((d ++ r).flatMap encW)) (hl : (d ++ r).length ≤ 1000000000) (hS : ∀ g, (Value.slice ac (d ++ r).length cc).ownBlock = some g → ¬ S g) :
    ∃ v, (∀ w, (Instr.slice 110 (.slice ac (d ++ r).length cc) (some (.int .i64 (d.length : Int))) none none).run Tryd.prog w = .ok v w) ∧ Pl S w0 v r := by
  have u := Tryd.underlying110
  have hz : Tryd.prog.cellsOf 125 = 2 := by kernel_rfl
  have hpl := Pl.of_own h hS
  have hlen : (d ++ r).length = d.length + r.length := List.length_append
  obtain ⟨ao, cap, hv, hc, hx⟩ := hpl
  simp only [Value.slice.injEq, true_and] at hv
  obtain ⟨rfl, rfl⟩ := hv
  rw [hlen] at hc hl ⊢
  rcases hx with hx | ⟨b, o, rfl, hb, hs, hcell⟩
  · have hd : d = [] := (List.append_eq_nil_iff.1 hx).1
    have hr : r = [] := (List.append_eq_nil_iff.1 hx).2
    subst hd; subst hr
    refine ⟨.slice ac 0 cc, fun w => ?_, _, _, rfl, by omega, .inl rfl⟩
    cases ac <;> go_simp
  · by_cases hic : d.length < cc
    · refine ⟨.slice (some ⟨b, o + d.length * 2, none⟩) r.length (cc - d.length), fun w => ?_, _, _, rfl, by omega, .inr ⟨b, o + d.length * 2, rfl, hb, hs, fun q x hq => ?_⟩⟩
      · have hicn : ¬ cc ≤ d.length := by omega
        have hn : ¬ cc - d.length = 0 := by omega
        have e1 : d.length + r.length - d.length = r.length := by omega
        go_simp
        rw [if_pos (by omega)]
        try rw [if_neg (by omega)]
        try simp
      · have := hcell (d.length + q) x (by rw [List.getElem?_append_right (by omega), Nat.add_sub_cancel_left]; exact hq)
        rw [show o + (d.length + q) * 2 = o + d.length * 2 + q * 2 by omega] at this
        exact this
    · have hr : r = [] := List.eq_nil_of_length_eq_zero (by omega)
      subst hr
      have e2 : d.length = cc := by simp at hc; omega
      refine ⟨.slice (some ⟨b, o, none⟩) 0 0, fun w => ?_, _, 0, rfl, Nat.le_refl _, .inl rfl⟩
      simp only [List.length_nil, Nat.add_zero] at hl ⊢
      rw [e2] at hl ⊢
      go_simp
end Go.Proofs.YtldllbmbcnipoaaDoor.Lp

namespace Go.Proofs.YtldllbmbcnipoaaDoor.Lp
open Go.RowKit Go.Proofs.YtldllbmbcnipoaaDoor.Cm Go.Proofs.YtldllbmbcnipoaaDoor.Lc Go.Proofs.YtldllbmbcnipoaaDoor.Lcx
set_option linter.unusedVariables false

theorem fromU {w : World} {v : Value} {W : Nat} {X : Nat → Nat} (h : w.ownsRow 0 104 1 v W ((List.range W).map (fun q => Value.int .u64 (X q)))) (hl : W ≤ 1000000) (h0 : v.ownBlock = none → W = 0) :
    ∃ v' g, (∀ w, (Instr.slice 112 v (some (.int .i64 0)) none none).run Tryd.prog w = .ok v' w) ∧ (∀ w', w'.ownsRow 0 104 1 v W ((List.range W).map (fun q => Value.int .u64 (X q))) → Wd w' v' W g X) ∧ (0 < W → v.ownBlock = some g) := by
  have u := Tryd.underlying112
  have hz : Tryd.prog.cellsOf 104 = 1 := by kernel_rfl
  rcases h.2 with ⟨rfl, rfl⟩ | ⟨g, cap, cur, rfl, hb, hg, h1, h2, h3, h4⟩
  · refine ⟨.slice none 0 0, 0, fun w => ?_, fun w' h' => .inl ⟨rfl, _, _, rfl⟩, fun h => absurd h (Nat.lt_irrefl _)⟩
    go_simp
  · by_cases hW : W = 0
    · subst hW
      refine ⟨.slice (some ⟨g, 0, none⟩) 0 cap, g, fun w => ?_, fun w' h' => .inl ⟨rfl, _, _, rfl⟩, fun _ => rfl⟩
      go_simp
    · refine ⟨.slice (some ⟨g, 0, none⟩) W cap, g, fun w => ?_, fun w' h' => ?_, fun _ => rfl⟩
      · have hc : ¬ cap = 0 := by omega
        go_simp
      · rcases h'.2 with ⟨hv, _⟩ | ⟨g', cap', cur', hv, _, hg', k1, k2, k3, k4⟩
        · simp at hv
        · simp only [Value.slice.injEq, Option.some.injEq, Addr.mk.injEq, and_true, true_and] at hv
          obtain ⟨rfl, rfl⟩ := hv
          refine .inr ⟨by omega, cap, cur', rfl, h1, hg', by omega, fun q hq => ?_⟩
          have h8 := h'.cellAt q (by omega)
          rw [cell_at hg' q] at h8
          rw [h8, List.getElem?_map, List.getElem?_range hq]
          rfl
end Go.Proofs.YtldllbmbcnipoaaDoor.Lp

namespace Go.Proofs.YtldllbmbcnipoaaDoor.Lp
open Go.RowKit Go.Proofs.YtldllbmbcnipoaaDoor.Cm Go.Proofs.YtldllbmbcnipoaaDoor.Lc Go.Proofs.YtldllbmbcnipoaaDoor.Lcx
set_option linter.unusedVariables false

end Go.Proofs.YtldllbmbcnipoaaDoor.Lp

namespace Go.Proofs.YtldllbmbcnipoaaDoor.Lp
open Go.RowKit Go.Proofs.YtldllbmbcnipoaaDoor.Cm Go.Proofs.YtldllbmbcnipoaaDoor.Lc
set_option linter.unusedVariables false

def hd : List Int → List Int → Nat
  | x :: a, y :: b => if x = y then hd a b + 1 else 0
  | _, _ => 0
theorem hd_le : ∀ a b : List Int, hd a b ≤ min a.length b.length
  | [], b => by simp [hd]
  | x :: a, [] => by simp [hd]
  | x :: a, y :: b => by
    have := hd_le a b
    simp only [hd, List.length_cons]
    split <;> omega
theorem hd_same : ∀ (a b : List Int) (k : Nat), k < hd a b → a[k]? = b[k]?
  | [], b, k, h => by simp [hd] at h
  | x :: a, [], k, h => by simp [hd] at h
  | x :: a, y :: b, k, h => by
    simp only [hd] at h
    split at h
    · rename_i e
      subst e
      cases k with
      | zero => rfl
      | succ k => simpa using hd_same a b k (by omega)
    · omega
theorem hd_stop : ∀ (a b : List Int), hd a b < a.length → hd a b < b.length → a[hd a b]? ≠ b[hd a b]?
  | [], b, h, _ => by simp [hd] at h
  | x :: a, [], _, h => by simp [hd] at h
  | x :: a, y :: b, h, k => by
    simp only [hd] at h k ⊢
    split
    · rename_i e
      rw [if_pos e] at h k
      simp only [List.length_cons] at h k
      simpa using hd_stop a b (by omega) (by omega)
    · rename_i e
      simpa using e
def tl (a b : List Int) : Nat := min (hd a.reverse b.reverse) (min a.length b.length - hd a b)
theorem rev_at {a : List Int} {k : Nat} (h : k < a.length) : a.reverse[k]? = some (a[a.length - 1 - k]'(by omega)) := by
  rw [List.getElem?_eq_getElem (by simpa using h), List.getElem_reverse]

theorem drew_cell {w wr : World} {n : Nat} {p : Addr} {v : Value} (h : wr = w.drewN n) (c : w.cell? p = some v) : wr.cell? p = some v := by rw [h]; exact c

theorem min2 (w : World) (x y : Int) : (Builtin.min_ #[3, 3] 3 #[.int .i64 x, .int .i64 y]).run Tryd.prog w = .ok (.int .i64 (min x y)) w := by
  have e : ∀ x y : Int, (if y < x then y else x) = min x y := fun x y => by
    rw [Int.min_def]
    split <;> split <;> omega
  simp [Builtin.min_, Builtin.min2, e]

set_option maxHeartbeats 3200000 in
theorem ends_any (va vb : Value) (a b : List Int) (w : World) (ha : Rz w va a) (hb : Rz w vb b) (hla : a.length ≤ 100000) (hlb : b.length ≤ 100000) :
    Calls Tryd.prog 50 #[va, vb] w fun e w' => e = .returned (.tuple #[.int .i64 (hd a b), .int .i64 (tl a b)]) ∧ ∃ n, w' = w.drewN n := by
  obtain ⟨ao, ca, rfl⟩ := ha.len
  obtain ⟨bo, cb, rfl⟩ := hb.len
  have FA := Lib.hid ha.at
  have FB := Lib.hid hb.at
  clear ha hb
  have hle := hd_le a b
  have HS := Lib.hid (hd_same a b)
  have HX := Lib.hid (hd_stop a b)
  have HS2 := Lib.hid (hd_same a.reverse b.reverse)
  have HX2 := Lib.hid (hd_stop a.reverse b.reverse)
  have HL2 := Lib.hid (hd_le a.reverse b.reverse)
  have HT : Hid (tl a b = min (hd a.reverse b.reverse) (min a.length b.length - hd a b)) := Lib.hid rfl
  obtain ⟨L, hL⟩ : ∃ L, min a.length b.length = L := ⟨_, rfl⟩
  have HLL : Hid (L ≤ a.length ∧ L ≤ b.length ∧ (L = a.length ∨ L = b.length)) := Lib.hid (by omega)
  have eL : min (a.length : Int) (b.length : Int) = (L : Int) := by omega
  rw [hL] at hle HT
  generalize hd a b = h at *
  generalize tl a b = t at *
  generalize hd a.reverse b.reverse = r at *
  clear hL
  have m2 := min2
  go_enter Tryd.func50, Tryd.ntmps50
  go_wp2_with fail
  go_loopw [4] (fun s wr => ∃ k n : Nat, k ≤ h ∧ s = .int .i64 k ∧ wr = w.drewN n) (fun s _ => h - (intOf s).toNat)
  case atStart => exact ⟨0, 0, Nat.zero_le _, rfl, rfl⟩
  case round =>
    obtain ⟨k, n, hk, rfl, hwr⟩ := hrel
    have HW := Lib.hid hwr
    by_cases hkh : k < h
    · have hka : k < a.length := by have := HLL.out; omega
      have hkb : k < b.length := by have := HLL.out; omega
      obtain ⟨b1, o1, rfl, hb1, c1⟩ := FA.out k hka
      obtain ⟨b2, o2, rfl, hb2, c2⟩ := FB.out k hkb
      have e3 : a[k] = b[k] := by have := HS.out k hkh; rw [geti hka, geti hkb] at this; exact Option.some.inj this
      have k1 : wr.cell? ⟨b1, o1 + k, none⟩ = some (.int .i64 a[k]) := by rw [hwr]; exact c1
      have k2 : wr.cell? ⟨b2, o2 + k, none⟩ = some (.int .i64 b[k]) := by rw [hwr]; exact c2
      have d0 : decide (k < L) = true := decide_eq_true (by omega)
      have d1 : decide ((k : Int) < (L : Int)) = true := decide_eq_true (by omega)
      have t1 : (k : Int) < (a.length : Int) := by omega
      have t2 : (k : Int) < (b.length : Int) := by omega
      rw [← e3] at k2
      clear c1 c2 e3 hwr
      generalize a[k] = av at *
      go_wp2_with fail
      go_quiet (fail)
      go_wp2_with fail
      go_roundw
      case rel => exact ⟨k + 1, n + nq, by omega, by go_num, by rw [HW.out, World.drewN_drewN]⟩
      case measure => simp [intOf] <;> omega
    · obtain rfl : k = h := by omega
      clear hwr
      by_cases hkl : k < L
      · have hka : k < a.length := by have := HLL.out; omega
        have hkb : k < b.length := by have := HLL.out; omega
        obtain ⟨b1, o1, rfl, hb1, c1⟩ := FA.out k hka
        obtain ⟨b2, o2, rfl, hb2, c2⟩ := FB.out k hkb
        have e3 : (a[k] == b[k]) = false := by
          have := HX.out hka hkb; rw [geti hka, geti hkb] at this; rw [beq_eq_false_iff_ne]; intro h'; exact this (by rw [h'])
        have k1 : wr.cell? ⟨b1, o1 + k, none⟩ = some (.int .i64 a[k]) := by rw [HW.out]; exact c1
        have k2 : wr.cell? ⟨b2, o2 + k, none⟩ = some (.int .i64 b[k]) := by rw [HW.out]; exact c2
        have d0 : decide (k < L) = true := decide_eq_true (by omega)
        have d1 : decide ((k : Int) < (L : Int)) = true := decide_eq_true (by omega)
        have t1 : (k : Int) < (a.length : Int) := by omega
        have t2 : (k : Int) < (b.length : Int) := by omega
        clear c1 c2
        generalize a[k] = av at *
        generalize b[k] = bv at *
        go_wp2_with fail
        go_quiet (fail)
        clear k1 k2 e3 d0 d1 t1 t2 hka hkb
        have HW2 : Hid (wr.drewN nq = w.drewN (n + nq)) := Lib.hid (by rw [HW.out, World.drewN_drewN])
        generalize wr.drewN nq = wq at *
        generalize n + nq = n2 at *
        clear HW hkh
        obtain ⟨m, hm⟩ : ∃ m, L - k = m := ⟨_, rfl⟩
        have em : IntKind.i64.wrap ((L : Int) - (k : Int)) = (m : Int) := by rw [IntKind.wrap_i64]; omega
        have em2 : (L : Int) - (k : Int) = (m : Int) := by omega
        have hkL : m ≤ L := by omega
        rw [hm] at HT
        have HT2 : Hid (t = min r m) := HT
        have HW2' : wq = w.drewN n2 := HW2.out
        subst HW2'
        clear HW2 HT
        go_wp2_with fail
        go_loopw [5] (fun s wr => ∃ k n : Nat, k ≤ t ∧ s = .int .i64 k ∧ wr = w.drewN n) (fun s _ => t - (intOf s).toNat)
        case atStart => exact ⟨0, _, Nat.zero_le _, rfl, rfl⟩
        case round =>
          obtain ⟨q, nn, hq, rfl, hwr⟩ := hrel
          have HW := Lib.hid hwr
          have htm : t ≤ m := by have := HT2.out; omega
          by_cases hqt : q < t
          · have hqa : q < a.length := by have := HLL.out; omega
            have hqb : q < b.length := by have := HLL.out; omega
            obtain ⟨ia, hia⟩ : ∃ ia, a.length - 1 - q = ia := ⟨_, rfl⟩
            obtain ⟨ib, hib⟩ : ∃ ib, b.length - 1 - q = ib := ⟨_, rfl⟩
            have hial : ia < a.length := by omega
            have hibl : ib < b.length := by omega
            have e3 : a[ia] = b[ib] := by
              have := HS2.out q (by have := HT2.out; omega)
              rw [rev_at hqa, rev_at hqb] at this
              simpa only [hia, hib] using Option.some.inj this
            obtain ⟨b3, o3, hao, hb3, c1⟩ := FA.out ia hial
            obtain ⟨b4, o4, hbo, hb4, c2⟩ := FB.out ib hibl
            have k1 := drew_cell hwr c1
            have k2 := drew_cell hwr c2
            cases hao
            cases hbo
            have d0 : decide (q < m) = true := decide_eq_true (by omega)
            have d1 : decide ((q : Int) < (m : Int)) = true := decide_eq_true (by omega)
            have t1 : (ia : Int) < (a.length : Int) := by omega
            have t2 : (ib : Int) < (b.length : Int) := by omega
            obtain ⟨a1, ha1⟩ : ∃ a1 : Nat, a.length - 1 = a1 := ⟨_, rfl⟩
            obtain ⟨b1', hb1'⟩ : ∃ b1 : Nat, b.length - 1 = b1 := ⟨_, rfl⟩
            have s1 : IntKind.i64.wrap ((a.length : Int) - 1) = (a1 : Int) := by rw [IntKind.wrap_i64]; omega
            have s2 : IntKind.i64.wrap ((b.length : Int) - 1) = (b1' : Int) := by rw [IntKind.wrap_i64]; omega
            have s3 : IntKind.i64.wrap ((a1 : Int) - (q : Int)) = (ia : Int) := by rw [IntKind.wrap_i64]; omega
            have s4 : IntKind.i64.wrap ((b1' : Int) - (q : Int)) = (ib : Int) := by rw [IntKind.wrap_i64]; omega
            rw [← e3] at k2
            clear c1 c2 e3 hwr hia hib ha1 hb1'
            generalize a[ia] = av at *
            go_wp2_with fail
            go_quiet (fail)
            go_wp2_with fail
            go_roundw
            case rel => exact ⟨q + 1, nn + nq, by omega, by go_num, by rw [HW.out, World.drewN_drewN]⟩
            case measure => simp [intOf] <;> omega
          · obtain rfl : q = t := by omega
            clear hwr
            by_cases hqm : q < m
            · have hqa : q < a.length := by have := HLL.out; omega
              have hqb : q < b.length := by have := HLL.out; omega
              obtain ⟨ia, hia⟩ : ∃ ia, a.length - 1 - q = ia := ⟨_, rfl⟩
              obtain ⟨ib, hib⟩ : ∃ ib, b.length - 1 - q = ib := ⟨_, rfl⟩
              have hial : ia < a.length := by omega
              have hibl : ib < b.length := by omega
              have hqr : q = r := by have := HT2.out; omega
              have e3 : (a[ia] == b[ib]) = false := by
                have := HX2.out (by rw [List.length_reverse, ← hqr]; exact hqa) (by rw [List.length_reverse, ← hqr]; exact hqb)
                rw [← hqr, rev_at hqa, rev_at hqb] at this
                rw [beq_eq_false_iff_ne]
                intro h'
                simp only [hia, hib] at this
                exact this (by rw [h'])
              obtain ⟨b3, o3, hao, hb3, c1⟩ := FA.out ia hial
              obtain ⟨b4, o4, hbo, hb4, c2⟩ := FB.out ib hibl
              have k1 := drew_cell HW.out c1
              have k2 := drew_cell HW.out c2
              cases hao
              cases hbo
              have d0 : decide (q < m) = true := decide_eq_true (by omega)
              have d1 : decide ((q : Int) < (m : Int)) = true := decide_eq_true (by omega)
              have t1 : (ia : Int) < (a.length : Int) := by omega
              have t2 : (ib : Int) < (b.length : Int) := by omega
              obtain ⟨a1, ha1⟩ : ∃ a1 : Nat, a.length - 1 = a1 := ⟨_, rfl⟩
              obtain ⟨b1', hb1'⟩ : ∃ b1 : Nat, b.length - 1 = b1 := ⟨_, rfl⟩
              have s1 : IntKind.i64.wrap ((a.length : Int) - 1) = (a1 : Int) := by rw [IntKind.wrap_i64]; omega
              have s2 : IntKind.i64.wrap ((b.length : Int) - 1) = (b1' : Int) := by rw [IntKind.wrap_i64]; omega
              have s3 : IntKind.i64.wrap ((a1 : Int) - (q : Int)) = (ia : Int) := by rw [IntKind.wrap_i64]; omega
              have s4 : IntKind.i64.wrap ((b1' : Int) - (q : Int)) = (ib : Int) := by rw [IntKind.wrap_i64]; omega
              clear c1 c2 hia hib ha1 hb1' hqr HX2
              generalize a[ia] = av at *
              generalize b[ib] = bv at *
              go_wp2_with fail
              go_quiet (fail)
              go_wp2_with fail
              go_ret2
              exact ⟨rfl, nn + nq, by rw [HW.out, World.drewN_drewN]⟩
            · have d0 : decide (q < m) = false := decide_eq_false (by omega)
              have d1 : decide ((q : Int) < (m : Int)) = false := decide_eq_false (by omega)
              go_wp2_with fail
              go_quiet (fail)
              go_wp2_with fail
              go_ret2
              exact ⟨rfl, nn + nq, by rw [HW.out, World.drewN_drewN]⟩
      · have d0 : decide (k < L) = false := decide_eq_false (by omega)
        have d1 : decide ((k : Int) < (L : Int)) = false := decide_eq_false (by omega)
        go_wp2_with fail
        go_quiet (fail)
        clear d0 d1
        have HW2 : Hid (wr.drewN nq = w.drewN (n + nq)) := Lib.hid (by rw [HW.out, World.drewN_drewN])
        generalize wr.drewN nq = wq at *
        generalize n + nq = n2 at *
        clear HW hkh
        obtain ⟨m, hm⟩ : ∃ m, L - k = m := ⟨_, rfl⟩
        have em : IntKind.i64.wrap ((L : Int) - (k : Int)) = (m : Int) := by rw [IntKind.wrap_i64]; omega
        have em2 : (L : Int) - (k : Int) = (m : Int) := by omega
        have hkL : m ≤ L := by omega
        rw [hm] at HT
        have HT2 : Hid (t = min r m) := HT
        have HW2' : wq = w.drewN n2 := HW2.out
        subst HW2'
        clear HW2 HT
        go_wp2_with fail
        go_loopw [5] (fun s wr => ∃ k n : Nat, k ≤ t ∧ s = .int .i64 k ∧ wr = w.drewN n) (fun s _ => t - (intOf s).toNat)
        case atStart => exact ⟨0, _, Nat.zero_le _, rfl, rfl⟩
        case round =>
          obtain ⟨q, nn, hq, rfl, hwr⟩ := hrel
          have HW := Lib.hid hwr
          have htm : t ≤ m := by have := HT2.out; omega
          by_cases hqt : q < t
          · have hqa : q < a.length := by have := HLL.out; omega
            have hqb : q < b.length := by have := HLL.out; omega
            obtain ⟨ia, hia⟩ : ∃ ia, a.length - 1 - q = ia := ⟨_, rfl⟩
            obtain ⟨ib, hib⟩ : ∃ ib, b.length - 1 - q = ib := ⟨_, rfl⟩
            have hial : ia < a.length := by omega
            have hibl : ib < b.length := by omega
            have e3 : a[ia] = b[ib] := by
              have := HS2.out q (by have := HT2.out; omega)
              rw [rev_at hqa, rev_at hqb] at this
              simpa only [hia, hib] using Option.some.inj this
            obtain ⟨b3, o3, hao, hb3, c1⟩ := FA.out ia hial
            obtain ⟨b4, o4, hbo, hb4, c2⟩ := FB.out ib hibl
            have k1 := drew_cell hwr c1
            have k2 := drew_cell hwr c2
            cases hao
            cases hbo
            have d0 : decide (q < m) = true := decide_eq_true (by omega)
            have d1 : decide ((q : Int) < (m : Int)) = true := decide_eq_true (by omega)
            have t1 : (ia : Int) < (a.length : Int) := by omega
            have t2 : (ib : Int) < (b.length : Int) := by omega
            obtain ⟨a1, ha1⟩ : ∃ a1 : Nat, a.length - 1 = a1 := ⟨_, rfl⟩
            obtain ⟨b1', hb1'⟩ : ∃ b1 : Nat, b.length - 1 = b1 := ⟨_, rfl⟩
            have s1 : IntKind.i64.wrap ((a.length : Int) - 1) = (a1 : Int) := by rw [IntKind.wrap_i64]; omega
            have s2 : IntKind.i64.wrap ((b.length : Int) - 1) = (b1' : Int) := by rw [IntKind.wrap_i64]; omega
            have s3 : IntKind.i64.wrap ((a1 : Int) - (q : Int)) = (ia : Int) := by rw [IntKind.wrap_i64]; omega
            have s4 : IntKind.i64.wrap ((b1' : Int) - (q : Int)) = (ib : Int) := by rw [IntKind.wrap_i64]; omega
            rw [← e3] at k2
            clear c1 c2 e3 hwr hia hib ha1 hb1'
            generalize a[ia] = av at *
            go_wp2_with fail
            go_quiet (fail)
            go_wp2_with fail
            go_roundw
            case rel => exact ⟨q + 1, nn + nq, by omega, by go_num, by rw [HW.out, World.drewN_drewN]⟩
            case measure => simp [intOf] <;> omega
          · obtain rfl : q = t := by omega
            clear hwr
            by_cases hqm : q < m
            · have hqa : q < a.length := by have := HLL.out; omega
              have hqb : q < b.length := by have := HLL.out; omega
              obtain ⟨ia, hia⟩ : ∃ ia, a.length - 1 - q = ia := ⟨_, rfl⟩
              obtain ⟨ib, hib⟩ : ∃ ib, b.length - 1 - q = ib := ⟨_, rfl⟩
              have hial : ia < a.length := by omega
              have hibl : ib < b.length := by omega
              have hqr : q = r := by have := HT2.out; omega
              have e3 : (a[ia] == b[ib]) = false := by
                have := HX2.out (by rw [List.length_reverse, ← hqr]; exact hqa) (by rw [List.length_reverse, ← hqr]; exact hqb)
                rw [← hqr, rev_at hqa, rev_at hqb] at this
                rw [beq_eq_false_iff_ne]
                intro h'
                simp only [hia, hib] at this
                exact this (by rw [h'])
              obtain ⟨b3, o3, hao, hb3, c1⟩ := FA.out ia hial
              obtain ⟨b4, o4, hbo, hb4, c2⟩ := FB.out ib hibl
              have k1 := drew_cell HW.out c1
              have k2 := drew_cell HW.out c2
              cases hao
              cases hbo
              have d0 : decide (q < m) = true := decide_eq_true (by omega)
              have d1 : decide ((q : Int) < (m : Int)) = true := decide_eq_true (by omega)
              have t1 : (ia : Int) < (a.length : Int) := by omega
              have t2 : (ib : Int) < (b.length : Int) := by omega
              obtain ⟨a1, ha1⟩ : ∃ a1 : Nat, a.length - 1 = a1 := ⟨_, rfl⟩
              obtain ⟨b1', hb1'⟩ : ∃ b1 : Nat, b.length - 1 = b1 := ⟨_, rfl⟩
              have s1 : IntKind.i64.wrap ((a.length : Int) - 1) = (a1 : Int) := by rw [IntKind.wrap_i64]; omega
              have s2 : IntKind.i64.wrap ((b.length : Int) - 1) = (b1' : Int) := by rw [IntKind.wrap_i64]; omega
              have s3 : IntKind.i64.wrap ((a1 : Int) - (q : Int)) = (ia : Int) := by rw [IntKind.wrap_i64]; omega
              have s4 : IntKind.i64.wrap ((b1' : Int) - (q : Int)) = (ib : Int) := by rw [IntKind.wrap_i64]; omega
              clear c1 c2 hia hib ha1 hb1' hqr HX2
              generalize a[ia] = av at *
              generalize b[ib] = bv at *
              go_wp2_with fail
              go_quiet (fail)
              go_wp2_with fail
              go_ret2
              exact ⟨rfl, nn + nq, by rw [HW.out, World.drewN_drewN]⟩
            · have d0 : decide (q < m) = false := decide_eq_false (by omega)
              have d1 : decide ((q : Int) < (m : Int)) = false := decide_eq_false (by omega)
              go_wp2_with fail
              go_quiet (fail)
              go_wp2_with fail
              go_ret2
              exact ⟨rfl, nn + nq, by rw [HW.out, World.drewN_drewN]⟩

end Go.Proofs.YtldllbmbcnipoaaDoor.Lp

namespace Go.Proofs.YtldllbmbcnipoaaDoor.Lp
open Go.RowKit Go.Proofs.YtldllbmbcnipoaaDoor.Cm Go.Proofs.YtldllbmbcnipoaaDoor.Lc Go.Proofs.YtldllbmbcnipoaaDoor.Lcx
set_option linter.unusedVariables false

/-- The column at place j of b is at hand; 'were' is some memory of the call's own. -/
structure Fc (w0 : World) (a b : List Int) (Mb H2 H3 C B : Nat) (vc vw : Value) (j : Nat) (X : Nat → Nat) (t : Nat) (wr : World) : Prop where
  col : Col wr C vc ((a.length + 63) / 64) B X t
  is : IsCol a b j X
  pls : Pls wr Mb w0.heap.size H2 a
  bel : Below w0.heap.size w0 wr
  ord : w0.heap.size ≤ H2 ∧ H2 ≤ C ∧ C < H3 ∧ H2 ≤ B ∧ B < H3 ∧ B ≠ C ∧ H3 ≤ wr.heap.size
  row : ∃ xs : List (Nat × Nat), xs.length ≤ 100000 ∧ wr.ownsRow 0 125 2 vw xs.length (xs.flatMap encW) ∧ ∀ g, vw.ownBlock = some g → H3 ≤ g
theorem chg_take (X M : Nat → Nat) (W : Nat) (hW : W ≤ 100000) : ([] ++ chg X M W : List (Nat × Nat)).length ≤ 100000 := by
  have := chg_len X M W
  simp; omega

set_option maxHeartbeats 6400000 in
set_option maxRecDepth 100000 in
theorem firstColumn_any (va vb : Value) (a b : List Int) (w : World) (ha : Rz w va a) (hb : Rz w vb b) (hla : a.length ≤ 100000) (hlb : b.length ≤ 100000) :
    Calls Tryd.prog 51 #[va, vb] w fun e w' => ∃ C vc B X t, e = .returned (.pointer (some ⟨C, 0, none⟩)) ∧ Col w' C vc ((a.length + 63) / 64) B X t ∧ IsCol a b 0 X ∧ Below w.heap.size w w' := by
  have HPl := Lib.hid (placesOf_any va a w ha hla)
  have HLa := Lib.hid (fun w1 (h : Below w.heap.size w w1) => lastColumn_any va a w1 (ha.below h) (by omega))
  obtain ⟨aoa, ca, rfl⟩ := ha.len
  obtain ⟨aob, cb, rfl⟩ := hb.len
  have FB := Lib.hid hb.at
  clear ha hb
  go_enter Tryd.func51, Tryd.ntmps51
  go_wp2_with fail
  refine HPl.out.mono ?_
  rintro e w1 ⟨Mb, rfl, hp, hb1⟩
  have HP1 := Lib.hid hp
  have HB1 := Lib.hid hb1
  clear hp hb1
  go_wp2_with fail
  refine (HLa.out _ HB1.out).mono ?_
  rintro e w2 ⟨C, vc, B, rfl, hcol, hB, hC, hBC, hB2, hb2⟩
  have HF0 : Hid (Fc w a b Mb w1.heap.size w2.heap.size C B vc (.slice none 0 0) b.length (fun _ => 0) ((a.length + 63) / 64) w2) := Lib.hid
    ⟨hcol, isCol_end a b, HP1.out.keep (Keep.of_below (S := fun _ => False) hb2) (fun _ _ _ h => h), HB1.out.trans (hb2.mono HB1.out.size), ⟨HB1.out.size, hC, lt_of_at hcol.1, hB, hB2, hBC, Nat.le_refl _⟩,
      ⟨[], by simp, World.ownsRow_nil _ _ _ _, by simp [Value.ownBlock]⟩⟩
  clear hcol hB hC hBC hB2 hb2 HPl HLa HP1 HB1
  generalize w1.heap.size = H2 at *
  generalize w2.heap.size = H3 at *
  go_wp2_with fail
  go_loopw [7, 8] (fun vw s wr => ∃ (r : Nat) (X : Nat → Nat) (t : Nat), r ≤ b.length ∧ s = .int .i64 ((r : Int) - 1) ∧ Hid (Fc w a b Mb H2 H3 C B vc vw r X t wr)) (fun _ s _ => (intOf s + 1).toNat)
  case atStart => exact ⟨b.length, _, _, Nat.le_refl _, by go_num, HF0⟩
  case round =>
    clear HF0
    obtain ⟨r, X, t, hr, rfl, HF⟩ := hrel
    rcases r with _ | j
    · have hneg : ((0 : Nat) : Int) - 1 = -1 := by omega
      rw [hneg]
      go_wp2_with fail
      go_ret
      exact ⟨_, _, _, _, _, rfl, HF.out.col, HF.out.is, HF.out.bel⟩
    · have hjb : j < b.length := by omega
      rw [show ((j + 1 : Nat) : Int) - 1 = (j : Int) by omega]
      obtain ⟨bb, ob, rfl, hbb, cb0⟩ := FB.out j hjb
      have cb1 : wr.cell? ⟨bb, ob + j, none⟩ = some (.int .i64 b[j]) := (HF.out.bel.cell (by exact hbb)).trans cb0
      obtain ⟨h1, h2, f, n, hmp, hpl⟩ := HF.out.pls
      have hl1 := hmp.lookup b[j]
      have hmp2 : Mp wr.drew Mb f n := hmp
      have hl2 := hmp2.lookup b[j]
      obtain ⟨xs, hxl, hrow, hge⟩ := HF.out.row
      obtain ⟨vw0, hs0, hrow0, hown0⟩ := slice_none hrow (by omega)
      have hplx := hpl b[j]
      obtain ⟨vp, hvp⟩ : ∃ vp, (f b[j]).getD (.slice none 0 0) = vp := ⟨_, rfl⟩
      rw [hvp] at hl1 hl2 hplx
      obtain ⟨o1, o2, o3, o4, o5, o6, o7⟩ := HF.out.ord
      have hWb : (a.length + 63) / 64 ≤ 100000 := by omega
      have hB2 : B < wr.heap.size := by omega
      have HBk := Lib.hid (back_any C B ((a.length + 63) / 64) t vc vp vw0 X (msk (pls a b[j])) (pls a b[j]) [] wr.drew HF.out.col HF.out.is.lt (fun _ => rfl)
        (Pl.more (S := fun b => b < w.heap.size ∨ H2 ≤ b) hplx (fun b hb hs => by
          rcases hs with h | h | h
          · right; omega
          · right; omega
          · right; rw [hown0] at h; have := hge b h; omega))
        (pls_in a _) (pls_rise a _) hrow0 (fun h => by rw [hown0] at h; have := hge C h; omega) (fun h => by rw [hown0] at h; have := hge B h; omega) o6 hWb (by simp) (by
          have := rpl_len (Mc a b[j]) a.length
          unfold Lcx.pls; rw [List.length_reverse]; omega) hB2)
      have HIS := Lib.hid (HF.out.is.step hjb)
      have d1 := lit_cell cb1
      have hjb2 : (j : Int) < (b.length : Int) := by omega
      have HO0 := Lib.hid hown0
      have HGE := Lib.hid hge
      have HCL := Lib.hid (chg_take X (msk (pls a b[j])) ((a.length + 63) / 64) hWb)
      clear hmp hmp2 hpl hplx hvp hrow hrow0 hown0 hge hxl cb0 h1 h2
      generalize b[j] = y at *
      go_wp2_with fail
      go_still_tail 9, (by kernel_rfl)
      change wpList _ _ _ _ _ wr.drew
      go_wp2_with fail
      refine HBk.out.mono ?_
      rintro e w5 ⟨v', t', rfl, hcol, hrow, hloc, hk⟩
      have HFn : Hid (Fc w a b Mb H2 H3 C B vc v' j (nw X (msk (pls a y))) t' w5) := Lib.hid (by
        have hk0 : Keep (Sb C B vw0) wr w5 := (Keep.refl _ wr).drew.trans hk
        have hSb : ∀ g, Sb C B vw0 g → H2 ≤ g := fun g hs => by
          rcases hs with h | h | h
          · omega
          · omega
          · rw [HO0.out] at h; have := HGE.out g h; omega
        refine ⟨hcol, HIS.out, HF.out.pls.keep hk0 (fun g h1 h2 hs => by have := hSb g hs; omega), HF.out.bel.trans (hk0.below (fun g hs => by have := hSb g hs; omega) (by omega)), ⟨o1, o2, o3, o4, o5, o6, Nat.le_trans o7 hk0.size⟩, ⟨_, HCL.out, hrow, fun g hg => ?_⟩⟩
        rcases hloc with h | ⟨g', h, hg'⟩
        · rw [h, HO0.out] at hg; exact HGE.out g hg
        · rw [h] at hg; cases hg; exact Nat.le_trans o7 hg')
      clear hcol hrow hloc hk HBk
      go_wp2_with fail
      go_roundw
      case rel => exact ⟨j, _, t', by omega, by go_num, HFn⟩
      case measure => simp [intOf] <;> omega

/-! ### Plain: what is alike at both ends can be had in any case -/
theorem lcs_head : ∀ (p x y : List Int), lcs (p ++ x) (p ++ y) = p.length + lcs x y
  | [], x, y => by simp
  | z :: p, x, y => by
    rw [List.cons_append, List.cons_append, lcs_yes rfl, lcs_head p x y, List.length_cons]; omega
theorem lcs_tail (p x y : List Int) : lcs (x ++ p) (y ++ p) = lcs x y + p.length := by
  rw [← lcs_rev, List.reverse_append, List.reverse_append, lcs_head, lcs_rev, List.length_reverse]; omega
/-- The part between the ends. -/
def mdl (a : List Int) (h t : Nat) : List Int := (a.drop h).take (a.length - t - h)
theorem ends_le (a b : List Int) : hd a b ≤ a.length ∧ hd a b ≤ b.length ∧ hd a b + tl a b ≤ a.length ∧ hd a b + tl a b ≤ b.length := by
  have := hd_le a b
  unfold tl
  omega
theorem take_eq {a b : List Int} {h : Nat} (h1 : h ≤ a.length) (h2 : h ≤ b.length) (hs : ∀ k, k < h → a[k]? = b[k]?) : a.take h = b.take h := by
  apply List.ext_getElem?
  intro k
  by_cases hk : k < h
  · rw [List.getElem?_take_of_lt hk, List.getElem?_take_of_lt hk, hs k hk]
  · rw [List.getElem?_eq_none (by rw [List.length_take]; omega), List.getElem?_eq_none (by rw [List.length_take]; omega)]
theorem tail_eq (a b : List Int) : a.drop (a.length - tl a b) = b.drop (b.length - tl a b) := by
  have hl := hd_le a.reverse b.reverse
  have h1 : tl a b ≤ hd a.reverse b.reverse := by unfold tl; omega
  have := take_eq (a := a.reverse) (b := b.reverse) (h := tl a b) (by omega) (by omega) (fun k hk => hd_same _ _ k (by omega))
  have h2 := congrArg List.reverse this
  rw [List.reverse_take, List.reverse_take, List.reverse_reverse, List.reverse_reverse, List.length_reverse, List.length_reverse] at h2
  exact h2
theorem parts (a : List Int) (h t : Nat) (hh : h + t ≤ a.length) : a = a.take h ++ (mdl a h t ++ a.drop (a.length - t)) := by
  unfold mdl
  have e1 : a.drop (a.length - t) = (a.drop h).drop (a.length - t - h) := by rw [List.drop_drop]; congr 1; omega
  rw [e1, List.take_append_drop, List.take_append_drop]
theorem ends_lcs (a b : List Int) : lcs a b = hd a b + lcs (mdl a (hd a b) (tl a b)) (mdl b (hd a b) (tl a b)) + tl a b := by
  obtain ⟨h1, h2, h3, h4⟩ := ends_le a b
  have ht := take_eq h1 h2 (hd_same a b)
  have hd' := tail_eq a b
  have e : lcs a b = lcs (a.take (hd a b) ++ (mdl a (hd a b) (tl a b) ++ a.drop (a.length - tl a b))) (b.take (hd a b) ++ (mdl b (hd a b) (tl a b) ++ b.drop (b.length - tl a b))) := congr (congrArg lcs (parts a _ _ h3)) (parts b _ _ h4)
  rw [e, ht, lcs_head, hd', lcs_tail, List.length_take, List.length_drop]
  omega
theorem mdl_len {a : List Int} {h t : Nat} (hh : h + t ≤ a.length) : (mdl a h t).length = a.length - t - h := by
  unfold mdl; rw [List.length_take, List.length_drop]; omega

set_option maxHeartbeats 3200000 in
theorem length_any (va vb : Value) (a b : List Int) (w : World) (ha : Rz w va a) (hb : Rz w vb b) (hla : a.length ≤ 100000) (hlb : b.length ≤ 100000) :
    Calls Tryd.prog 35 #[va, vb] w fun e w' => e = .returned (.int .i64 (lcs a b)) ∧ Below w.heap.size w w' := by
  have HE := Lib.hid (ends_any va vb a b w ha hb hla hlb)
  obtain ⟨h1, h2, h3, h4⟩ := ends_le a b
  have hL := ends_lcs a b
  obtain ⟨aoa, ca, rfl⟩ := ha.len
  obtain ⟨aob, cb, rfl⟩ := hb.len
  obtain ⟨x, hx⟩ : ∃ x, a.length - tl a b = x := ⟨_, rfl⟩
  obtain ⟨y, hy⟩ : ∃ y, b.length - tl a b = y := ⟨_, rfl⟩
  have ex : IntKind.i64.wrap ((a.length : Int) - (tl a b : Int)) = (x : Int) := by rw [IntKind.wrap_i64]; omega
  have ey : IntKind.i64.wrap ((b.length : Int) - (tl a b : Int)) = (y : Int) := by rw [IntKind.wrap_i64]; omega
  obtain ⟨v1, r1, s1⟩ := slice_run ha (hd a b) x (by omega) (by omega) (by omega)
  obtain ⟨v2, r2, s2⟩ := slice_run hb (hd a b) y (by omega) (by omega) (by omega)
  have l1 : (mdl a (hd a b) (tl a b)).length ≤ 100000 := by rw [mdl_len h3]; omega
  have l2 : (mdl b (hd a b) (tl a b)).length ≤ 100000 := by rw [mdl_len h4]; omega
  have e1 : (a.drop (hd a b)).take (x - hd a b) = mdl a (hd a b) (tl a b) := by rw [← hx]; rfl
  have e2 : (b.drop (hd a b)).take (y - hd a b) = mdl b (hd a b) (tl a b) := by rw [← hy]; rfl
  rw [e1] at s1
  rw [e2] at s2
  have S1 := Lib.hid s1
  have S2 := Lib.hid s2
  have HLs := Lib.hid hL
  have hle : lcs (mdl a (hd a b) (tl a b)) (mdl b (hd a b) (tl a b)) ≤ 100000 := Nat.le_trans (lcs_le_left _ _) l1
  have HFC := Lib.hid (fun w' (h : Below w.heap.size w w') => firstColumn_any v1 v2 (mdl a (hd a b) (tl a b)) (mdl b (hd a b) (tl a b)) w' (s1 w' h) (s2 w' h) l1 l2)
  have HCT : Hid (∀ (C : Nat) (vc : Value) (B : Nat) (X : Nat → Nat) (t : Nat) (w' : World), Col w' C vc (((mdl a (hd a b) (tl a b)).length + 63) / 64) B X t → IsCol (mdl a (hd a b) (tl a b)) (mdl b (hd a b) (tl a b)) 0 X →
      Calls Tryd.prog 52 #[.pointer (some ⟨C, 0, none⟩)] w' fun e w'' => e = .returned (.int .i64 (lcs (mdl a (hd a b) (tl a b)) (mdl b (hd a b) (tl a b)))) ∧ w' = w'') := Lib.hid (fun C vc B X t w' h1 h2 => by
        have h3 := h2.count
        rw [tb_zero] at h3
        rw [← h3]
        exact count_any C B _ t vc X w' h1 h2.lt (by omega))
  clear hL e1 e2 s1 s2 hx hy ha hb
  generalize lcs (mdl a (hd a b) (tl a b)) (mdl b (hd a b) (tl a b)) = lm at *
  generalize hd a b = h at *
  generalize tl a b = t at *
  go_enter Tryd.func35, Tryd.ntmps35
  go_wp2_with fail
  refine HE.out.mono ?_
  rintro e w1 ⟨rfl, n1, rfl⟩
  go_wp2_with fail
  go_quiet (fail)
  have HB : Hid (Below w.heap.size w ((w.drewN n1).drewN nq)) := Lib.hid (below_drewN (below_drewN (Below.refl _ _) _) _)
  generalize (w.drewN n1).drewN nq = w2 at *
  go_wp2_with fail
  refine (HFC.out _ HB.out).mono ?_
  rintro e w3 ⟨C, vc, B, X, tt, rfl, hcol, his, hb3⟩
  have HB3 := Lib.hid (HB.out.trans (hb3.mono HB.out.size))
  have HC3 := Lib.hid (HCT.out C vc B X tt w3 hcol his)
  clear hcol his hb3
  go_wp2_with fail
  refine HC3.out.mono ?_
  rintro e w4 ⟨rfl, rfl⟩
  go_wp2_with fail
  go_ret
  exact ⟨ret_int (by have := HLs.out; omega), HB3.out⟩

theorem dice_eq (a b : List Int) : ((dice a b : Nat) : Int) = if a.length + b.length = 0 then 1000 else ((2 * (lcs a b : Int)) * 1000) / ((a.length + b.length : Nat) : Int) := by
  unfold dice
  by_cases h : a.length + b.length = 0
  · rw [if_pos h, if_pos h]; rfl
  · rw [if_neg h, if_neg h, Int.natCast_ediv]
    congr 1
    omega
set_option maxHeartbeats 1600000 in
theorem dice_any (va vb : Value) (a b : List Int) (w : World) (ha : Rz w va a) (hb : Rz w vb b) (hla : a.length ≤ 100000) (hlb : b.length ≤ 100000) :
    Calls Tryd.prog 23 #[va, vb] w fun e w' => e = .returned (.int .i64 (dice a b)) ∧ Below w.heap.size w w' := by
  have HL := Lib.hid (length_any va vb a b w ha hb hla hlb)
  have HD := Lib.hid (dice_eq a b)
  obtain ⟨aoa, ca, rfl⟩ := ha.len
  obtain ⟨aob, cb, rfl⟩ := hb.len
  have hle := lcs_le_left a b
  clear ha hb
  generalize dice a b = d at *
  generalize lcs a b = l at *
  obtain ⟨s, hs⟩ : ∃ s, a.length + b.length = s := ⟨_, rfl⟩
  have es : IntKind.i64.wrap ((a.length : Int) + (b.length : Int)) = (s : Int) := by rw [IntKind.wrap_i64]; omega
  rw [hs] at HD
  have hsb : s ≤ 200000 := by omega
  by_cases h0 : s = 0
  · have e0 : ((s : Int) == 0) = true := by rw [beq_iff_eq]; omega
    have H0 := Lib.hid h0
    have HS := Lib.hid hs
    clear hs h0
    go_enter Tryd.func23, Tryd.ntmps23
    go_wp2_with fail
    go_ret
    exact ⟨ret_int (by have := HD.out; rw [if_pos H0.out] at this; exact this.symm), Below.refl _ _⟩
  · have e0 : ((s : Int) == 0) = false := by rw [beq_eq_false_iff_ne]; omega
    have hsp : 0 < s := by omega
    have HS := Lib.hid hs
    have H0 := Lib.hid h0
    clear hs h0
    go_enter Tryd.func23, Tryd.ntmps23
    go_wp2_with fail
    refine HL.out.mono ?_
    rintro e w1 ⟨rfl, hb1⟩
    have Hb := Lib.hid hb1
    clear hb1
    go_wp2_with fail
    go_ret
    exact ⟨ret_int (by have := HD.out; rw [if_neg H0.out] at this; rw [this]), Hb.out⟩
end Go.Proofs.YtldllbmbcnipoaaDoor.Lp

namespace Go.Proofs.YtldllbmbcnipoaaDoor.Lp
open Go.RowKit Go.Proofs.YtldllbmbcnipoaaDoor.Cm Go.Proofs.YtldllbmbcnipoaaDoor.Lc Go.Proofs.YtldllbmbcnipoaaDoor.Lcx
set_option linter.unusedVariables false

/-! ### Plain: all columns -/
def Xc (a : List Int) : List Int → Nat → Nat
  | [] => fun _ => 0
  | y :: b => nw (Xc a b) (msk (pls a y))
def rws (a : List Int) (W : Nat) : List Int → List (List (Nat × Nat))
  | [] => []
  | y :: b => chg (Xc a b) (msk (pls a y)) W :: rws a W b
theorem isCol_at (a B : List Int) : ∀ (n j : Nat), B.length - j = n → j ≤ B.length → IsCol a B j (Xc a (B.drop j))
  | 0, j, h, hj => by
    obtain rfl : j = B.length := by omega
    rw [List.drop_eq_nil_of_le (Nat.le_refl _)]
    exact isCol_end a B
  | n + 1, j, h, hj => by
    have hl : j < B.length := by omega
    rw [List.drop_eq_getElem_cons hl]
    exact (isCol_at a B n (j + 1) (by omega) (by omega)).step hl
theorem isCol_all {a B : List Int} {j : Nat} (hj : j ≤ B.length) : IsCol a B j (Xc a (B.drop j)) := isCol_at a B _ j rfl hj
theorem rws_len (a : List Int) (W : Nat) : ∀ b : List Int, (rws a W b).length = b.length
  | [] => rfl
  | y :: b => by show (rws a W b).length + 1 = b.length + 1; rw [rws_len a W b]
theorem rws_flat (a : List Int) (W : Nat) : ∀ b : List Int, ((rws a W b).reverse).flatten.length ≤ b.length * W
  | [] => by simp [rws]
  | y :: b => by
    show ((chg (Xc a b) (msk (pls a y)) W :: rws a W b).reverse).flatten.length ≤ (b.length + 1) * W
    rw [List.reverse_cons, List.flatten_append, List.length_append, Nat.succ_mul]
    have := rws_flat a W b
    have := chg_len (Xc a b) (msk (pls a y)) W
    rw [List.flatten_cons, List.flatten_nil, List.append_nil]
    omega
/-- What was changed, put back. -/
def back (Y : Nat → Nat) : List (Nat × Nat) → Nat → Nat
  | [] => Y
  | p :: l => back (up Y p.1 p.2) l
theorem back_snoc (Y : Nat → Nat) (l : List (Nat × Nat)) (p : Nat × Nat) : back Y (l ++ [p]) = up (back Y l) p.1 p.2 := by
  induction l generalizing Y with
  | nil => rfl
  | cons x l ih => exact ih _
theorem back_chg (X M : Nat → Nat) : ∀ k q, back (nw X M) (chg X M k) q = if q < k then X q else nw X M q
  | 0, q => by rw [if_neg (by omega)]; rfl
  | k + 1, q => by
    show back (nw X M) (chg X M k ++ (if nw X M k = X k then [] else [(k, X k)])) q = _
    have ih := back_chg X M k q
    by_cases e : nw X M k = X k
    · rw [if_pos e, List.append_nil, ih]
      by_cases h1 : q < k
      · rw [if_pos h1, if_pos (by omega)]
      · rw [if_neg h1]
        by_cases h2 : q < k + 1
        · rw [if_pos h2, show q = k by omega, e]
        · rw [if_neg h2]
    · rw [if_neg e, back_snoc]
      unfold up
      by_cases h1 : q = k
      · rw [if_pos h1, if_pos (by omega), h1]
      · rw [if_neg h1, ih]
        by_cases h2 : q < k
        · rw [if_pos h2, if_pos (by omega)]
        · rw [if_neg h2, if_neg (by omega)]
theorem back_all {X M : Nat → Nat} {W : Nat} (h : ∀ q, W ≤ q → nw X M q = X q) : back (nw X M) (chg X M W) = X := funext (fun q => by
  rw [back_chg]
  by_cases e : q < W
  · rw [if_pos e]
  · rw [if_neg e, h q (by omega)])
theorem Xc_zero (a b : List Int) (q : Nat) (h : (a.length + 63) / 64 ≤ q) : Xc a b q = 0 := by
  have := isCol_all (a := a) (B := b) (j := 0) (Nat.zero_le _)
  rw [List.drop_zero] at this
  exact this.zero h

theorem ne_of_types {w : World} {k k' : Nat} {c c' : Array Value} {t t' : TypeId} {f f' : Nat × Nat} (h : w.heap[k]? = some (.cells c t f)) (h' : w.heap[k']? = some (.cells c' t' f')) (ht : t ≠ t') : k ≠ k' := by
  intro e
  subst e
  rw [h] at h'
  simp only [Option.some.injEq, Obj.cells.injEq] at h'
  exact ht h'.2.1
theorem own_ne_at' {w : World} {B e z n g : Nat} {v : Value} {xs : List Value} {c : Array Value} {t : TypeId} (h : w.ownsRow B e z v n xs) (ht : w.heap[g]? = some (.cells c t (0, 0))) (he : e ≠ t) : v.ownBlock ≠ some g := fun hg => own_ne_at h hg ht he

end Go.Proofs.YtldllbmbcnipoaaDoor.Lp

namespace Go.Proofs.YtldllbmbcnipoaaDoor.Lp
open Go.RowKit Go.Proofs.YtldllbmbcnipoaaDoor.Cm Go.Proofs.YtldllbmbcnipoaaDoor.Lc Go.Proofs.YtldllbmbcnipoaaDoor.Lcx
set_option linter.unusedVariables false

/-- What a step of the walk changes. -/
def Son (Wb Tt C B W : Nat) : Nat → Prop := fun k => k = Wb ∨ k = Tt ∨ k = C ∨ (0 < W ∧ k = B)

end Go.Proofs.YtldllbmbcnipoaaDoor.Lp
