/-
  CONTRACTS of slices.Grow (of a nil slice), slices.Concat, Sort and Compact, at strings: what lies in memory of the call's own.
-/
import Derived.Test.YtldllbmbcnipoaaDoorTkPlaces
import Derived.Test.YtldllbmbcnipoaaDoorShelf
import Derived.Lib.AppendZeros
namespace Go.Proofs.YtldllbmbcnipoaaDoor.Tk
open Go.RowKit
open Go.Sort (Holds putRow grow grow_empty)
set_option linter.unusedVariables false

/-- A slice of slices that reads as these lists of texts. -/
def RdL (w : World) (v : Value) (ls : List (List Tx)) : Prop :=
  ∃ ao cap, v = .slice ao ls.length cap ∧ (ls = [] ∨ ∃ b o, ao = some ⟨b, o, none⟩ ∧ b < w.heap.size ∧ ∀ j x, ls[j]? = some x → ∃ u, w.cell? ⟨b, o + j, none⟩ = some u ∧ Rd w u x)
theorem RdL.below {w w' : World} {v : Value} {ls : List (List Tx)} (h : RdL w v ls) (hb : Below w.heap.size w w') : RdL w' v ls := by
  obtain ⟨ao, cap, hv, hx⟩ := h
  refine ⟨ao, cap, hv, ?_⟩
  rcases hx with hx | ⟨b, o, hao, hlt, hcell⟩
  · exact Or.inl hx
  · refine Or.inr ⟨b, o, hao, Nat.lt_of_lt_of_le hlt hb.size, fun j x hj => ?_⟩
    obtain ⟨u, h1, h2⟩ := hcell j x hj
    exact ⟨u, (hb.cell (by exact hlt)).trans h1, h2.below hb⟩

set_option maxHeartbeats 800000 in
theorem grow_any (n : Nat) (hn : n ≤ 1000000) (w : World) :
    Calls Tryd.prog 37 #[.slice none 0 0, .int .i64 n] w fun e w' => ∃ v, e = .returned v ∧ w'.ownsRow w.heap.size 9 1 v 0 [] ∧ Below w.heap.size w w' := by
  obtain ⟨i0, hi, hz0, hz1, hz2⟩ := info_parts infoS
  by_cases h0 : 0 < n
  · have hr := fun ty => Lib.run_append_nil_zeros (P := Tryd.prog) w 30 3 ty 9 i0 (.string ⟨#[]⟩) .i64 .i64 Tryd.underlying30 Tryd.underlying3 hi hz0 n h0 (by omega) (by omega) (by rw [hz2]; omega)
    have hcap := grownCap_ge w n 0 9
    have hmax := grownCap_le_maxLen w n 0 9 (by unfold maxLen; omega)
    generalize grownCap w n 0 9 = G at *
    have hG : G ≤ 9223372036854775807 := by unfold maxLen at hmax; omega
    have hbel : Below w.heap.size w (w.drew.alloc (.cells (Builtin.zeroCells (Value.string ⟨#[]⟩).cells n ++ Builtin.zeroCells (Value.string ⟨#[]⟩).cells (G - n)) 9)) := (below_drewN (Below.refl _ _) 1).alloc (Nat.le_refl _) _
    have hown : (w.drew.alloc (.cells (Builtin.zeroCells (Value.string ⟨#[]⟩).cells n ++ Builtin.zeroCells (Value.string ⟨#[]⟩).cells (G - n)) 9)).ownsRow w.heap.size 9 1 (.slice (some ⟨w.heap.size, 0, none⟩) 0 G) 0 [] :=
      ⟨rfl, .inr ⟨w.heap.size, G, _, rfl, Nat.le_refl _, heap_alloc_new w.drew _, Nat.zero_le _, hmax, by rw [Array.size_append, size_zeroCells, size_zeroCells]; show n * 1 + (G - n) * 1 = G * 1; omega, by simp⟩⟩
    have Hb := Lib.hid hbel
    have Ho := Lib.hid hown
    have h2 : wrap64 ((n : Int) - 0) = (n : Int) := by unfold wrap64; omega
    clear hbel hown hi hz0 hz1 hz2
    generalize Obj.cells (Builtin.zeroCells (Value.string ⟨#[]⟩).cells n ++ Builtin.zeroCells (Value.string ⟨#[]⟩).cells (G - n)) 9 = ob at *
    go_enter Tryd.func37, Tryd.ntmps37
    go_wp2_with (at_builtin; refine Lib.wpList_append_run _ rfl _ _ _ _ rfl _ _ rfl rfl _ _ (hr _) ?_)
    go_ret
    exact ⟨_, rfl, Ho.out, Hb.out⟩
  · obtain rfl : n = 0 := by omega
    go_enter Tryd.func37, Tryd.ntmps37
    go_wp2_with fail
    go_ret
    exact ⟨_, rfl, World.ownsRow_nil _ _ _ _, Below.refl _ _⟩

theorem run_append_empty {w : World} {B : Nat} {v : Value} {n : Nat} {xs : List Value} {i0 : TypeInfo} (hi : Tryd.prog.info? 9 = some i0) (h : w.ownsRow B 9 1 v n xs) (ty : TypeId) (ao : Option Addr) (c : Nat) :
    (Builtin.append_ #[30, 30] ty #[v, .slice ao 0 c]).run Tryd.prog w = .ok v w := by
  rcases h.2 with ⟨rfl, rfl⟩ | ⟨g, cap, cur, rfl, _, _, hnc, _⟩
  · cases ao <;> simp [Builtin.append_, run_underlying Tryd.underlying30, sizeOf, typeInfo, hi, Builtin.lenOf, Builtin.firstCells, loadCells, loadCellsFrom]
  · cases ao <;> simp [Builtin.append_, run_underlying Tryd.underlying30, sizeOf, typeInfo, hi, Builtin.lenOf, Builtin.firstCells, hnc, storeCells, loadCells, loadCellsFrom]
theorem enc_one (xs : List (List UInt8)) : ∀ u ∈ xs.map encStr, u.oneCell' = true := by
  intro u hu
  obtain ⟨x, _, rfl⟩ := List.mem_map.1 hu
  rfl
theorem enc_cells {w : World} {b o : Nat} {xs : List (List UInt8)} (h : ∀ j x, xs[j]? = some x → w.cell? ⟨b, o + j, none⟩ = some (.string (S x))) :
    ∀ j u, (xs.map encStr)[j]? = some u → w.cell? (Addr.add ⟨b, o, none⟩ j) = some u := by
  intro j u hj
  rw [List.getElem?_map] at hj
  cases hx : xs[j]? with
  | none => rw [hx] at hj; simp at hj
  | some x =>
    rw [hx] at hj
    simp only [Option.map_some, Option.some.injEq] at hj
    subst hj
    rw [show (Addr.add ⟨b, o, none⟩ j) = ⟨b, o + j, none⟩ by simp [Addr.add]]
    exact h j x hx
theorem take_flatL {ls : List (List Tx)} {k : Nat} (h : k < ls.length) : (ls.take (k + 1)).flatten = (ls.take k).flatten ++ ls[k] := by
  rw [List.take_add_one, List.getElem?_eq_getElem h, List.flatten_append]
  simp
theorem take_flatL_len (ls : List (List Tx)) (k : Nat) : (ls.take k).flatten.length ≤ ls.flatten.length := by
  have := congrArg List.length (congrArg List.flatten (List.take_append_drop k ls))
  rw [List.flatten_append, List.length_append] at this
  omega

set_option maxHeartbeats 1600000 in
theorem concat_any (v : Value) (ls : List (List Tx)) (w : World) (h : RdL w v ls) (hl : ls.length ≤ 1000000) (hn : ls.flatten.length ≤ 1000000) :
    Calls Tryd.prog 25 #[v] w fun e w' => ∃ v', e = .returned v' ∧ w'.ownsRow w.heap.size 9 1 v' ls.flatten.length (ls.flatten.map encStr) ∧ Below w.heap.size w w' := by
  obtain ⟨i0, hi, hz0, hz1, hz2⟩ := info_parts infoS
  have H := Lib.hid h
  obtain ⟨ao, ca, rfl⟩ : ∃ ao ca, v = .slice ao ls.length ca := by obtain ⟨ao, ca, hv, _⟩ := h; exact ⟨ao, ca, hv⟩
  clear h
  have HE : Hid (∀ k (hk : k < ls.length), ∃ b o ao' ca', ao = some ⟨b, o, none⟩ ∧ b < w.heap.size ∧ w.cell? ⟨b, o + k, none⟩ = some (.slice ao' ls[k].length ca') ∧ Rd w (.slice ao' ls[k].length ca') ls[k]) := Lib.hid (fun k hk => by
    obtain ⟨ao2, ca2, hv, hx⟩ := H.out
    simp only [Value.slice.injEq, true_and] at hv
    obtain ⟨rfl, rfl⟩ := hv
    rcases hx with hx | ⟨b, o, hao, hlt, hcell⟩
    · rw [hx] at hk; exact absurd hk (Nat.not_lt_zero _)
    · obtain ⟨u, h1, h2⟩ := hcell k _ (List.getElem?_eq_getElem hk)
      obtain ⟨a', c', rfl⟩ := h2.len
      exact ⟨b, o, a', c', hao, hlt, h1, h2⟩)
  clear H
  go_enter Tryd.func25, Tryd.ntmps25
  go_wp2_with fail
  go_loop [3, 11] (fun s i => ∃ k : Nat, k ≤ ls.length ∧ i = .int .i64 k ∧ s = .int .i64 (ls.take k).flatten.length) (fun _ i => ls.length - (intOf i).toNat)
  case atStart => exact ⟨0, Nat.zero_le _, rfl, rfl⟩
  case round =>
    obtain ⟨k, hk, rfl, rfl⟩ := hrel
    by_cases hlt : k < ls.length
    · obtain ⟨b, o, ao', ca', rfl, hbl, hc, _⟩ := HE.out k hlt
      have hf := take_flatL hlt
      have hle := take_flatL_len ls (k + 1)
      have hs := congrArg List.length hf
      rw [List.length_append] at hs
      have HS := Lib.hid hs
      have hb1 : (ls.take k).flatten.length + ls[k].length ≤ 1000000 := by omega
      clear hf hle hs
      generalize ls[k].length = m at *
      generalize (ls.take k).flatten.length = n at *
      have d1 : decide ((n : Int) + (m : Int) < 0) = false := decide_eq_false (by omega)
      go_wp2_with fail
      go_round
      case rel => exact ⟨k + 1, by omega, by go_num, by rw [HS.out]; go_num⟩
      case measure => simp [intOf]; omega
    · have hx : ls.take k = ls := List.take_of_length_le (by omega)
      rw [hx]
      have HG := Lib.hid (grow_any ls.flatten.length hn w)
      generalize ls.flatten.length = N at HG ⊢
      clear hx
      go_wp2_with fail
      refine HG.out.mono ?_
      rintro e w1 ⟨vg, rfl, hown, hb⟩
      have HO := Lib.hid hown
      have HB := Lib.hid hb
      clear hown hb HG
      go_wp2_with fail
      go_loopw [6, 27] (fun v' i wr => ∃ k : Nat, k ≤ ls.length ∧ i = .int .i64 k ∧ Hid (wr.ownsRow w.heap.size 9 1 v' (ls.take k).flatten.length ((ls.take k).flatten.map encStr)) ∧ Hid (Below w.heap.size w wr)) (fun _ i _ => ls.length - (intOf i).toNat)
      case atStart => exact ⟨0, Nat.zero_le _, rfl, HO, HB⟩
      case round =>
        clear HO HB
        obtain ⟨k, hk, rfl, HO, HB⟩ := hrel
        have hB := HB.out.size
        by_cases hlt : k < ls.length
        · obtain ⟨b, o, ao', ca', rfl, hbl, hc, hrd⟩ := HE.out k hlt
          have k1 : wr.cell? ⟨b, o + k, none⟩ = some (.slice ao' ls[k].length ca') := (HB.out.cell (by exact hbl)).trans hc
          have HR := Lib.hid (hrd.below HB.out)
          have hf := take_flatL hlt
          have hle := take_flatL_len ls (k + 1)
          have hs := congrArg List.length hf
          rw [List.length_append] at hs
          have hb1 : (ls.take k).flatten.length + ls[k].length ≤ 1000000 := by omega
          have HF := Lib.hid hf
          clear hf hle hs hc hrd
          generalize ls[k] = xs at *
          generalize (ls.take k).flatten = os at *
          by_cases h0 : xs = []
          · have hz : xs.length = 0 := by rw [h0]; rfl
            have HN : Hid (wr.ownsRow w.heap.size 9 1 u6 (ls.take (k + 1)).flatten.length ((ls.take (k + 1)).flatten.map encStr)) := Lib.hid (by rw [HF.out, h0, List.append_nil]; exact HO.out)
            have hrun := fun ty => run_append_empty hi HO.out ty ao' ca'
            rw [hz] at k1
            clear HR HF HO h0 hz
            go_wp2_with (at_builtin; refine Lib.wpList_append_run _ rfl _ _ _ _ rfl _ _ rfl rfl _ _ (hrun _) ?_)
            go_roundw
            case rel => exact ⟨k + 1, by omega, by go_num, HN, HB⟩
            case measure => simp [intOf]; omega
          · obtain ⟨ao2, ca2, hv, hcc, hx⟩ := HR.out
            simp only [Value.slice.injEq, true_and] at hv
            obtain ⟨rfl, rfl⟩ := hv
            rcases hx with hx | ⟨b2, o2, rfl, hlt2, hcell2⟩
            · exact absurd hx h0
            have HC := Lib.hid hcell2
            clear hcell2 HR h0
            go_wp2_with (at_builtin; refine wpList_append_own _ rfl _ _ 30 rfl w.heap.size 9 i0 (.string ⟨#[]⟩) 1 16 Tryd.underlying30 hi hz0 hz1 hz2 rfl (by decide) _ _ _ rfl HO.out ⟨b2, o2, none⟩ xs.length ca' (xs.map encStr) rfl (by simp) (enc_cells HC.out) (enc_one xs) (by unfold maxLen; omega) (by omega) (by omega) ?_)
            intro v2 w6 hown2 hgrow2 _
            have HN : Hid (w6.ownsRow w.heap.size 9 1 v2 (ls.take (k + 1)).flatten.length ((ls.take (k + 1)).flatten.map encStr)) := Lib.hid (by
              rw [HF.out, List.length_append, List.map_append]
              exact hown2)
            have HB2 := Lib.hid (HB.out.grown hgrow2 hB (fun j hj => (HO.out.lt j hj).1))
            clear hown2 hgrow2 HF
            go_wp2_with fail
            go_roundw
            case rel => exact ⟨k + 1, by omega, by go_num, HN, HB2⟩
            case measure => simp [intOf]; omega
        · have hx : ls.take k = ls := List.take_of_length_le (by omega)
          rw [hx] at HO
          obtain rfl : k = ls.length := by omega
          clear hlt hx
          go_wp2_with fail
          go_ret
          exact ⟨_, rfl, HO.out, HB.out⟩

theorem own_lt {w : World} {B : Nat} {e : TypeId} {v : Value} {n : Nat} {xs : List Value} (h : w.ownsRow B e 1 v n xs) (hn : 0 < n) : ∃ g cap cu, v = .slice (some ⟨g, 0, none⟩) n cap ∧ B ≤ g ∧ w.heap[g]? = some (.cells cu e (0, 0)) ∧ n ≤ cap ∧ cap ≤ maxLen ∧ cu.size = cap * 1 ∧ cu.toList.take n = xs := by
  rcases h.2 with ⟨_, h0⟩ | ⟨g, cap, cu, h1, h2, h3, h4, h5, h6, h7⟩
  · omega
  · exact ⟨g, cap, cu, h1, h2, h3, h4, h5, h6, by simpa using h7⟩
theorem sort_own (v : Value) (all : List Tx) (B : Nat) (w : World) (h : w.ownsRow B 9 1 v all.length (all.map encStr)) (hn : all.length ≤ 1000000) :
    Calls Tryd.prog 26 #[v] w fun e w' => e = .returned (.tuple #[]) ∧ w'.ownsRow B 9 1 v (all.mergeSort fun x y => decide (x ≤ y)).length ((all.mergeSort fun x y => decide (x ≤ y)).map encStr) ∧ Below B w w' := by
  by_cases h0 : all = []
  · subst h0
    obtain ⟨ao, cap, rfl⟩ : ∃ ao cap, v = .slice ao 0 cap := by
      rcases h.2 with ⟨rfl, _⟩ | ⟨g, cap, _, rfl, _⟩
      · exact ⟨_, _, rfl⟩
      · exact ⟨_, _, rfl⟩
    refine (Tryd.slices_Sort_string_none ao cap w).mono ?_
    rintro e w' ⟨he, rfl⟩
    exact ⟨he, by simpa using h, Below.refl _ _⟩
  · obtain ⟨g, cap, cu, rfl, hB, hg, h1, h2, h3, h4⟩ := own_lt h (List.length_pos_iff.2 h0)
    have hgl : g < w.heap.size := (Array.getElem?_eq_some_iff.1 hg).1
    refine (Tryd.slices_Sort_string g 0 cap all w (holds_of_block hg h4) hgl (by omega)).mono ?_
    rintro e w' ⟨he, n, os, rfl⟩
    have hl : (all.mergeSort fun x y => decide (x ≤ y)).length = all.length := List.length_mergeSort _
    refine ⟨he, ?_, (Below.refl _ _).grown (grownBy_sorted _) (by omega) (fun k hk => by simp at hk; omega)⟩
    rw [hl]
    exact ownsRow_sorted hl hB hg h1 h2 h3
theorem compact_own (v : Value) (zs : List Tx) (B : Nat) (w : World) (h : w.ownsRow B 9 1 v zs.length (zs.map encStr)) (hn : zs.length ≤ 1000000) :
    Calls Tryd.prog 27 #[v] w fun e w' => ∃ v', e = .returned v' ∧ Rd w' v' (Lib.compact zs) ∧ Below B w w' := by
  by_cases h0 : zs = []
  · subst h0
    obtain ⟨ao, cap, rfl⟩ : ∃ ao cap, v = .slice ao 0 cap := by
      rcases h.2 with ⟨rfl, _⟩ | ⟨g, cap, _, rfl, _⟩
      · exact ⟨_, _, rfl⟩
      · exact ⟨_, _, rfl⟩
    refine (Tryd.slices_Compact_string_empty ao cap w).mono ?_
    rintro e w' ⟨he, rfl⟩
    exact ⟨_, he, ⟨ao, cap, rfl, Nat.zero_le _, Or.inl rfl⟩, Below.refl _ _⟩
  · obtain ⟨g, cap, cu, rfl, hB, hg, h1, h2, h3, h4⟩ := own_lt h (List.length_pos_iff.2 h0)
    have hgl : g < w.heap.size := (Array.getElem?_eq_some_iff.1 hg).1
    refine (Tryd.slices_Compact_string g 0 cap zs w (holds_of_block hg h4) (by omega) h1).mono ?_
    rintro e w' ⟨he, q, rfl⟩
    have hcl := compact_len zs
    have hl : (Lib.compact zs ++ List.replicate (zs.length - (Lib.compact zs).length) []).length = zs.length := by rw [List.length_append, List.length_replicate]; omega
    have hown := ownsRow_sorted (n := q) (os := #[]) hl hB hg h1 h2 h3
    have hgr := grownBy_sorted (w := w) (g := g) (n := q) (os := #[]) (Lib.compact zs ++ List.replicate (zs.length - (Lib.compact zs).length) []).toArray
    rw [grow_empty] at hown hgr
    refine ⟨_, he, ⟨_, cap, rfl, by omega, Or.inr ⟨g, 0, rfl, (hown.lt g rfl).2, fun j x hj => ?_⟩⟩, (Below.refl _ _).grown hgr (by omega) (fun k hk => by simp at hk; omega)⟩
    have hjl := (List.getElem?_eq_some_iff.1 hj).1
    rw [Nat.zero_add, hown.cellAt j (by omega), List.getElem?_map, List.getElem?_append_left hjl, hj]
    rfl

end Go.Proofs.YtldllbmbcnipoaaDoor.Tk
