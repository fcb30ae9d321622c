/-
  Several texts in one:
  
  
  
  
  
  
  
-/
import Derived.Test.YtldllbmbcnipoabGreatDoorPkWI
import Derived.Test.YtldllbmbcnipoabGreatDoorShelf
import Derived.Lib.AppendZeros
import Derived.Test.YtldllbmbcnipoabGreatDoorPkWA
import Derived.Test.YtldllbmbcnipoabGreatDoorPkWD
import Derived.Test.YtldllbmbcnipoabGreatDoorPkWB
namespace Go.Proofs.YtldllbmbcnipoabGreatDoor.Tk
open Go.RowKit
open Go.Sort (Holds putRow grow grow_empty)
set_option linter.unusedVariables false
def RdL (w : World) (v : Value) (ls : List (List Tx)) : Prop :=
  ∃ ao cap, v = .slice ao ls.length cap ∧ (ls = [] ∨ ∃ b o, ao = some ⟨b, o, none⟩ ∧ b < w.heap.size ∧ ∀ j x, ls[j]? = some x → ∃ u, w.cell? ⟨b, o + j, none⟩ = some u ∧ Rd w u x)
theorem RdL.below {w w' : World} {v : Value} {ls : List (List Tx)} (h : RdL w v ls) (hb : Below w.heap.size w w') : RdL w' v ls := by
  obtain ⟨ao, cap, hv, hx⟩ := h
  refine ⟨ao, cap, hv, ?_⟩
  rcases hx with hx | ⟨b, o, hao, hlt, hcell⟩
  · exact Or.inl hx
  · refine Or.inr ⟨b, o, hao, Nat.lt_of_lt_of_le hlt hb.size, fun j x hj => ?_⟩
    obtain ⟨u, h1, h2⟩ := hcell j x hj
    exact ⟨u, (hb.cell (by exact hlt)).trans h1, h2.below hb⟩
set_option maxHeartbeats 800000 in
theorem grow_any (n : Nat) (hn : n ≤ 1000000) (w : World) :
    Calls Tryz.prog 45 #[.slice none 0 0, .int .i64 n] w fun e w' => ∃ v, e = .returned v ∧ w'.ownsRow w.heap.size 9 1 v 0 [] ∧ Below w.heap.size w w' := by
  obtain ⟨i0, hi, hz0, hz1, hz2⟩ := info_parts infoS
  by_cases h0 : 0 < n
  · have hr := fun ty => Lib.run_append_nil_zeros (P := Tryz.prog) w 29 3 ty 9 i0 (.string ⟨#[]⟩) .i64 .i64 Tryz.underlying29 Tryz.underlying3 hi hz0 n h0 (by omega) (by omega) (by rw [hz2]; omega)
    have hcap := grownCap_ge w n 0 9
    have hmax := grownCap_le_maxLen w n 0 9 (by unfold maxLen; omega)
    generalize grownCap w n 0 9 = G at *
    have hG : G ≤ 9223372036854775807 := by unfold maxLen at hmax; omega
    have hbel : Below w.heap.size w (w.drew.alloc (.cells (Builtin.zeroCells (Value.string ⟨#[]⟩).cells n ++ Builtin.zeroCells (Value.string ⟨#[]⟩).cells (G - n)) 9)) := (below_drewN (Below.refl _ _) 1).alloc (Nat.le_refl _) _
    have hown : (w.drew.alloc (.cells (Builtin.zeroCells (Value.string ⟨#[]⟩).cells n ++ Builtin.zeroCells (Value.string ⟨#[]⟩).cells (G - n)) 9)).ownsRow w.heap.size 9 1 (.slice (some ⟨w.heap.size, 0, none⟩) 0 G) 0 [] :=
      ⟨rfl, .inr ⟨w.heap.size, G, _, rfl, Nat.le_refl _, heap_alloc_new w.drew _, Nat.zero_le _, hmax, by rw [Array.size_append, size_zeroCells, size_zeroCells]; show n * 1 + (G - n) * 1 = G * 1; omega, by simp⟩⟩
    have Hb := Lib.hid hbel
    have Ho := Lib.hid hown
    have h2 : wrap64 ((n : Int) - 0) = (n : Int) := by unfold wrap64; omega
    clear hbel hown hi hz0 hz1 hz2
    generalize Obj.cells (Builtin.zeroCells (Value.string ⟨#[]⟩).cells n ++ Builtin.zeroCells (Value.string ⟨#[]⟩).cells (G - n)) 9 = ob at *
    go_enter Tryz.func45, Tryz.ntmps45
    go_wp2_with (at_builtin; refine Lib.wpList_append_run _ rfl _ _ _ _ rfl _ _ rfl rfl _ _ (hr _) ?_)
    go_ret
    exact ⟨_, rfl, Ho.out, Hb.out⟩
  · obtain rfl : n = 0 := by omega
    go_enter Tryz.func45, Tryz.ntmps45
    go_wp2_with fail
    go_ret
    exact ⟨_, rfl, World.ownsRow_nil _ _ _ _, Below.refl _ _⟩
theorem run_append_empty {w : World} {B : Nat} {v : Value} {n : Nat} {xs : List Value} {i0 : TypeInfo} (hi : Tryz.prog.info? 9 = some i0) (h : w.ownsRow B 9 1 v n xs) (ty : TypeId) (ao : Option Addr) (c : Nat) :
    (Builtin.append_ #[29, 29] ty #[v, .slice ao 0 c]).run Tryz.prog w = .ok v w := by
  rcases h.2 with ⟨rfl, rfl⟩ | ⟨g, cap, cur, rfl, _, _, hnc, _⟩
  · cases ao <;> simp [Builtin.append_, run_underlying Tryz.underlying29, sizeOf, typeInfo, hi, Builtin.lenOf, Builtin.firstCells, loadCells, loadCellsFrom]
  · cases ao <;> simp [Builtin.append_, run_underlying Tryz.underlying29, sizeOf, typeInfo, hi, Builtin.lenOf, Builtin.firstCells, hnc, storeCells, loadCells, loadCellsFrom]
theorem enc_one (xs : List (List UInt8)) : ∀ u ∈ xs.map encStr, u.oneCell' = true := by
  intro u hu
  obtain ⟨x, _, rfl⟩ := List.mem_map.1 hu
  rfl
theorem enc_cells {w : World} {b o : Nat} {xs : List (List UInt8)} (h : ∀ j x, xs[j]? = some x → w.cell? ⟨b, o + j, none⟩ = some (.string (S x))) :
    ∀ j u, (xs.map encStr)[j]? = some u → w.cell? (Addr.add ⟨b, o, none⟩ j) = some u := by
  intro j u hj
  rw [List.getElem?_map] at hj
  cases hx : xs[j]? with
  | none => rw [hx] at hj; simp at hj
  | some x =>
    rw [hx] at hj
    simp only [Option.map_some, Option.some.injEq] at hj
    subst hj
    rw [show (Addr.add ⟨b, o, none⟩ j) = ⟨b, o + j, none⟩ by simp [Addr.add]]
    exact h j x hx
theorem take_flatL {ls : List (List Tx)} {k : Nat} (h : k < ls.length) : (ls.take (k + 1)).flatten = (ls.take k).flatten ++ ls[k] := by
  rw [List.take_add_one, List.getElem?_eq_getElem h, List.flatten_append]
  simp
theorem take_flatL_len (ls : List (List Tx)) (k : Nat) : (ls.take k).flatten.length ≤ ls.flatten.length := by
  have := congrArg List.length (congrArg List.flatten (List.take_append_drop k ls))
  rw [List.flatten_append, List.length_append] at this
  omega
set_option maxHeartbeats 1600000 in
theorem concat_any (v : Value) (ls : List (List Tx)) (w : World) (h : RdL w v ls) (hl : ls.length ≤ 1000000) (hn : ls.flatten.length ≤ 1000000) :
    Calls Tryz.prog 26 #[v] w fun e w' => ∃ v', e = .returned v' ∧ w'.ownsRow w.heap.size 9 1 v' ls.flatten.length (ls.flatten.map encStr) ∧ Below w.heap.size w w' := by
  obtain ⟨i0, hi, hz0, hz1, hz2⟩ := info_parts infoS
  have H := Lib.hid h
  obtain ⟨ao, ca, rfl⟩ : ∃ ao ca, v = .slice ao ls.length ca := by obtain ⟨ao, ca, hv, _⟩ := h; exact ⟨ao, ca, hv⟩
  clear h
  have HE : Hid (∀ k (hk : k < ls.length), ∃ b o ao' ca', ao = some ⟨b, o, none⟩ ∧ b < w.heap.size ∧ w.cell? ⟨b, o + k, none⟩ = some (.slice ao' ls[k].length ca') ∧ Rd w (.slice ao' ls[k].length ca') ls[k]) := Lib.hid (fun k hk => by
    obtain ⟨ao2, ca2, hv, hx⟩ := H.out
    simp only [Value.slice.injEq, true_and] at hv
    obtain ⟨rfl, rfl⟩ := hv
    rcases hx with hx | ⟨b, o, hao, hlt, hcell⟩
    · rw [hx] at hk; exact absurd hk (Nat.not_lt_zero _)
    · obtain ⟨u, h1, h2⟩ := hcell k _ (List.getElem?_eq_getElem hk)
      obtain ⟨a', c', rfl⟩ := h2.len
      exact ⟨b, o, a', c', hao, hlt, h1, h2⟩)
  clear H
  go_enter Tryz.func26, Tryz.ntmps26
  go_wp2_with fail
  go_loop [3, 11] (fun s i => ∃ k : Nat, k ≤ ls.length ∧ i = .int .i64 k ∧ s = .int .i64 (ls.take k).flatten.length) (fun _ i => ls.length - (intOf i).toNat)
  case atStart => exact ⟨0, Nat.zero_le _, rfl, rfl⟩
  case round =>
    obtain ⟨k, hk, rfl, rfl⟩ := hrel
    by_cases hlt : k < ls.length
    · obtain ⟨b, o, ao', ca', rfl, hbl, hc, _⟩ := HE.out k hlt
      have hf := take_flatL hlt
      have hle := take_flatL_len ls (k + 1)
      have hs := congrArg List.length hf
      rw [List.length_append] at hs
      have HS := Lib.hid hs
      have hb1 : (ls.take k).flatten.length + ls[k].length ≤ 1000000 := by omega
      clear hf hle hs
      generalize ls[k].length = m at *
      generalize (ls.take k).flatten.length = n at *
      have d1 : decide ((n : Int) + (m : Int) < 0) = false := decide_eq_false (by omega)
      go_wp2_with fail
      go_round
      case rel => exact ⟨k + 1, by omega, by go_num, by rw [HS.out]; go_num⟩
      case measure => simp [intOf]; omega
    · have hx : ls.take k = ls := List.take_of_length_le (by omega)
      rw [hx]
      have HG := Lib.hid (grow_any ls.flatten.length hn w)
      generalize ls.flatten.length = N at HG ⊢
      clear hx
      go_wp2_with fail
      refine HG.out.mono ?_
      rintro e w1 ⟨vg, rfl, hown, hb⟩
      have HO := Lib.hid hown
      have HB := Lib.hid hb
      clear hown hb HG
      go_wp2_with fail
      go_loopw [6, 27] (fun v' i wr => ∃ k : Nat, k ≤ ls.length ∧ i = .int .i64 k ∧ Hid (wr.ownsRow w.heap.size 9 1 v' (ls.take k).flatten.length ((ls.take k).flatten.map encStr)) ∧ Hid (Below w.heap.size w wr)) (fun _ i _ => ls.length - (intOf i).toNat)
      case atStart => exact ⟨0, Nat.zero_le _, rfl, HO, HB⟩
      case round =>
        clear HO HB
        obtain ⟨k, hk, rfl, HO, HB⟩ := hrel
        have hB := HB.out.size
        by_cases hlt : k < ls.length
        · obtain ⟨b, o, ao', ca', rfl, hbl, hc, hrd⟩ := HE.out k hlt
          have k1 : wr.cell? ⟨b, o + k, none⟩ = some (.slice ao' ls[k].length ca') := (HB.out.cell (by exact hbl)).trans hc
          have HR := Lib.hid (hrd.below HB.out)
          have hf := take_flatL hlt
          have hle := take_flatL_len ls (k + 1)
          have hs := congrArg List.length hf
          rw [List.length_append] at hs
          have hb1 : (ls.take k).flatten.length + ls[k].length ≤ 1000000 := by omega
          have HF := Lib.hid hf
          clear hf hle hs hc hrd
          generalize ls[k] = xs at *
          generalize (ls.take k).flatten = os at *
          by_cases h0 : xs = []
          · have hz : xs.length = 0 := by rw [h0]; rfl
            have HN : Hid (wr.ownsRow w.heap.size 9 1 u6 (ls.take (k + 1)).flatten.length ((ls.take (k + 1)).flatten.map encStr)) := Lib.hid (by rw [HF.out, h0, List.append_nil]; exact HO.out)
            have hrun := fun ty => run_append_empty hi HO.out ty ao' ca'
            rw [hz] at k1
            clear HR HF HO h0 hz
            go_wp2_with (at_builtin; refine Lib.wpList_append_run _ rfl _ _ _ _ rfl _ _ rfl rfl _ _ (hrun _) ?_)
            go_roundw
            case rel => exact ⟨k + 1, by omega, by go_num, HN, HB⟩
            case measure => simp [intOf]; omega
          · obtain ⟨ao2, ca2, hv, hcc, hx⟩ := HR.out
            simp only [Value.slice.injEq, true_and] at hv
            obtain ⟨rfl, rfl⟩ := hv
            rcases hx with hx | ⟨b2, o2, rfl, hlt2, hcell2⟩
            · exact absurd hx h0
            have HC := Lib.hid hcell2
            clear hcell2 HR h0
            go_wp2_with (at_builtin; refine wpList_append_own _ rfl _ _ 29 rfl w.heap.size 9 i0 (.string ⟨#[]⟩) 1 16 Tryz.underlying29 hi hz0 hz1 hz2 rfl (by decide) _ _ _ rfl HO.out ⟨b2, o2, none⟩ xs.length ca' (xs.map encStr) rfl (by simp) (enc_cells HC.out) (enc_one xs) (by unfold maxLen; omega) (by omega) (by omega) ?_)
            intro v2 w6 hown2 hgrow2 _
            have HN : Hid (w6.ownsRow w.heap.size 9 1 v2 (ls.take (k + 1)).flatten.length ((ls.take (k + 1)).flatten.map encStr)) := Lib.hid (by
              rw [HF.out, List.length_append, List.map_append]
              exact hown2)
            have HB2 := Lib.hid (HB.out.grown hgrow2 hB (fun j hj => (HO.out.lt j hj).1))
            clear hown2 hgrow2 HF
            go_wp2_with fail
            go_roundw
            case rel => exact ⟨k + 1, by omega, by go_num, HN, HB2⟩
            case measure => simp [intOf]; omega
        · have hx : ls.take k = ls := List.take_of_length_le (by omega)
          rw [hx] at HO
          obtain rfl : k = ls.length := by omega
          clear hlt hx
          go_wp2_with fail
          go_ret
          exact ⟨_, rfl, HO.out, HB.out⟩
theorem own_lt {w : World} {B : Nat} {e : TypeId} {v : Value} {n : Nat} {xs : List Value} (h : w.ownsRow B e 1 v n xs) (hn : 0 < n) : ∃ g cap cu, v = .slice (some ⟨g, 0, none⟩) n cap ∧ B ≤ g ∧ w.heap[g]? = some (.cells cu e (0, 0)) ∧ n ≤ cap ∧ cap ≤ maxLen ∧ cu.size = cap * 1 ∧ cu.toList.take n = xs := by
  rcases h.2 with ⟨_, h0⟩ | ⟨g, cap, cu, h1, h2, h3, h4, h5, h6, h7⟩
  · omega
  · exact ⟨g, cap, cu, h1, h2, h3, h4, h5, h6, by simpa using h7⟩
theorem sort_own (v : Value) (all : List Tx) (B : Nat) (w : World) (h : w.ownsRow B 9 1 v all.length (all.map encStr)) (hn : all.length ≤ 1000000) :
    Calls Tryz.prog 27 #[v] w fun e w' => e = .returned (.tuple #[]) ∧ w'.ownsRow B 9 1 v (all.mergeSort fun x y => decide (x ≤ y)).length ((all.mergeSort fun x y => decide (x ≤ y)).map encStr) ∧ Below B w w' := by
  by_cases h0 : all = []
  · subst h0
    obtain ⟨ao, cap, rfl⟩ : ∃ ao cap, v = .slice ao 0 cap := by
      rcases h.2 with ⟨rfl, _⟩ | ⟨g, cap, _, rfl, _⟩
      · exact ⟨_, _, rfl⟩
      · exact ⟨_, _, rfl⟩
    refine (Tryz.slices_Sort_string_none ao cap w).mono ?_
    rintro e w' ⟨he, rfl⟩
    exact ⟨he, by simpa using h, Below.refl _ _⟩
  · obtain ⟨g, cap, cu, rfl, hB, hg, h1, h2, h3, h4⟩ := own_lt h (List.length_pos_iff.2 h0)
    have hgl : g < w.heap.size := (Array.getElem?_eq_some_iff.1 hg).1
    refine (Tryz.slices_Sort_string g 0 cap all w (holds_of_block hg h4) hgl (by omega)).mono ?_
    rintro e w' ⟨he, n, os, rfl⟩
    have hl : (all.mergeSort fun x y => decide (x ≤ y)).length = all.length := List.length_mergeSort _
    refine ⟨he, ?_, (Below.refl _ _).grown (grownBy_sorted _) (by omega) (fun k hk => by simp at hk; omega)⟩
    rw [hl]
    exact ownsRow_sorted hl hB hg h1 h2 h3
theorem compact_own (v : Value) (zs : List Tx) (B : Nat) (w : World) (h : w.ownsRow B 9 1 v zs.length (zs.map encStr)) (hn : zs.length ≤ 1000000) :
    Calls Tryz.prog 28 #[v] w fun e w' => ∃ v', e = .returned v' ∧ Rd w' v' (Lib.compact zs) ∧ Below B w w' := by
  by_cases h0 : zs = []
  · subst h0
    obtain ⟨ao, cap, rfl⟩ : ∃ ao cap, v = .slice ao 0 cap := by
      rcases h.2 with ⟨rfl, _⟩ | ⟨g, cap, _, rfl, _⟩
      · exact ⟨_, _, rfl⟩
      · exact ⟨_, _, rfl⟩
    refine (Tryz.slices_Compact_string_empty ao cap w).mono ?_
    rintro e w' ⟨he, rfl⟩
    exact ⟨_, he, ⟨ao, cap, rfl, Nat.zero_le _, Or.inl rfl⟩, Below.refl _ _⟩
  · obtain ⟨g, cap, cu, rfl, hB, hg, h1, h2, h3, h4⟩ := own_lt h (List.length_pos_iff.2 h0)
    have hgl : g < w.heap.size := (Array.getElem?_eq_some_iff.1 hg).1
    refine (Tryz.slices_Compact_string g 0 cap zs w (holds_of_block hg h4) (by omega) h1).mono ?_
    rintro e w' ⟨he, q, rfl⟩
    have hcl := compact_len zs
    have hl : (Lib.compact zs ++ List.replicate (zs.length - (Lib.compact zs).length) []).length = zs.length := by rw [List.length_append, List.length_replicate]; omega
    have hown := ownsRow_sorted (n := q) (os := #[]) hl hB hg h1 h2 h3
    have hgr := grownBy_sorted (w := w) (g := g) (n := q) (os := #[]) (Lib.compact zs ++ List.replicate (zs.length - (Lib.compact zs).length) []).toArray
    rw [grow_empty] at hown hgr
    refine ⟨_, he, ⟨_, cap, rfl, by omega, Or.inr ⟨g, 0, rfl, (hown.lt g rfl).2, fun j x hj => ?_⟩⟩, (Below.refl _ _).grown hgr (by omega) (fun k hk => by simp at hk; omega)⟩
    have hjl := (List.getElem?_eq_some_iff.1 hj).1
    rw [Nat.zero_add, hown.cellAt j (by omega), List.getElem?_map, List.getElem?_append_left hjl, hj]
    rfl
end Go.Proofs.YtldllbmbcnipoabGreatDoor.Tk

namespace Go.Proofs.YtldllbmbcnipoabGreatDoor.Tk
open Go.RowKit
set_option linter.unusedVariables false
theorem infoL : (Tryz.prog.info? 51).map (fun i => (i.zero, i.size, i.bytes)) = some (some (.slice none 0 0), 1, 24) := by kernel_rfl
theorem Fill.below {w0 wr w' : World} {B L k : Nat} {t : TypeId} {f : Nat → Value} (h : Fill w0 B L t f k wr) (hb : Below wr.heap.size wr w') : Fill w0 B L t f k w' := by
  obtain ⟨xs, h1, h2, h3⟩ := h
  have hBl : B < wr.heap.size := (h1.lt B rfl).2
  refine ⟨xs, ⟨h1.1, ?_⟩, h2, h3.trans (hb.mono (by omega))⟩
  rcases h1.2 with hn | ⟨g, cap, cur, hv, hg, hgg, rest⟩
  · exact .inl hn
  · exact .inr ⟨g, cap, cur, hv, hg, by rw [hb.block g (Array.getElem?_eq_some_iff.1 hgg).1]; exact hgg, rest⟩
theorem Fill.put {w0 wr : World} {B L k : Nat} {t : TypeId} {f : Nat → Value} (h : Fill w0 B L t f k wr) (hk : k < L) (u : Value) : Fill w0 B L t (fun j => if j = k then u else f j) (k + 1) (wr.setCell ⟨B, k, none⟩ u) := by
  have h' : Fill w0 B L t (fun j => if j = k then u else f j) k wr := by
    obtain ⟨xs, h1, h2, h3⟩ := h
    exact ⟨xs, h1, fun j hj => by rw [h2 j hj]; exact congrArg some (if_neg (by omega)).symm, h3⟩
  have := h'.step hk
  simp only [if_true] at this
  exact this
def RdLI (w : World) (v : Value) (ids : List (List Int)) : Prop :=
  ∃ b cap, v = .slice (some ⟨b, 0, none⟩) ids.length cap ∧ b < w.heap.size ∧ ∀ j x, ids[j]? = some x → ∃ u, w.cell? ⟨b, j, none⟩ = some u ∧ RdI 0 w u x
def rk (all : List Tx) (l : List Tx) : List Int := l.map fun x => (rank all x : Int)
theorem rk_at (all l : List Tx) : (l.map fun x => (at_ (uniq all) x : Int)) = rk all l := List.map_congr_left (fun x _ => by rw [uniq_at])
theorem getl {ls : List (List Tx)} {k : Nat} (h : k < ls.length) : ls[k]? = some ls[k] := List.getElem?_eq_getElem h
def Rows (w0 : World) (B : Nat) (ls : List (List Tx)) (k : Nat) (wr : World) : Prop :=
  ∃ f, Fill w0 B ls.length 51 f k wr ∧ ∀ j x, j < k → ls[j]? = some x → RdI (B + 1) wr (f j) (rk ls.flatten x)
theorem Rows.step {w0 wr w' : World} {B k : Nat} {ls : List (List Tx)} {u : Value} (h : Rows w0 B ls k wr) (hk : k < ls.length) (hb : Below wr.heap.size wr w') (hu : RdI wr.heap.size w' u (rk ls.flatten ls[k])) :
    Rows w0 B ls (k + 1) (w'.setCell ⟨B, k, none⟩ u) := by
  obtain ⟨f, h1, h2⟩ := h
  have hBl := h1.lt
  refine ⟨_, (h1.below hb).put hk u, fun j x hj hx => ?_⟩
  by_cases e : j = k
  · subst e
    rw [if_pos rfl]
    rw [getl hk, Option.some.injEq] at hx
    subst hx
    exact (hu.mono (by omega)).set (by omega)
  · rw [if_neg e]
    exact ((h2 j x (by omega) hx).below hb).set (by omega)
set_option maxHeartbeats 1600000 in
theorem ids_any (v : Value) (ls : List (List Tx)) (w : World) (h : RdL w v ls) (hl : ls.length ≤ 1000000) (hn : ls.flatten.length ≤ 1000000) :
    Calls Tryz.prog 15 #[v] w fun e w' => ∃ v', e = .returned v' ∧ RdLI w' v' (ls.map (rk ls.flatten)) ∧ Below w.heap.size w w' := by
  obtain ⟨i0, hi, hz0, hz1, hz2⟩ := info_parts infoL
  have H := Lib.hid h
  obtain ⟨ao, ca, rfl⟩ : ∃ ao ca, v = .slice ao ls.length ca := by obtain ⟨ao, ca, hv, _⟩ := h; exact ⟨ao, ca, hv⟩
  have HC := Lib.hid (concat_any _ ls w h hl hn)
  have hm : ls.length ≤ maxLen := by unfold maxLen; omega
  have HU := Lib.hid (uniq_ok ls.flatten)
  have hul : (uniq ls.flatten).length ≤ 1000000 := Nat.le_trans (uniq_len _) hn
  have Hel : Hid (∀ k (hk : k < ls.length), ls[k].length ≤ 1000000) := Lib.hid (fun k hk => by
    have h1 := take_flatL_len ls (k + 1)
    have h2 := congrArg List.length (take_flatL hk)
    rw [List.length_append] at h2
    omega)
  clear h
  go_enter Tryz.func15, Tryz.ntmps15
  go_wp2_with fail
  refine HC.out.mono ?_
  rintro e w1 ⟨v1, rfl, hown, hb⟩
  have HS := Lib.hid (sort_own v1 ls.flatten w.heap.size w1 hown hn)
  have B1 := Lib.hid hb
  clear hown hb HC
  go_wp2_with fail
  refine HS.out.mono ?_
  rintro e w2 ⟨rfl, hown, hb⟩
  have HK := Lib.hid (compact_own v1 _ w.heap.size w2 hown (by rw [List.length_mergeSort]; exact hn))
  have B2 := Lib.hid (B1.out.trans hb)
  clear hown hb HS
  go_wp2_with fail
  refine HK.out.mono ?_
  rintro e w3 ⟨vu, rfl, hrd, hb⟩
  have RU : Hid (Rd w3 vu (uniq ls.flatten)) := Lib.hid hrd
  have B3 := Lib.hid (B2.out.trans hb)
  have H3 := Lib.hid (H.out.below B3.out)
  clear hrd hb HK H
  go_wp2_with (at_make; refine wpList_make_full _ rfl _ _ 47 rfl w3.heap.size 51 i0 (.slice none 0 0) 1 Tryz.underlying47 hi hz0 hz1 _ _ _ _ ls.length rfl rfl rfl rfl (by rw [hz2]; omega) hm (Nat.le_refl _) ?_)
  intro W4 hown hgrow
  have HF : Hid (Rows w3 w3.heap.size ls 0 W4) := Lib.hid ⟨fun _ => .slice none 0 0, Fill.start hown hgrow, fun j x hj => absurd hj (Nat.not_lt_zero _)⟩
  clear hown hgrow hi hz0 hz1 hz2
  go_wp2_with fail
  go_loopw [18] (fun i wr => ∃ k : Nat, k ≤ ls.length ∧ i = .int .i64 k ∧ Hid (Rows w3 w3.heap.size ls k wr)) (fun i _ => ls.length - (intOf i).toNat)
  case atStart => exact ⟨0, Nat.zero_le _, rfl, HF⟩
  case round =>
    clear HF
    obtain ⟨k, hk, rfl, HF⟩ := hrel
    have HB : Hid (Below w3.heap.size w3 wr) := Lib.hid (by obtain ⟨_, ⟨_, _, _, h⟩, _⟩ := HF.out; exact h)
    by_cases hlt : k < ls.length
    · obtain ⟨ao2, ca2, hv, hx⟩ := H3.out
      simp only [Value.slice.injEq, true_and] at hv
      obtain ⟨rfl, rfl⟩ := hv
      rcases hx with hx | ⟨b, o, rfl, hbl, hcell⟩
      · rw [hx] at hlt; exact absurd hlt (Nat.not_lt_zero _)
      obtain ⟨u, h1, h2⟩ := hcell k _ (getl hlt)
      have k1 : wr.cell? ⟨b, o + k, none⟩ = some u := (HB.out.cell (by exact hbl)).trans h1
      have hp := places_any vu u (uniq ls.flatten) ls[k] wr (RU.out.below HB.out) (h2.below HB.out) HU.out.1 hul (Hel.out k hlt)
      rw [rk_at] at hp
      have HP := Lib.hid hp
      obtain ⟨ut, uc, rfl⟩ := h2.len
      clear hcell hp h1 h2
      generalize ls[k].length = m at *
      go_wp2_with fail
      refine HP.out.mono ?_
      rintro e w5 ⟨v5, rfl, hri, hb5⟩
      have HR2 := Lib.hid (HF.out.step hlt hb5 hri)
      obtain ⟨⟨c5, hc5⟩, hf5⟩ : (∃ v, w5.cell? ⟨w3.heap.size, k, none⟩ = some v) ∧ w5.frozen? ⟨w3.heap.size, k, none⟩ = false := by
        obtain ⟨f, hf, _⟩ := HF.out
        exact (hf.below hb5).cell hlt
      have ho5 : v5.oneCell' = true := by obtain ⟨_, _, rfl⟩ := hri.len; rfl
      obtain ⟨a5, d5, rfl⟩ := hri.len
      clear hri hb5 HP HF
      go_wp2_with fail
      go_roundw
      case rel => exact ⟨k + 1, by omega, by go_num, HR2⟩
      case measure => simp [intOf]; omega
    · obtain rfl : k = ls.length := by omega
      have HI : Hid (RdLI wr (.slice (some ⟨w3.heap.size, 0, none⟩) ls.length ls.length) (ls.map (rk ls.flatten))) := Lib.hid (by
        obtain ⟨f, h1, h2⟩ := HF.out
        refine ⟨_, _, by rw [List.length_map], h1.lt, fun j x hj => ?_⟩
        rw [List.getElem?_map] at hj
        have hjl : j < ls.length := by
          rcases Nat.lt_or_ge j ls.length with h | h
          · exact h
          · rw [List.getElem?_eq_none h] at hj; simp at hj
        rw [getl hjl] at hj
        simp only [Option.map_some, Option.some.injEq] at hj
        subst hj
        exact ⟨f j, h1.at (Nat.le_refl _) hjl, (h2 j _ hjl (getl hjl)).mono (Nat.zero_le _)⟩)
      have B5 := Lib.hid (B3.out.trans (HB.out.mono B3.out.size))
      clear hlt HF
      go_wp2_with fail
      go_ret
      exact ⟨_, rfl, HI.out, B5.out⟩
end Go.Proofs.YtldllbmbcnipoabGreatDoor.Tk

namespace Go.Proofs.YtldllbmbcnipoabGreatDoor.Tk
open Go.RowKit
set_option linter.unusedVariables false
end Go.Proofs.YtldllbmbcnipoabGreatDoor.Tk

namespace Go.Proofs.YtldllbmbcnipoabGreatDoor.Tk
open Go.RowKit
set_option linter.unusedVariables false
end Go.Proofs.YtldllbmbcnipoabGreatDoor.Tk

namespace Go.Proofs.YtldllbmbcnipoabGreatDoor.Tk
open Go.RowKit
set_option linter.unusedVariables false
end Go.Proofs.YtldllbmbcnipoabGreatDoor.Tk

namespace Go.Proofs.YtldllbmbcnipoabGreatDoor.Lc
open Go.RowKit Go.Proofs.YtldllbmbcnipoabGreatDoor.Cm
set_option linter.unusedVariables false
theorem max2 (w : World) (x y : Int) : (Builtin.max_ #[3, 3] 3 #[.int .i64 x, .int .i64 y]).run Tryz.prog w = .ok (.int .i64 (max x y)) w := by
  have e : ∀ x y : Int, (if y > x then y else x) = max x y := fun x y => by
    rw [Int.max_def]
    split <;> split <;> omega
  simp [Builtin.max_, Builtin.max2, e]
end Go.Proofs.YtldllbmbcnipoabGreatDoor.Lc

namespace Go.Proofs.YtldllbmbcnipoabGreatDoor.Lc
open Go.RowKit Go.Proofs.YtldllbmbcnipoabGreatDoor.Cm
set_option linter.unusedVariables false
end Go.Proofs.YtldllbmbcnipoabGreatDoor.Lc
