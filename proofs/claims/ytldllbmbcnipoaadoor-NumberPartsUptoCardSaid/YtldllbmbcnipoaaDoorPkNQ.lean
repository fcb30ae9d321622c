/-
  Several texts in one:
  WHAT Ids IS HANDED AND WHAT IT ANSWERS: slices of slices of blocks that the statements make, numbers by rank.
  CONTRACT of keys (number).
-/
import Derived.Test.YtldllbmbcnipoaaDoorPkNP
import Derived.Deep.RegionHeld3
import Derived.Test.YtldllbmbcnipoaaDoorNmWrB
import Derived.Test.YtldllbmbcnipoaaDoorPkNM
namespace Go.Proofs.YtldllbmbcnipoaaDoor.Nm
open Go.RowKit
open Go.Proofs.YtldllbmbcnipoaaDoor.Tk (S S_of S_list S_size S_toList S_app Rd RdI ret_int)
open Go.Proofs.YtldllbmbcnipoaaDoor.Cm (cell_at alloc_new Keep Keep.of_below calls_at)
open Go.Proofs.YtldllbmbcnipoaaDoor.Sp (Sp Tr totAll)
open Go.Proofs.YtldllbmbcnipoaaDoor.Bt (TrB ttAll ttOne lnTot szAll szOne smB spAll)
open Go.Proofs.YtldllbmbcnipoaaDoor.Bk (Bk Tx)
set_option linter.unusedVariables false

theorem rdi_drew {lo : Nat} {w : World} {v : Value} {ks : List Int} (h : RdI lo w v ks) (n : Nat) : RdI lo (w.drewN n) v ks := h
theorem of_drew {w w' : World} (h : Below w.drew.heap.size w.drew w') : Below w.heap.size w w' := ⟨h.os, h.tape, h.output, h.size, h.block⟩
theorem of_drewN {w w' : World} {n : Nat} (h : Below (w.drewN n).heap.size (w.drewN n) w') : Below w.heap.size w w' := ⟨h.os, h.tape, h.output, h.size, h.block⟩
theorem rsame_eq (a b : Value) (xs : List Int) (w : World) (ha : RdI 0 w a xs) (hb : RdI 0 w b xs) (hx : xs.length ≤ 1000000) :
    Calls Tryd.prog 13 #[a, b] w fun e w' => e = .returned (.bool true) ∧ ∃ n, w' = w.drewN n := by
  have := Tk.rsame_any 0 0 a b xs xs w ha hb hx hx
  rwa [decide_eq_true rfl] at this
theorem lsb_alloc {w : World} {t : TypeId} (vs : Array Value) (ls : List (List Bk)) (h : ∀ (j : Nat) (x : List Bk), ls[j]? = some x → ∃ u : Value, vs[j]? = some u ∧ TrB w u x) : LsB (w.alloc (.cells vs t)) (.slice (some ⟨w.heap.size, 0, none⟩) ls.length ls.length) ls := by
  refine ⟨_, ls.length, rfl, Nat.le_refl _, Or.inr ⟨w.heap.size, 0, rfl, by simp, fun j x hj => ?_⟩⟩
  obtain ⟨u, h1, h2⟩ := h j x hj
  refine ⟨u, ?_, h2.below ((Below.refl _ _).alloc (Nat.le_refl _) _)⟩
  rw [Nat.zero_add, World.cell?_alloc_new]
  exact h1
theorem lsb2 {w : World} {t : TypeId} {a b : Value} {x y : List Bk} (ha : TrB w a x) (hb : TrB w b y) : LsB (w.alloc (.cells #[a, b] t)) (.slice (some ⟨w.heap.size, 0, none⟩) 2 2) [x, y] :=
  lsb_alloc #[a, b] [x, y] (fun j z hj => by
    match j, hj with
    | 0, hj => simp at hj; subst hj; exact ⟨a, rfl, ha⟩
    | 1, hj => simp at hj; subst hj; exact ⟨b, rfl, hb⟩)
theorem lsb3 {w : World} {t : TypeId} {a b c : Value} {x y z : List Bk} (ha : TrB w a x) (hb : TrB w b y) (hc : TrB w c z) : LsB (w.alloc (.cells #[a, b, c] t)) (.slice (some ⟨w.heap.size, 0, none⟩) 3 3) [x, y, z] :=
  lsb_alloc #[a, b, c] [x, y, z] (fun j z hj => by
    match j, hj with
    | 0, hj => simp at hj; subst hj; exact ⟨a, rfl, ha⟩
    | 1, hj => simp at hj; subst hj; exact ⟨b, rfl, hb⟩
    | 2, hj => simp at hj; subst hj; exact ⟨c, rfl, hc⟩)
theorem lsb0 (w : World) : LsB w (.slice none 0 0) [] := ⟨none, 0, rfl, Nat.le_refl _, Or.inl rfl⟩
theorem rk_same {all all' : List Tx} (h : ∀ y, y ∈ all ↔ y ∈ all') (l : List Tx) : Tk.rk all l = Tk.rk all' l := List.map_congr_left (fun x _ => by rw [Tk.rank_same h])
theorem rk_len (all l : List Tx) : (Tk.rk all l).length = l.length := List.length_map _
theorem idL_two (a b : List Bk) : idL [a, b] = [Tk.rk (keys a ++ keys b) (keys a), Tk.rk (keys a ++ keys b) (keys b)] := by
  unfold idL keys
  simp
theorem idL_three (a b : List Bk) : idL [b, a, a] = [Tk.rk (keys a ++ keys b) (keys b), Tk.rk (keys a ++ keys b) (keys a), Tk.rk (keys a ++ keys b) (keys a)] := by
  have h : ∀ l, Tk.rk ((([b, a, a] : List (List Bk)).flatten).map bk1) l = Tk.rk (keys a ++ keys b) l := fun l => rk_same (fun y => by
    unfold keys
    simp only [List.flatten_cons, List.flatten_nil, List.append_nil, List.map_append, List.mem_append]
    exact ⟨fun h => by rcases h with h | h | h <;> simp [h], fun h => by rcases h with h | h <;> simp [h]⟩) l
  unfold idL
  simp only [List.map_cons, List.map_nil, h]
  rfl
theorem keys_len (l : List Bk) : (keys l).length = l.length := List.length_map _
/-- What a call tells that answers two rows of numbers. -/
theorem rdj_two {w : World} {v : Value} {x y : List Int} (h : RdJ w v [x, y]) : ∃ b o cap a0 c0 a1 c1, v = .slice (some ⟨b, o, none⟩) 2 cap ∧ b < w.heap.size ∧ w.cell? ⟨b, o, none⟩ = some (.slice a0 x.length c0) ∧ RdI 0 w (.slice a0 x.length c0) x ∧ w.cell? ⟨b, o + 1, none⟩ = some (.slice a1 y.length c1) ∧ RdI 0 w (.slice a1 y.length c1) y := by
  obtain ⟨ao, cap, rfl, hx⟩ := h
  rcases hx with hx | ⟨b, o, rfl, hlt, hcell⟩
  · cases hx
  · obtain ⟨u0, k0, r0⟩ := hcell 0 _ rfl
    obtain ⟨u1, k1, r1⟩ := hcell 1 _ rfl
    obtain ⟨a0, c0, h0⟩ := r0.len
    obtain ⟨a1, c1, h1⟩ := r1.len
    subst h0
    subst h1
    exact ⟨b, o, cap, a0, c0, a1, c1, rfl, hlt, k0, r0, k1, r1⟩
theorem rdj_three {w : World} {v : Value} {x y z : List Int} (h : RdJ w v [x, y, z]) : ∃ b o cap a0 c0 a1 c1 a2 c2, v = .slice (some ⟨b, o, none⟩) 3 cap ∧ b < w.heap.size ∧ w.cell? ⟨b, o, none⟩ = some (.slice a0 x.length c0) ∧ RdI 0 w (.slice a0 x.length c0) x ∧ w.cell? ⟨b, o + 1, none⟩ = some (.slice a1 y.length c1) ∧ RdI 0 w (.slice a1 y.length c1) y ∧ w.cell? ⟨b, o + 2, none⟩ = some (.slice a2 z.length c2) ∧ RdI 0 w (.slice a2 z.length c2) z := by
  obtain ⟨ao, cap, rfl, hx⟩ := h
  rcases hx with hx | ⟨b, o, rfl, hlt, hcell⟩
  · cases hx
  · obtain ⟨u0, k0, r0⟩ := hcell 0 _ rfl
    obtain ⟨u1, k1, r1⟩ := hcell 1 _ rfl
    obtain ⟨u2, k2, r2⟩ := hcell 2 _ rfl
    obtain ⟨a0, c0, h0⟩ := r0.len
    obtain ⟨a1, c1, h1⟩ := r1.len
    obtain ⟨a2, c2, h2⟩ := r2.len
    subst h0
    subst h1
    subst h2
    exact ⟨b, o, cap, a0, c0, a1, c1, a2, c2, rfl, hlt, k0, r0, k1, r1, k2, r2⟩
theorem rd_at {w : World} {ao : Option Addr} {n c : Nat} {x : List Tx} (h : Rd w (.slice ao n c) x) : ∀ i (hi : i < x.length), ∃ b o, ao = some ⟨b, o, none⟩ ∧ b < w.heap.size ∧ w.cell? ⟨b, o + i, none⟩ = some (.string (S x[i])) := by
  intro i hi
  obtain ⟨ao', c', hv, _, hx⟩ := h
  simp only [Value.slice.injEq] at hv
  obtain ⟨rfl, _, _⟩ := hv
  rcases hx with hx | ⟨b, o, rfl, hlt, hcell⟩
  · rw [hx] at hi; exact absurd hi (Nat.not_lt_zero _)
  · exact ⟨b, o, rfl, hlt, hcell i _ (List.getElem?_eq_getElem hi)⟩
theorem bkv_of {w : World} {b o : Nat} {x : Bk} {al as' ak : Option Addr} {cl cs ck : Nat} (h : Bt.Cells w b o x (.slice al x.lines.length cl) (.slice as' x.spans.length cs) ak ck) : BkV w x (.agg #[.int .i64 x.kind, .int .i64 x.level, .string (S x.info), .slice al x.lines.length cl, .slice as' x.spans.length cs, .slice ak x.kids.length ck]) :=
  ⟨al, as', ak, cl, cs, ck, rfl, h.rd, h.short, h.sp, h.tr⟩
end Go.Proofs.YtldllbmbcnipoaaDoor.Nm

namespace Go.Proofs.YtldllbmbcnipoaaDoor.Nm
open Go.RowKit
open Go.Proofs.YtldllbmbcnipoaaDoor.Tk (S S_of S_list S_size S_toList S_app Rd Fill infoS)
open Go.Proofs.YtldllbmbcnipoaaDoor.Cm (cell_at alloc_new)
open Go.Proofs.YtldllbmbcnipoaaDoor.Sp (Sp Tr totAll)
open Go.Proofs.YtldllbmbcnipoaaDoor.Bt (TrB ttAll ttOne lnTot szAll szOne ttAll_mem)
open Go.Proofs.YtldllbmbcnipoaaDoor.Bk (Bk Tx)
set_option linter.unusedVariables false

/-- A slice that reads as these texts, in a block from lo on. -/
def RdG (lo : Nat) (w : World) (v : Value) (xs : List Tx) : Prop :=
  ∃ ao cap, v = .slice ao xs.length cap ∧ xs.length ≤ cap ∧ (xs = [] ∨ ∃ b o, ao = some ⟨b, o, none⟩ ∧ lo ≤ b ∧ b < w.heap.size ∧ ∀ j x, xs[j]? = some x → w.cell? ⟨b, o + j, none⟩ = some (.string (S x)))
theorem RdG.rd {lo : Nat} {w : World} {v : Value} {xs : List Tx} (h : RdG lo w v xs) : Rd w v xs := by
  obtain ⟨ao, cap, hv, hc, hx⟩ := h
  refine ⟨ao, cap, hv, hc, ?_⟩
  rcases hx with hx | ⟨b, o, hao, _, hlt, hcell⟩
  · exact Or.inl hx
  · exact Or.inr ⟨b, o, hao, hlt, hcell⟩
theorem RdG.mono {lo lo' : Nat} {w : World} {v : Value} {xs : List Tx} (h : RdG lo w v xs) (hl : lo' ≤ lo) : RdG lo' w v xs := by
  obtain ⟨ao, cap, hv, hc, hx⟩ := h
  refine ⟨ao, cap, hv, hc, ?_⟩
  rcases hx with hx | ⟨b, o, hao, hlo, hlt, hcell⟩
  · exact Or.inl hx
  · exact Or.inr ⟨b, o, hao, Nat.le_trans hl hlo, hlt, hcell⟩
theorem RdG.len {lo : Nat} {w : World} {v : Value} {xs : List Tx} (h : RdG lo w v xs) : ∃ ao cap, v = .slice ao xs.length cap := by
  obtain ⟨ao, cap, hv, _⟩ := h; exact ⟨ao, cap, hv⟩
theorem RdG.below {lo : Nat} {w w' : World} {v : Value} {xs : List Tx} (h : RdG lo w v xs) (hb : Below w.heap.size w w') : RdG lo w' v xs := by
  obtain ⟨ao, cap, hv, hc, hx⟩ := h
  refine ⟨ao, cap, hv, hc, ?_⟩
  rcases hx with hx | ⟨b, o, hao, hlo, hlt, hcell⟩
  · exact Or.inl hx
  · exact Or.inr ⟨b, o, hao, hlo, Nat.lt_of_lt_of_le hlt hb.size, fun j x hj => (hb.cell (by exact hlt)).trans (hcell j x hj)⟩
theorem RdG.set {lo B k : Nat} {w : World} {v u : Value} {xs : List Tx} (h : RdG lo w v xs) (hB : B < lo) : RdG lo (w.setCell ⟨B, k, none⟩ u) v xs := by
  obtain ⟨ao, cap, hv, hc, hx⟩ := h
  refine ⟨ao, cap, hv, hc, ?_⟩
  rcases hx with hx | ⟨b, o, hao, hlo, hlt, hcell⟩
  · exact Or.inl hx
  · refine Or.inr ⟨b, o, hao, hlo, by simpa using hlt, fun j x hj => ?_⟩
    rw [← hcell j x hj]
    apply World.cell?_setCell_other
    intro e
    have : B = b := congrArg Addr.block e
    omega
def RdGA (w : World) (l : List Tx) (e : Ending) (w' : World) : Prop := ∃ v, e = .returned v ∧ RdG w.heap.size w' v l ∧ Below w.heap.size w w'
theorem fill_rd {w0 wr : World} {B : Nat} {xs : List Tx} (h : Fill w0 B xs.length 9 (fun j => .string (S (xs.getD j []))) xs.length wr) : RdG B wr (.slice (some ⟨B, 0, none⟩) xs.length xs.length) xs := by
  refine ⟨_, _, rfl, Nat.le_refl _, Or.inr ⟨B, 0, rfl, Nat.le_refl _, h.lt, fun j x hj => ?_⟩⟩
  have hjl := (List.getElem?_eq_some_iff.1 hj).1
  rw [Nat.zero_add, h.at (Nat.le_refl _) hjl, List.getD_eq_getElem?_getD, hj]
  rfl
set_option maxHeartbeats 3200000 in
set_option maxRecDepth 100000 in
theorem keysP_any (l : List Bk) (v : Value) (w : World) (hT : Tab w) (htt : ttAll l ≤ 2000) (hf : Bt.fitAll 140737488355328 l) (ht : TrB w v l) :
    Calls Tryd.prog 15 #[v] w (RdGA w (keys l)) := by
  obtain ⟨i0, hi, hz0, hz1, hz2⟩ := info_parts infoS
  obtain ⟨ao, ca, rfl⟩ := ht.len
  have HT := Lib.hid (fun w' (h : Below w.heap.size w w') => ht.below h)
  have hll := tt_len l
  have la : l.length ≤ 2000 := by omega
  have hm : l.length ≤ maxLen := by unfold maxLen; omega
  have HK := Lib.hid (fun k (hk : k < l.length) (v : Value) (w' : World) (hb : Below w.heap.size w w') (hv : BkV w' l[k] v) => keyP_any l[k] v w' (hT.below hb) hv (by have := ttAll_mem (List.getElem_mem hk); omega) (Bt.fitAll_at hf _ (List.getElem_mem hk)))
  have HG := Lib.hid (fun k (hk : k < l.length) => show (keys l).getD k [] = bk1 l[k] by unfold keys; simp [List.getD, hk])
  have hkl : (keys l).length = l.length := List.length_map ..
  unfold StrA at HK
  unfold RdGA
  clear ht hf htt hT hll
  go_enter Tryd.func15, Tryd.ntmps15
  go_wp2_with (at_make; refine wpList_make_full _ rfl _ _ 30 rfl w.heap.size 9 i0 (.string ⟨#[]⟩) 1 Tryd.underlying30 hi hz0 hz1 _ _ _ _ l.length rfl rfl rfl rfl (by rw [hz2]; omega) hm (Nat.le_refl _) ?_)
  intro W4 hown hgrow
  have HF : Hid (Fill w w.heap.size l.length 9 (fun j => .string (S ((keys l).getD j []))) 0 W4) := Lib.hid (Fill.start hown hgrow)
  clear hown hgrow hi hz0 hz1 hz2
  go_wp2_with fail
  go_loopw [11] (fun i wr => ∃ k : Nat, k ≤ l.length ∧ i = .int .i64 k ∧ Hid (Fill w w.heap.size l.length 9 (fun j => .string (S ((keys l).getD j []))) k wr)) (fun i _ => l.length - (intOf i).toNat)
  case atStart => exact ⟨0, Nat.zero_le _, rfl, HF⟩
  case round =>
    clear HF
    obtain ⟨k, hk, rfl, HF⟩ := hrel
    have HB : Hid (Below w.heap.size w wr) := Lib.hid (by obtain ⟨_, _, _, h⟩ := HF.out; exact h)
    by_cases hlt : k < l.length
    · have hi1 : (k : Int) < (l.length : Int) := by omega
      obtain ⟨b, o, vl, vs, ak, ck, rfl, hb, hC⟩ := (HT.out _ HB.out).at k hlt
      obtain ⟨al, cl, rfl⟩ := hC.rd.len
      obtain ⟨as', cs, rfl⟩ := hC.sp.len
      have VA := Lib.hid (bkv_of hC)
      have c0 := hC.kind
      have c1 := hC.level
      have c2 := hC.info
      have c3 := hC.lines
      have c4 := hC.spans
      have c5 := hC.kids
      have HKw := Lib.hid (fun (w' : World) (h : Below wr.heap.size wr w') => HK.out k hlt _ w' (HB.out.trans (h.mono HB.out.size)) (VA.out.below h))
      have HFs := Lib.hid (fun (w' : World) (h : Below wr.heap.size wr w') => (HF.out.below h).step hlt)
      have HFc := Lib.hid (fun (w' : World) (h : Below wr.heap.size wr w') => (HF.out.below h).cell hlt)
      rw [HG.out k hlt] at HFs
      clear hC HT HK VA HG HF
      generalize bk1 l[k] = y at *
      generalize l[k].kids.length = kn at *
      generalize l[k].spans.length = sn at *
      generalize l[k].lines.length = ln at *
      generalize S l[k].info = si at *
      generalize l[k].level = lv at *
      generalize l[k].kind = z at *
      go_upto_region 5 with fail
      have hA1 := alloc_new wr (.cells #[.int .i64 z, .int .i64 lv, .string si, .slice al ln cl, .slice as' sn cs, .slice ak kn ck] 33)
      have hb1 : Below wr.heap.size wr (wr.alloc (.cells #[.int .i64 z, .int .i64 lv, .string si, .slice al ln cl, .slice as' sn cs, .slice ak kn ck] 33)) := (Below.refl wr.heap.size wr).alloc (Nat.le_refl _) _
      have HB1 := Lib.hid hb1
      clear c0 c1 c2 c3 c4 c5 hb1
      generalize wr.alloc (.cells #[.int .i64 z, .int .i64 lv, .string si, .slice al ln cl, .slice as' sn cs, .slice ak kn ck] 33) = w1 at *
      have k0 : w1.cell? ⟨wr.heap.size, 0, none⟩ = some (.int .i64 z) := cell_at hA1 0
      have k1 : w1.cell? ⟨wr.heap.size, 1, none⟩ = some (.int .i64 lv) := cell_at hA1 1
      have k2 : w1.cell? ⟨wr.heap.size, 2, none⟩ = some (.string si) := cell_at hA1 2
      have k3 : w1.cell? ⟨wr.heap.size, 3, none⟩ = some (.slice al ln cl) := cell_at hA1 3
      have k4 : w1.cell? ⟨wr.heap.size, 4, none⟩ = some (.slice as' sn cs) := cell_at hA1 4
      have k5 : w1.cell? ⟨wr.heap.size, 5, none⟩ = some (.slice ak kn ck) := cell_at hA1 5
      have HKw1 := Lib.hid (HKw.out w1 HB1.out)
      clear hA1 HKw
      go_wp2_with fail
      refine HKw1.out.mono ?_
      rintro e w5 ⟨rfl, b5⟩
      have hb5 := HB1.out.trans (b5.mono HB1.out.size)
      have HR := Lib.hid (HFs.out w5 hb5)
      obtain ⟨⟨c5, hc5⟩, hf5⟩ := HFc.out w5 hb5
      clear b5 hb5 HKw1 HFs HFc HB1 k0 k1 k2 k3 k4 k5
      generalize S y = sy at *
      go_wp2_with fail
      go_roundw
      case rel => exact ⟨k + 1, by omega, by go_num, HR⟩
      case measure => simp [intOf] <;> omega
    · obtain rfl : k = l.length := by omega
      have hi1 : ¬ (l.length : Int) < (l.length : Int) := by omega
      have HR : Hid (RdG w.heap.size wr (.slice (some ⟨w.heap.size, 0, none⟩) l.length l.length) (keys l)) := Lib.hid (by
        have h := HF.out
        rw [← hkl] at h ⊢
        exact fill_rd h)
      clear HF HT HK HG hlt
      go_wp2_with fail
      go_ret
      exact ⟨_, rfl, HR.out, HB.out⟩
end Go.Proofs.YtldllbmbcnipoaaDoor.Nm
