/-
  Several texts in one:
  
  
  
  
-/
import Derived.Test.YtldllbmbcnipoabGreatDoorPkWK
import Derived.Test.YtldllbmbcnipoabGreatDoorPkWL
import Derived.Test.YtldllbmbcnipoabGreatDoorPkWC
import Derived.Deep.RegionHeld3
import Derived.Test.YtldllbmbcnipoabGreatDoorPkWJ
import Derived.Test.YtldllbmbcnipoabGreatDoorPkWG
namespace Go.Proofs.YtldllbmbcnipoabGreatDoor.Nm
open Go.RowKit
open Go.Proofs.YtldllbmbcnipoabGreatDoor.Tk (S S_of S_list S_size S_toList S_app Rd RdI ret_int)
open Go.Proofs.YtldllbmbcnipoabGreatDoor.Cm (cell_at alloc_new Keep Keep.of_below calls_at)
open Go.Proofs.YtldllbmbcnipoabGreatDoor.Sp (Sp Tr totAll)
open Go.Proofs.YtldllbmbcnipoabGreatDoor.Bt (TrB ttAll ttOne lnTot szAll szOne smB spAll)
open Go.Proofs.YtldllbmbcnipoabGreatDoor.Bk (Bk Tx)
set_option linter.unusedVariables false
def RdJ (w : World) (v : Value) (ids : List (List Int)) : Prop :=
  ∃ ao cap, v = .slice ao ids.length cap ∧ (ids = [] ∨ ∃ b o, ao = some ⟨b, o, none⟩ ∧ b < w.heap.size ∧ ∀ j x, ids[j]? = some x → ∃ u, w.cell? ⟨b, o + j, none⟩ = some u ∧ RdI 0 w u x)
structure Told15 : Prop where
  key : ∀ (x : Bk) (v : Value) (w : World), BkV w x v → Tab w → ttOne x ≤ 2000 → Bt.fitOne 140737488355328 x → Calls Tryz.prog 7 #[v] w (StrA w (S (bk1 x)))
  alike : ∀ (x y : Bk) (vx vy : Value) (w : World), BkV w x vx → BkV w y vy → Tab w → ttOne x ≤ 2000 → ttOne y ≤ 2000 → Bt.fitOne 140737488355328 x → Bt.fitOne 140737488355328 y → Calls Tryz.prog 8 #[vx, vy] w (IntA w (al x y : Nat))
def BoolA (w : World) (y : Bool) (e : Ending) (w' : World) : Prop := e = .returned (.bool y) ∧ Below w.heap.size w w'
def fewN (l : List Bk) : Bool := decide (l.length ≤ 20) && decide (spAll 40 5000 0 l < 800)
theorem fewN_tt {l : List Bk} (h : fewN l = true) (ht : ttAll l ≤ 1048576) : l.length ≤ 20 ∧ ttAll l < 800 := by
  unfold fewN at h
  rw [Bool.and_eq_true, decide_eq_true_iff, decide_eq_true_iff] at h
  have := few_tt (by omega) h.2 ht
  exact ⟨h.1, by omega⟩
theorem few15_any (l : List Bk) (v : Value) (w : World) (ht : TrB w v l) (hf : Bt.fitAll reachBytes l) :
    Calls Tryz.prog 5 #[v] w (BoolA w (fewN l)) := by
  have H := Lib.hid (Bt.sizeB_any l v w ht hf)
  obtain ⟨ao, ca, rfl⟩ := ht.len
  unfold fewN
  clear ht hf
  generalize spAll 40 5000 0 l = z at *
  by_cases hl : l.length ≤ 20
  · have g1 : decide ((l.length : Int) ≤ 20) = true := decide_eq_true (by omega)
    rw [decide_eq_true hl, Bool.true_and]
    go_enter Tryz.func5, Tryz.ntmps5
    go_wp2_with fail
    refine H.out.mono ?_
    rintro e w1 ⟨rfl, n, rfl⟩
    clear H
    go_wp2_with fail
    go_ret
    exact ⟨rfl, below_drewN (Below.refl _ _) n⟩
  · have g1 : decide ((l.length : Int) ≤ 20) = false := decide_eq_false (by omega)
    rw [decide_eq_false hl, Bool.false_and]
    clear H
    go_enter Tryz.func5, Tryz.ntmps5
    go_wp2_with fail
    go_ret
    exact ⟨rfl, Below.refl _ _⟩
theorem bkv_lit (w : World) (k : Int) : BkV w (.mk k 0 [] [] [] []) (.agg #[.int .i64 k, .int .i64 0, .string ⟨#[]⟩, .slice none 0 0, .slice none 0 0, .slice none 0 0]) :=
  ⟨none, none, none, 0, 0, 0, rfl, ⟨none, 0, rfl, Nat.le_refl _, Or.inl rfl⟩, Nat.zero_le _, ⟨none, 0, rfl, ⟨Nat.le_refl _, by omega⟩, Or.inl rfl⟩, ⟨none, 0, rfl, ⟨Nat.le_refl _, by omega⟩, Or.inl rfl⟩⟩
theorem fit_lit (k : Int) (hk : -9223372036854775808 ≤ k ∧ k ≤ 9223372036854775807) : Bt.fitOne 140737488355328 (.mk k 0 [] [] [] []) := by
  rw [Bt.fitOne]
  exact ⟨hk, by omega, by simp, fun s hs => (by cases hs), by unfold Sp.fitAll; trivial, by unfold Bt.fitAll; trivial⟩
set_option maxHeartbeats 1600000 in
theorem awake15_any (K : Told15) (w : World) (hT : Tab w) : Calls Tryz.prog 4 #[] w (BoolA w true) := by
  have HK := Lib.hid (K.key _ _ w (bkv_lit w 3) hT (by decide) (fit_lit 3 (by omega)))
  have e1 : bk1 (.mk 3 0 [] [] [] []) = [51, 59, 48, 59, 48, 58, 48, 59, 48, 59, 48, 59] := by
    have d0 : dgN 0 = [48] := by rw [dgN_small (by omega)]; rfl
    have d3 : dgN 3 = [51] := by rw [dgN_small (by omega)]; rfl
    have i0 : dgI 0 = [48] := by unfold dgI; rw [if_neg (by omega)]; exact d0
    have i3 : dgI 3 = [51] := by unfold dgI; rw [if_neg (by omega)]; exact d3
    rw [bk1]
    unfold spK tx
    simp [d0, i0, i3, txs, spR, bkR]
  rw [e1] at HK
  have HA := Lib.hid (fun w' (b : Below w.heap.size w w') => K.alike _ _ _ _ w' (bkv_lit w' 0) (bkv_lit w' 0) (hT.below b) (by decide) (by decide) (fit_lit 0 (by omega)) (fit_lit 0 (by omega)))
  have e2 : al (.mk 0 0 [] [] [] []) (.mk 0 0 [] [] [] []) = 1000 := by unfold al; rw [if_pos ((Bt.smB_iff _ _).2 rfl)]
  rw [e2] at HA
  have eS : (S [51, 59, 48, 59, 48, 58, 48, 59, 48, 59, 48, 59]).toList == [51, 59, 48, 59, 48, 58, 48, 59, 48, 59, 48, 59] := by rw [S_toList]; rfl
  unfold StrA at HK
  unfold IntA at HA
  generalize S [51, 59, 48, 59, 48, 58, 48, 59, 48, 59, 48, 59] = y at *
  clear e1 e2
  go_enter Tryz.func4, Tryz.ntmps4
  go_wp2_with fail
  refine HK.out.mono ?_
  rintro e w2 ⟨rfl, b2⟩
  have B2 := Lib.hid b2
  clear b2 HK
  go_wp2_with fail
  refine (HA.out _ B2.out).mono ?_
  rintro e w3 ⟨rfl, b3⟩
  have B3 := Lib.hid (B2.out.trans (b3.mono B2.out.size))
  clear b3 HA B2
  go_wp2_with fail
  go_ret
  exact ⟨rfl, B3.out⟩
end Go.Proofs.YtldllbmbcnipoabGreatDoor.Nm

namespace Go.Proofs.YtldllbmbcnipoabGreatDoor.Nm
open Go.RowKit
open Go.Proofs.YtldllbmbcnipoabGreatDoor.Tk (S S_of S_list S_size S_toList S_app Rd RdI ret_int)
open Go.Proofs.YtldllbmbcnipoabGreatDoor.Cm (cell_at alloc_new Keep Keep.of_below calls_at)
open Go.Proofs.YtldllbmbcnipoabGreatDoor.Sp (Sp Tr totAll)
open Go.Proofs.YtldllbmbcnipoabGreatDoor.Bt (TrB ttAll ttOne lnTot szAll szOne smB spAll)
open Go.Proofs.YtldllbmbcnipoabGreatDoor.Bk (Bk Tx)
set_option linter.unusedVariables false
theorem rdi_drew {lo : Nat} {w : World} {v : Value} {ks : List Int} (h : RdI lo w v ks) (n : Nat) : RdI lo (w.drewN n) v ks := h
theorem of_drewN {w w' : World} {n : Nat} (h : Below (w.drewN n).heap.size (w.drewN n) w') : Below w.heap.size w w' := ⟨h.os, h.tape, h.output, h.size, h.block⟩
theorem rk_same {all all' : List Tx} (h : ∀ y, y ∈ all ↔ y ∈ all') (l : List Tx) : Tk.rk all l = Tk.rk all' l := List.map_congr_left (fun x _ => by rw [Tk.rank_same h])
theorem rdj_two {w : World} {v : Value} {x y : List Int} (h : RdJ w v [x, y]) : ∃ b o cap a0 c0 a1 c1, v = .slice (some ⟨b, o, none⟩) 2 cap ∧ b < w.heap.size ∧ w.cell? ⟨b, o, none⟩ = some (.slice a0 x.length c0) ∧ RdI 0 w (.slice a0 x.length c0) x ∧ w.cell? ⟨b, o + 1, none⟩ = some (.slice a1 y.length c1) ∧ RdI 0 w (.slice a1 y.length c1) y := by
  obtain ⟨ao, cap, rfl, hx⟩ := h
  rcases hx with hx | ⟨b, o, rfl, hlt, hcell⟩
  · cases hx
  · obtain ⟨u0, k0, r0⟩ := hcell 0 _ rfl
    obtain ⟨u1, k1, r1⟩ := hcell 1 _ rfl
    obtain ⟨a0, c0, h0⟩ := r0.len
    obtain ⟨a1, c1, h1⟩ := r1.len
    subst h0
    subst h1
    exact ⟨b, o, cap, a0, c0, a1, c1, rfl, hlt, k0, r0, k1, r1⟩
theorem bkv_of {w : World} {b o : Nat} {x : Bk} {al as' ak : Option Addr} {cl cs ck : Nat} (h : Bt.Cells w b o x (.slice al x.lines.length cl) (.slice as' x.spans.length cs) ak ck) : BkV w x (.agg #[.int .i64 x.kind, .int .i64 x.level, .string (S x.info), .slice al x.lines.length cl, .slice as' x.spans.length cs, .slice ak x.kids.length ck]) :=
  ⟨al, as', ak, cl, cs, ck, rfl, h.rd, h.short, h.sp, h.tr⟩
end Go.Proofs.YtldllbmbcnipoabGreatDoor.Nm

namespace Go.Proofs.YtldllbmbcnipoabGreatDoor.Nm
open Go.RowKit
open Go.Proofs.YtldllbmbcnipoabGreatDoor.Tk (S S_of S_list S_size S_toList S_app Rd Fill infoS)
open Go.Proofs.YtldllbmbcnipoabGreatDoor.Cm (cell_at alloc_new)
open Go.Proofs.YtldllbmbcnipoabGreatDoor.Sp (Sp Tr totAll)
open Go.Proofs.YtldllbmbcnipoabGreatDoor.Bt (TrB ttAll ttOne lnTot szAll szOne ttAll_mem)
open Go.Proofs.YtldllbmbcnipoabGreatDoor.Bk (Bk Tx)
set_option linter.unusedVariables false
def RdG (lo : Nat) (w : World) (v : Value) (xs : List Tx) : Prop :=
  ∃ ao cap, v = .slice ao xs.length cap ∧ xs.length ≤ cap ∧ (xs = [] ∨ ∃ b o, ao = some ⟨b, o, none⟩ ∧ lo ≤ b ∧ b < w.heap.size ∧ ∀ j x, xs[j]? = some x → w.cell? ⟨b, o + j, none⟩ = some (.string (S x)))
theorem RdG.rd {lo : Nat} {w : World} {v : Value} {xs : List Tx} (h : RdG lo w v xs) : Rd w v xs := by
  obtain ⟨ao, cap, hv, hc, hx⟩ := h
  refine ⟨ao, cap, hv, hc, ?_⟩
  rcases hx with hx | ⟨b, o, hao, _, hlt, hcell⟩
  · exact Or.inl hx
  · exact Or.inr ⟨b, o, hao, hlt, hcell⟩
def RdGA (w : World) (l : List Tx) (e : Ending) (w' : World) : Prop := ∃ v, e = .returned v ∧ RdG w.heap.size w' v l ∧ Below w.heap.size w w'
theorem fill_rd {w0 wr : World} {B : Nat} {xs : List Tx} (h : Fill w0 B xs.length 9 (fun j => .string (S (xs.getD j []))) xs.length wr) : RdG B wr (.slice (some ⟨B, 0, none⟩) xs.length xs.length) xs := by
  refine ⟨_, _, rfl, Nat.le_refl _, Or.inr ⟨B, 0, rfl, Nat.le_refl _, h.lt, fun j x hj => ?_⟩⟩
  have hjl := (List.getElem?_eq_some_iff.1 hj).1
  rw [Nat.zero_add, h.at (Nat.le_refl _) hjl, List.getD_eq_getElem?_getD, hj]
  rfl
set_option maxHeartbeats 3200000 in
set_option maxRecDepth 100000 in
theorem keysP_any (l : List Bk) (v : Value) (w : World) (hT : Tab w) (htt : ttAll l ≤ 2000) (hf : Bt.fitAll 140737488355328 l) (ht : TrB w v l) :
    Calls Tryz.prog 32 #[v] w (RdGA w (keys l)) := by
  obtain ⟨i0, hi, hz0, hz1, hz2⟩ := info_parts infoS
  obtain ⟨ao, ca, rfl⟩ := ht.len
  have HT := Lib.hid (fun w' (h : Below w.heap.size w w') => ht.below h)
  have hll := tt_len l
  have la : l.length ≤ 2000 := by omega
  have hm : l.length ≤ maxLen := by unfold maxLen; omega
  have HK := Lib.hid (fun k (hk : k < l.length) (v : Value) (w' : World) (hb : Below w.heap.size w w') (hv : BkV w' l[k] v) => keyP_any l[k] v w' (hT.below hb) hv (by have := ttAll_mem (List.getElem_mem hk); omega) (Bt.fitAll_at hf _ (List.getElem_mem hk)))
  have HG := Lib.hid (fun k (hk : k < l.length) => show (keys l).getD k [] = bk1 l[k] by unfold keys; simp [List.getD, hk])
  have hkl : (keys l).length = l.length := List.length_map ..
  unfold StrA at HK
  unfold RdGA
  clear ht hf htt hT hll
  go_enter Tryz.func32, Tryz.ntmps32
  go_wp2_with (at_make; refine wpList_make_full _ rfl _ _ 29 rfl w.heap.size 9 i0 (.string ⟨#[]⟩) 1 Tryz.underlying29 hi hz0 hz1 _ _ _ _ l.length rfl rfl rfl rfl (by rw [hz2]; omega) hm (Nat.le_refl _) ?_)
  intro W4 hown hgrow
  have HF : Hid (Fill w w.heap.size l.length 9 (fun j => .string (S ((keys l).getD j []))) 0 W4) := Lib.hid (Fill.start hown hgrow)
  clear hown hgrow hi hz0 hz1 hz2
  go_wp2_with fail
  go_loopw [11] (fun i wr => ∃ k : Nat, k ≤ l.length ∧ i = .int .i64 k ∧ Hid (Fill w w.heap.size l.length 9 (fun j => .string (S ((keys l).getD j []))) k wr)) (fun i _ => l.length - (intOf i).toNat)
  case atStart => exact ⟨0, Nat.zero_le _, rfl, HF⟩
  case round =>
    clear HF
    obtain ⟨k, hk, rfl, HF⟩ := hrel
    have HB : Hid (Below w.heap.size w wr) := Lib.hid (by obtain ⟨_, _, _, h⟩ := HF.out; exact h)
    by_cases hlt : k < l.length
    · have hi1 : (k : Int) < (l.length : Int) := by omega
      obtain ⟨b, o, vl, vs, ak, ck, rfl, hb, hC⟩ := (HT.out _ HB.out).at k hlt
      obtain ⟨al, cl, rfl⟩ := hC.rd.len
      obtain ⟨as', cs, rfl⟩ := hC.sp.len
      have VA := Lib.hid (bkv_of hC)
      have c0 := hC.kind
      have c1 := hC.level
      have c2 := hC.info
      have c3 := hC.lines
      have c4 := hC.spans
      have c5 := hC.kids
      have HKw := Lib.hid (fun (w' : World) (h : Below wr.heap.size wr w') => HK.out k hlt _ w' (HB.out.trans (h.mono HB.out.size)) (VA.out.below h))
      have HFs := Lib.hid (fun (w' : World) (h : Below wr.heap.size wr w') => (HF.out.below h).step hlt)
      have HFc := Lib.hid (fun (w' : World) (h : Below wr.heap.size wr w') => (HF.out.below h).cell hlt)
      rw [HG.out k hlt] at HFs
      clear hC HT HK VA HG HF
      generalize bk1 l[k] = y at *
      generalize l[k].kids.length = kn at *
      generalize l[k].spans.length = sn at *
      generalize l[k].lines.length = ln at *
      generalize S l[k].info = si at *
      generalize l[k].level = lv at *
      generalize l[k].kind = z at *
      go_upto_region 5 with fail
      have hA1 := alloc_new wr (.cells #[.int .i64 z, .int .i64 lv, .string si, .slice al ln cl, .slice as' sn cs, .slice ak kn ck] 32)
      have hb1 : Below wr.heap.size wr (wr.alloc (.cells #[.int .i64 z, .int .i64 lv, .string si, .slice al ln cl, .slice as' sn cs, .slice ak kn ck] 32)) := (Below.refl wr.heap.size wr).alloc (Nat.le_refl _) _
      have HB1 := Lib.hid hb1
      clear c0 c1 c2 c3 c4 c5 hb1
      generalize wr.alloc (.cells #[.int .i64 z, .int .i64 lv, .string si, .slice al ln cl, .slice as' sn cs, .slice ak kn ck] 32) = w1 at *
      have k0 : w1.cell? ⟨wr.heap.size, 0, none⟩ = some (.int .i64 z) := cell_at hA1 0
      have k1 : w1.cell? ⟨wr.heap.size, 1, none⟩ = some (.int .i64 lv) := cell_at hA1 1
      have k2 : w1.cell? ⟨wr.heap.size, 2, none⟩ = some (.string si) := cell_at hA1 2
      have k3 : w1.cell? ⟨wr.heap.size, 3, none⟩ = some (.slice al ln cl) := cell_at hA1 3
      have k4 : w1.cell? ⟨wr.heap.size, 4, none⟩ = some (.slice as' sn cs) := cell_at hA1 4
      have k5 : w1.cell? ⟨wr.heap.size, 5, none⟩ = some (.slice ak kn ck) := cell_at hA1 5
      have HKw1 := Lib.hid (HKw.out w1 HB1.out)
      clear hA1 HKw
      go_wp2_with fail
      refine HKw1.out.mono ?_
      rintro e w5 ⟨rfl, b5⟩
      have hb5 := HB1.out.trans (b5.mono HB1.out.size)
      have HR := Lib.hid (HFs.out w5 hb5)
      obtain ⟨⟨c5, hc5⟩, hf5⟩ := HFc.out w5 hb5
      clear b5 hb5 HKw1 HFs HFc HB1 k0 k1 k2 k3 k4 k5
      generalize S y = sy at *
      go_wp2_with fail
      go_roundw
      case rel => exact ⟨k + 1, by omega, by go_num, HR⟩
      case measure => simp [intOf] <;> omega
    · obtain rfl : k = l.length := by omega
      have hi1 : ¬ (l.length : Int) < (l.length : Int) := by omega
      have HR : Hid (RdG w.heap.size wr (.slice (some ⟨w.heap.size, 0, none⟩) l.length l.length) (keys l)) := Lib.hid (by
        have h := HF.out
        rw [← hkl] at h ⊢
        exact fill_rd h)
      clear HF HT HK HG hlt
      go_wp2_with fail
      go_ret
      exact ⟨_, rfl, HR.out, HB.out⟩
end Go.Proofs.YtldllbmbcnipoabGreatDoor.Nm

namespace Go.Proofs.YtldllbmbcnipoabGreatDoor.Sp
open Go.RowKit
open Go.Proofs.YtldllbmbcnipoabGreatDoor.Tk (S S_of S_list S_size S_toList S_app ret_int)
open Go.Proofs.YtldllbmbcnipoabGreatDoor.Cm (calls_at alloc_new alloc_at cell_at lt_of_at)
set_option linter.unusedVariables false
structure Sink (kf : Nat) (pv : Value) (B N : Nat) (I : List UInt8 → World → Prop) : Prop where
  enters : ∀ args w, (callFunc kf args).run Tryz.prog w = .ok (.enter kf args) w
  alloc : ∀ p w o, I p w → I p (w.alloc o)
  call : ∀ p s w, I p w → B ≤ w.heap.size → p.length + s.length ≤ N → Calls Tryz.prog kf #[.string (S s), pv] w fun e w' => e = .returned (.tuple #[]) ∧ Below B w w' ∧ I (p ++ s) w' ∧ ∀ (k : Nat) (c : Array Value), w.heap[k]? = some (Obj.cells c 81 (0, 0)) → w'.heap[k]? = some (Obj.cells c 81 (0, 0))
def ReadAns (w0 : World) (I : List UInt8 → World → Prop) (p : List UInt8) (e : Ending) (w' : World) : Prop := e = .returned (.tuple #[]) ∧ Below w0.heap.size w0 w' ∧ I p w'
set_option maxHeartbeats 6400000 in
set_option maxRecDepth 100000 in
theorem read_any (kf : Nat) (pv : Value) (N : Nat) (I : List UInt8 → World → Prop) (w0 : World) (K : Sink kf pv w0.heap.size N I) (m : Nat) : ∀ (l : List Sp) (v : Value) (w : World) (p : List UInt8), totAll l ≤ m → Tr w0 v l → Below w0.heap.size w0 w → I p w → p.length + (plAll l).length ≤ N →
    Calls Tryz.prog 50 #[v, .func (.func kf) #[] #[pv]] w (ReadAns w0 I (p ++ plAll l)) := by
  induction m using Nat.strongRecOn with
  | ind m ih =>
    intro l v w p hm ht hbw hi hN
    have T := Lib.hid ht
    obtain ⟨ao, ca, rfl⟩ := ht.len
    have hlen := ht.short
    have e1f := K.enters
    have HK := Lib.hid K
    have HIH : Hid (∀ k (hk : k < l.length) (v' : Value) (w' : World) (q : List UInt8), Tr w0 v' l[k].kids → Below w0.heap.size w0 w' → I q w' → q.length + (plAll l[k].kids).length ≤ N → Calls Tryz.prog 50 #[v', .func (.func kf) #[] #[pv]] w' (ReadAns w0 I (q ++ plAll l[k].kids))) := Lib.hid (fun k hk v' w' q t b i n =>
      ih (totAll l[k].kids) (Nat.lt_of_lt_of_le (totAll_kids (List.getElem_mem hk)) hm) l[k].kids v' w' q (Nat.le_refl _) t b i n)
    have H0 : Hid (p ++ plAll l = p ++ plAll (l.drop 0)) := Lib.hid (by rw [List.drop_zero])
    have HN0 : Hid ((p ++ plAll l).length ≤ N) := Lib.hid (by rw [List.length_append]; exact hN)
    obtain ⟨X, hX⟩ : ∃ X, p ++ plAll l = X := ⟨_, rfl⟩
    rw [hX] at H0 HN0
    rw [hX]
    have HB0 := Lib.hid hbw
    have HI0 := Lib.hid hi
    clear ih ht hm hX hbw hi hN K
    go_enter Tryz.func50, Tryz.ntmps50
    go_wp2_with fail
    go_loopw [8] (fun i wr => ∃ (k : Nat) (q : List UInt8), k ≤ l.length ∧ i = .int .i64 k ∧ Hid (Below w0.heap.size w0 wr) ∧ Hid (I q wr) ∧ Hid (X = q ++ plAll (l.drop k))) (fun i _ => l.length - (intOf i).toNat)
    case atStart => exact ⟨0, p, Nat.zero_le _, rfl, HB0, HI0, H0⟩
    case round =>
      clear H0 HB0 HI0
      obtain ⟨k, q, hk, rfl, HB, HI, HN⟩ := hrel
      by_cases hlt : k < l.length
      · have hnx := HN.out
        rw [drop_cons l k hlt, plAll_cons, plOne_eq] at hnx
        have hi1 : (k : Int) < (l.length : Int) := by omega
        obtain ⟨b, o, ak, ck, rfl, hb, hC⟩ := T.out.at k hlt
        have c0 := (HB.out.cell (p := ⟨b, o + k * 3, none⟩) hb).trans hC.kind
        have c1 := (HB.out.cell (p := ⟨b, o + k * 3 + 1, none⟩) hb).trans hC.s
        have c2 := (HB.out.cell (p := ⟨b, o + k * 3 + 2, none⟩) hb).trans hC.kids
        have HC := Lib.hid (fun w' q' => HIH.out k hlt _ w' q' hC.tr)
        have HQ := Lib.hid hnx
        have hall := congrArg List.length hnx
        have hxn := HN0.out
        simp only [List.length_append] at hall
        clear hnx HN hC
        generalize l[k].kids.length = kn at *
        generalize plAll l[k].kids = y at *
        generalize l[k].kind = z at *
        generalize l[k].s = s at *
        have B1 : Below w0.heap.size w0 (wr.alloc (.cells #[.int .i64 z, .string (S s), .slice ak kn ck] 81)) := HB.out.alloc HB.out.size _
        have HB1 := Lib.hid B1
        have HI1 := Lib.hid (HK.out.alloc q wr (.cells #[.int .i64 z, .string (S s), .slice ak kn ck] 81) HI.out)
        have HA := Lib.hid (alloc_new wr (.cells #[.int .i64 z, .string (S s), .slice ak kn ck] 81))
        clear B1 HB HI
        by_cases hz : z = 1 ∨ z = 2
        · rw [if_pos hz] at hall
          have HQ2 : Hid (X = ((q ++ s) ++ y) ++ plAll (l.drop (k + 1))) := Lib.hid (by rw [HQ.out, if_pos hz]; simp)
          have HW := Lib.hid (HK.out.call q s _ HI1.out HB1.out.size (by omega))
          have hlen2 : (q ++ s).length + y.length ≤ N := by rw [List.length_append]; omega
          clear HQ hall hxn
          go_upto_region 3 with fail
          generalize wr.alloc (.cells #[.int .i64 z, .string (S s), .slice ak kn ck] 81) = w1 at *
          have a0 : w1.cell? ⟨wr.heap.size, 0, none⟩ = some (.int .i64 z) := cell_at HA.out 0
          have a1 : w1.cell? ⟨wr.heap.size, 1, none⟩ = some (.string (S s)) := cell_at HA.out 1
          have a2 : w1.cell? ⟨wr.heap.size, 2, none⟩ = some (.slice ak kn ck) := cell_at HA.out 2
          rcases hz with hz | hz
          · have e1 : (z == 1) = true := by rw [hz]; rfl
            clear hz
            go_wp2_with fail
            refine HW.out.mono ?_
            rintro e w2 ⟨rfl, hb2, hi2, hk2⟩
            have n2 : w2.cell? ⟨wr.heap.size, 2, none⟩ = some (.slice ak kn ck) := cell_at (hk2 _ _ HA.out) 2
            have HB2 := Lib.hid (HB1.out.trans hb2)
            have HC1 := Lib.hid (HC.out w2 (q ++ s) HB2.out hi2 hlen2)
            clear hb2 hi2 hk2 HW HC
            go_wp2_with fail
            refine HC1.out.mono ?_
            rintro e w3 ⟨rfl, hb3, hi3⟩
            have HB3 := Lib.hid hb3
            have HI3 := Lib.hid hi3
            clear hb3 hi3 HC1
            go_wp2_with fail
            go_roundw
            case rel => exact ⟨k + 1, (q ++ s) ++ y, by omega, by go_num, HB3, HI3, HQ2⟩
            case measure => simp [intOf] <;> omega
          · have e1 : (z == 1) = false := by rw [hz]; rfl
            have e2 : (z == 2) = true := by rw [hz]; rfl
            clear hz
            go_wp2_with fail
            refine HW.out.mono ?_
            rintro e w2 ⟨rfl, hb2, hi2, hk2⟩
            have n2 : w2.cell? ⟨wr.heap.size, 2, none⟩ = some (.slice ak kn ck) := cell_at (hk2 _ _ HA.out) 2
            have HB2 := Lib.hid (HB1.out.trans hb2)
            have HC1 := Lib.hid (HC.out w2 (q ++ s) HB2.out hi2 hlen2)
            clear hb2 hi2 hk2 HW HC
            go_wp2_with fail
            refine HC1.out.mono ?_
            rintro e w3 ⟨rfl, hb3, hi3⟩
            have HB3 := Lib.hid hb3
            have HI3 := Lib.hid hi3
            clear hb3 hi3 HC1
            go_wp2_with fail
            go_roundw
            case rel => exact ⟨k + 1, (q ++ s) ++ y, by omega, by go_num, HB3, HI3, HQ2⟩
            case measure => simp [intOf] <;> omega
        · rw [if_neg hz] at hall
          have HQ2 : Hid (X = (q ++ y) ++ plAll (l.drop (k + 1))) := Lib.hid (by rw [HQ.out, if_neg hz]; simp)
          have e1 : (z == 1) = false := by rw [beq_eq_false_iff_ne]; omega
          have e2 : (z == 2) = false := by rw [beq_eq_false_iff_ne]; omega
          have HC1 := Lib.hid (HC.out _ q HB1.out HI1.out (by omega))
          clear HQ hall hxn hz HC
          go_upto_region 3 with fail
          generalize wr.alloc (.cells #[.int .i64 z, .string (S s), .slice ak kn ck] 81) = w1 at *
          have a0 : w1.cell? ⟨wr.heap.size, 0, none⟩ = some (.int .i64 z) := cell_at HA.out 0
          have a1 : w1.cell? ⟨wr.heap.size, 1, none⟩ = some (.string (S s)) := cell_at HA.out 1
          have a2 : w1.cell? ⟨wr.heap.size, 2, none⟩ = some (.slice ak kn ck) := cell_at HA.out 2
          go_wp2_with fail
          refine HC1.out.mono ?_
          rintro e w2 ⟨rfl, hb2, hi2⟩
          have HB2 := Lib.hid hb2
          have HI2 := Lib.hid hi2
          clear hb2 hi2 HC1
          go_wp2_with fail
          go_roundw
          case rel => exact ⟨k + 1, q ++ y, by omega, by go_num, HB2, HI2, HQ2⟩
          case measure => simp [intOf] <;> omega
      · obtain rfl : k = l.length := by omega
        have hnx := HN.out
        rw [List.drop_length] at hnx
        have HR : Hid (X = q) := Lib.hid (by rw [hnx]; unfold plAll; simp)
        clear hnx HN hlt
        go_wp2_with fail
        go_end0
        exact ⟨rfl, HB.out, by rw [HR.out]; exact HI.out⟩
end Go.Proofs.YtldllbmbcnipoabGreatDoor.Sp
