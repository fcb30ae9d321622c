/-
  Several texts in one:
  CONTRACT of keys (number).
  CONTRACT of the program's read (span): what is handed on to a function value, whatever that keeps in memory.
-/
import Derived.Test.YtldllbmbcnipoaaGreatDoorNmWrB
import Derived.Test.YtldllbmbcnipoaaGreatDoorPkTN
import Derived.Test.YtldllbmbcnipoaaGreatDoorPkTL
import Derived.Test.YtldllbmbcnipoaaGreatDoorPkTI
namespace Go.Proofs.YtldllbmbcnipoaaGreatDoor.Nm
open Go.RowKit
open Go.Proofs.YtldllbmbcnipoaaGreatDoor.Tk (S S_of S_list S_size S_toList S_app Rd Fill infoS)
open Go.Proofs.YtldllbmbcnipoaaGreatDoor.Cm (cell_at alloc_new)
open Go.Proofs.YtldllbmbcnipoaaGreatDoor.Sp (Sp Tr totAll)
open Go.Proofs.YtldllbmbcnipoaaGreatDoor.Bt (TrB ttAll ttOne lnTot szAll szOne ttAll_mem)
open Go.Proofs.YtldllbmbcnipoaaGreatDoor.Bk (Bk Tx)
set_option linter.unusedVariables false

/-- A slice that reads as these texts, in a block from lo on. -/
def RdG (lo : Nat) (w : World) (v : Value) (xs : List Tx) : Prop :=
  ∃ ao cap, v = .slice ao xs.length cap ∧ xs.length ≤ cap ∧ (xs = [] ∨ ∃ b o, ao = some ⟨b, o, none⟩ ∧ lo ≤ b ∧ b < w.heap.size ∧ ∀ j x, xs[j]? = some x → w.cell? ⟨b, o + j, none⟩ = some (.string (S x)))
theorem RdG.rd {lo : Nat} {w : World} {v : Value} {xs : List Tx} (h : RdG lo w v xs) : Rd w v xs := by
  obtain ⟨ao, cap, hv, hc, hx⟩ := h
  refine ⟨ao, cap, hv, hc, ?_⟩
  rcases hx with hx | ⟨b, o, hao, _, hlt, hcell⟩
  · exact Or.inl hx
  · exact Or.inr ⟨b, o, hao, hlt, hcell⟩
theorem RdG.mono {lo lo' : Nat} {w : World} {v : Value} {xs : List Tx} (h : RdG lo w v xs) (hl : lo' ≤ lo) : RdG lo' w v xs := by
  obtain ⟨ao, cap, hv, hc, hx⟩ := h
  refine ⟨ao, cap, hv, hc, ?_⟩
  rcases hx with hx | ⟨b, o, hao, hlo, hlt, hcell⟩
  · exact Or.inl hx
  · exact Or.inr ⟨b, o, hao, Nat.le_trans hl hlo, hlt, hcell⟩
theorem RdG.len {lo : Nat} {w : World} {v : Value} {xs : List Tx} (h : RdG lo w v xs) : ∃ ao cap, v = .slice ao xs.length cap := by
  obtain ⟨ao, cap, hv, _⟩ := h; exact ⟨ao, cap, hv⟩
theorem RdG.below {lo : Nat} {w w' : World} {v : Value} {xs : List Tx} (h : RdG lo w v xs) (hb : Below w.heap.size w w') : RdG lo w' v xs := by
  obtain ⟨ao, cap, hv, hc, hx⟩ := h
  refine ⟨ao, cap, hv, hc, ?_⟩
  rcases hx with hx | ⟨b, o, hao, hlo, hlt, hcell⟩
  · exact Or.inl hx
  · exact Or.inr ⟨b, o, hao, hlo, Nat.lt_of_lt_of_le hlt hb.size, fun j x hj => (hb.cell (by exact hlt)).trans (hcell j x hj)⟩
theorem RdG.set {lo B k : Nat} {w : World} {v u : Value} {xs : List Tx} (h : RdG lo w v xs) (hB : B < lo) : RdG lo (w.setCell ⟨B, k, none⟩ u) v xs := by
  obtain ⟨ao, cap, hv, hc, hx⟩ := h
  refine ⟨ao, cap, hv, hc, ?_⟩
  rcases hx with hx | ⟨b, o, hao, hlo, hlt, hcell⟩
  · exact Or.inl hx
  · refine Or.inr ⟨b, o, hao, hlo, by simpa using hlt, fun j x hj => ?_⟩
    rw [← hcell j x hj]
    apply World.cell?_setCell_other
    intro e
    have : B = b := congrArg Addr.block e
    omega
def RdGA (w : World) (l : List Tx) (e : Ending) (w' : World) : Prop := ∃ v, e = .returned v ∧ RdG w.heap.size w' v l ∧ Below w.heap.size w w'
theorem fill_rd {w0 wr : World} {B : Nat} {xs : List Tx} (h : Fill w0 B xs.length 9 (fun j => .string (S (xs.getD j []))) xs.length wr) : RdG B wr (.slice (some ⟨B, 0, none⟩) xs.length xs.length) xs := by
  refine ⟨_, _, rfl, Nat.le_refl _, Or.inr ⟨B, 0, rfl, Nat.le_refl _, h.lt, fun j x hj => ?_⟩⟩
  have hjl := (List.getElem?_eq_some_iff.1 hj).1
  rw [Nat.zero_add, h.at (Nat.le_refl _) hjl, List.getD_eq_getElem?_getD, hj]
  rfl
set_option maxHeartbeats 3200000 in
set_option maxRecDepth 100000 in
theorem keysP_any (l : List Bk) (v : Value) (w : World) (hT : Tab w) (htt : ttAll l ≤ 2000) (hf : Bt.fitAll 140737488355328 l) (ht : TrB w v l) :
    Calls Tryz.prog 14 #[v] w (RdGA w (keys l)) := by
  obtain ⟨i0, hi, hz0, hz1, hz2⟩ := info_parts infoS
  obtain ⟨ao, ca, rfl⟩ := ht.len
  have HT := Lib.hid (fun w' (h : Below w.heap.size w w') => ht.below h)
  have hll := tt_len l
  have la : l.length ≤ 2000 := by omega
  have hm : l.length ≤ maxLen := by unfold maxLen; omega
  have HK := Lib.hid (fun k (hk : k < l.length) (v : Value) (w' : World) (hb : Below w.heap.size w w') (hv : BkV w' l[k] v) => keyP_any l[k] v w' (hT.below hb) hv (by have := ttAll_mem (List.getElem_mem hk); omega) (Bt.fitAll_at hf _ (List.getElem_mem hk)))
  have HG := Lib.hid (fun k (hk : k < l.length) => show (keys l).getD k [] = bk1 l[k] by unfold keys; simp [List.getD, hk])
  have hkl : (keys l).length = l.length := List.length_map ..
  unfold StrA at HK
  unfold RdGA
  clear ht hf htt hT hll
  go_enter Tryz.func14, Tryz.ntmps14
  go_wp2_with (at_make; refine wpList_make_full _ rfl _ _ 27 rfl w.heap.size 9 i0 (.string ⟨#[]⟩) 1 Tryz.underlying27 hi hz0 hz1 _ _ _ _ l.length rfl rfl rfl rfl (by rw [hz2]; omega) hm (Nat.le_refl _) ?_)
  intro W4 hown hgrow
  have HF : Hid (Fill w w.heap.size l.length 9 (fun j => .string (S ((keys l).getD j []))) 0 W4) := Lib.hid (Fill.start hown hgrow)
  clear hown hgrow hi hz0 hz1 hz2
  go_wp2_with fail
  go_loopw [11] (fun i wr => ∃ k : Nat, k ≤ l.length ∧ i = .int .i64 k ∧ Hid (Fill w w.heap.size l.length 9 (fun j => .string (S ((keys l).getD j []))) k wr)) (fun i _ => l.length - (intOf i).toNat)
  case atStart => exact ⟨0, Nat.zero_le _, rfl, HF⟩
  case round =>
    clear HF
    obtain ⟨k, hk, rfl, HF⟩ := hrel
    have HB : Hid (Below w.heap.size w wr) := Lib.hid (by obtain ⟨_, _, _, h⟩ := HF.out; exact h)
    by_cases hlt : k < l.length
    · have hi1 : (k : Int) < (l.length : Int) := by omega
      obtain ⟨b, o, vl, vs, ak, ck, rfl, hb, hC⟩ := (HT.out _ HB.out).at k hlt
      obtain ⟨al, cl, rfl⟩ := hC.rd.len
      obtain ⟨as', cs, rfl⟩ := hC.sp.len
      have VA := Lib.hid (bkv_of hC)
      have c0 := hC.kind
      have c1 := hC.level
      have c2 := hC.info
      have c3 := hC.lines
      have c4 := hC.spans
      have c5 := hC.kids
      have HKw := Lib.hid (fun (w' : World) (h : Below wr.heap.size wr w') => HK.out k hlt _ w' (HB.out.trans (h.mono HB.out.size)) (VA.out.below h))
      have HFs := Lib.hid (fun (w' : World) (h : Below wr.heap.size wr w') => (HF.out.below h).step hlt)
      have HFc := Lib.hid (fun (w' : World) (h : Below wr.heap.size wr w') => (HF.out.below h).cell hlt)
      rw [HG.out k hlt] at HFs
      clear hC HT HK VA HG HF
      generalize bk1 l[k] = y at *
      generalize l[k].kids.length = kn at *
      generalize l[k].spans.length = sn at *
      generalize l[k].lines.length = ln at *
      generalize S l[k].info = si at *
      generalize l[k].level = lv at *
      generalize l[k].kind = z at *
      go_upto_region 5 with fail
      have hA1 := alloc_new wr (.cells #[.int .i64 z, .int .i64 lv, .string si, .slice al ln cl, .slice as' sn cs, .slice ak kn ck] 35)
      have hb1 : Below wr.heap.size wr (wr.alloc (.cells #[.int .i64 z, .int .i64 lv, .string si, .slice al ln cl, .slice as' sn cs, .slice ak kn ck] 35)) := (Below.refl wr.heap.size wr).alloc (Nat.le_refl _) _
      have HB1 := Lib.hid hb1
      clear c0 c1 c2 c3 c4 c5 hb1
      generalize wr.alloc (.cells #[.int .i64 z, .int .i64 lv, .string si, .slice al ln cl, .slice as' sn cs, .slice ak kn ck] 35) = w1 at *
      have k0 : w1.cell? ⟨wr.heap.size, 0, none⟩ = some (.int .i64 z) := cell_at hA1 0
      have k1 : w1.cell? ⟨wr.heap.size, 1, none⟩ = some (.int .i64 lv) := cell_at hA1 1
      have k2 : w1.cell? ⟨wr.heap.size, 2, none⟩ = some (.string si) := cell_at hA1 2
      have k3 : w1.cell? ⟨wr.heap.size, 3, none⟩ = some (.slice al ln cl) := cell_at hA1 3
      have k4 : w1.cell? ⟨wr.heap.size, 4, none⟩ = some (.slice as' sn cs) := cell_at hA1 4
      have k5 : w1.cell? ⟨wr.heap.size, 5, none⟩ = some (.slice ak kn ck) := cell_at hA1 5
      have HKw1 := Lib.hid (HKw.out w1 HB1.out)
      clear hA1 HKw
      go_wp2_with fail
      refine HKw1.out.mono ?_
      rintro e w5 ⟨rfl, b5⟩
      have hb5 := HB1.out.trans (b5.mono HB1.out.size)
      have HR := Lib.hid (HFs.out w5 hb5)
      obtain ⟨⟨c5, hc5⟩, hf5⟩ := HFc.out w5 hb5
      clear b5 hb5 HKw1 HFs HFc HB1 k0 k1 k2 k3 k4 k5
      generalize S y = sy at *
      go_wp2_with fail
      go_roundw
      case rel => exact ⟨k + 1, by omega, by go_num, HR⟩
      case measure => simp [intOf] <;> omega
    · obtain rfl : k = l.length := by omega
      have hi1 : ¬ (l.length : Int) < (l.length : Int) := by omega
      have HR : Hid (RdG w.heap.size wr (.slice (some ⟨w.heap.size, 0, none⟩) l.length l.length) (keys l)) := Lib.hid (by
        have h := HF.out
        rw [← hkl] at h ⊢
        exact fill_rd h)
      clear HF HT HK HG hlt
      go_wp2_with fail
      go_ret
      exact ⟨_, rfl, HR.out, HB.out⟩
end Go.Proofs.YtldllbmbcnipoaaGreatDoor.Nm

namespace Go.Proofs.YtldllbmbcnipoaaGreatDoor.Sp
open Go.RowKit
open Go.Proofs.YtldllbmbcnipoaaGreatDoor.Tk (S S_of S_list S_size S_toList S_app ret_int)
open Go.Proofs.YtldllbmbcnipoaaGreatDoor.Cm (calls_at alloc_new alloc_at cell_at lt_of_at)
set_option linter.unusedVariables false

/-- A function value (number kf, one captured pointer) that gathers texts, at most N bytes in all: what it has gathered stands by I; it writes from block B on alone. -/
structure Sink (kf : Nat) (pv : Value) (B N : Nat) (I : List UInt8 → World → Prop) : Prop where
  enters : ∀ args w, (callFunc kf args).run Tryz.prog w = .ok (.enter kf args) w
  alloc : ∀ p w o, I p w → I p (w.alloc o)
  call : ∀ p s w, I p w → B ≤ w.heap.size → p.length + s.length ≤ N → Calls Tryz.prog kf #[.string (S s), pv] w fun e w' => e = .returned (.tuple #[]) ∧ Below B w w' ∧ I (p ++ s) w' ∧ ∀ (k : Nat) (c : Array Value), w.heap[k]? = some (Obj.cells c 78 (0, 0)) → w'.heap[k]? = some (Obj.cells c 78 (0, 0))

def ReadAns (w0 : World) (I : List UInt8 → World → Prop) (p : List UInt8) (e : Ending) (w' : World) : Prop := e = .returned (.tuple #[]) ∧ Below w0.heap.size w0 w' ∧ I p w'

set_option maxHeartbeats 6400000 in
set_option maxRecDepth 100000 in
theorem read_any (kf : Nat) (pv : Value) (N : Nat) (I : List UInt8 → World → Prop) (w0 : World) (K : Sink kf pv w0.heap.size N I) (m : Nat) : ∀ (l : List Sp) (v : Value) (w : World) (p : List UInt8), totAll l ≤ m → Tr w0 v l → Below w0.heap.size w0 w → I p w → p.length + (plAll l).length ≤ N →
    Calls Tryz.prog 59 #[v, .func (.func kf) #[] #[pv]] w (ReadAns w0 I (p ++ plAll l)) := by
  induction m using Nat.strongRecOn with
  | ind m ih =>
    intro l v w p hm ht hbw hi hN
    have T := Lib.hid ht
    obtain ⟨ao, ca, rfl⟩ := ht.len
    have hlen := ht.short
    have e1f := K.enters
    have HK := Lib.hid K
    have HIH : Hid (∀ k (hk : k < l.length) (v' : Value) (w' : World) (q : List UInt8), Tr w0 v' l[k].kids → Below w0.heap.size w0 w' → I q w' → q.length + (plAll l[k].kids).length ≤ N → Calls Tryz.prog 59 #[v', .func (.func kf) #[] #[pv]] w' (ReadAns w0 I (q ++ plAll l[k].kids))) := Lib.hid (fun k hk v' w' q t b i n =>
      ih (totAll l[k].kids) (Nat.lt_of_lt_of_le (totAll_kids (List.getElem_mem hk)) hm) l[k].kids v' w' q (Nat.le_refl _) t b i n)
    have H0 : Hid (p ++ plAll l = p ++ plAll (l.drop 0)) := Lib.hid (by rw [List.drop_zero])
    have HN0 : Hid ((p ++ plAll l).length ≤ N) := Lib.hid (by rw [List.length_append]; exact hN)
    obtain ⟨X, hX⟩ : ∃ X, p ++ plAll l = X := ⟨_, rfl⟩
    rw [hX] at H0 HN0
    rw [hX]
    have HB0 := Lib.hid hbw
    have HI0 := Lib.hid hi
    clear ih ht hm hX hbw hi hN K
    go_enter Tryz.func59, Tryz.ntmps59
    go_wp2_with fail
    go_loopw [8] (fun i wr => ∃ (k : Nat) (q : List UInt8), k ≤ l.length ∧ i = .int .i64 k ∧ Hid (Below w0.heap.size w0 wr) ∧ Hid (I q wr) ∧ Hid (X = q ++ plAll (l.drop k))) (fun i _ => l.length - (intOf i).toNat)
    case atStart => exact ⟨0, p, Nat.zero_le _, rfl, HB0, HI0, H0⟩
    case round =>
      clear H0 HB0 HI0
      obtain ⟨k, q, hk, rfl, HB, HI, HN⟩ := hrel
      by_cases hlt : k < l.length
      · have hnx := HN.out
        rw [drop_cons l k hlt, plAll_cons, plOne_eq] at hnx
        have hi1 : (k : Int) < (l.length : Int) := by omega
        obtain ⟨b, o, ak, ck, rfl, hb, hC⟩ := T.out.at k hlt
        have c0 := (HB.out.cell (p := ⟨b, o + k * 3, none⟩) hb).trans hC.kind
        have c1 := (HB.out.cell (p := ⟨b, o + k * 3 + 1, none⟩) hb).trans hC.s
        have c2 := (HB.out.cell (p := ⟨b, o + k * 3 + 2, none⟩) hb).trans hC.kids
        have HC := Lib.hid (fun w' q' => HIH.out k hlt _ w' q' hC.tr)
        have HQ := Lib.hid hnx
        have hall := congrArg List.length hnx
        have hxn := HN0.out
        simp only [List.length_append] at hall
        clear hnx HN hC
        generalize l[k].kids.length = kn at *
        generalize plAll l[k].kids = y at *
        generalize l[k].kind = z at *
        generalize l[k].s = s at *
        have B1 : Below w0.heap.size w0 (wr.alloc (.cells #[.int .i64 z, .string (S s), .slice ak kn ck] 78)) := HB.out.alloc HB.out.size _
        have HB1 := Lib.hid B1
        have HI1 := Lib.hid (HK.out.alloc q wr (.cells #[.int .i64 z, .string (S s), .slice ak kn ck] 78) HI.out)
        have HA := Lib.hid (alloc_new wr (.cells #[.int .i64 z, .string (S s), .slice ak kn ck] 78))
        clear B1 HB HI
        by_cases hz : z = 1 ∨ z = 2
        · rw [if_pos hz] at hall
          have HQ2 : Hid (X = ((q ++ s) ++ y) ++ plAll (l.drop (k + 1))) := Lib.hid (by rw [HQ.out, if_pos hz]; simp)
          have HW := Lib.hid (HK.out.call q s _ HI1.out HB1.out.size (by omega))
          have hlen2 : (q ++ s).length + y.length ≤ N := by rw [List.length_append]; omega
          clear HQ hall hxn
          go_upto_region 3 with fail
          generalize wr.alloc (.cells #[.int .i64 z, .string (S s), .slice ak kn ck] 78) = w1 at *
          have a0 : w1.cell? ⟨wr.heap.size, 0, none⟩ = some (.int .i64 z) := cell_at HA.out 0
          have a1 : w1.cell? ⟨wr.heap.size, 1, none⟩ = some (.string (S s)) := cell_at HA.out 1
          have a2 : w1.cell? ⟨wr.heap.size, 2, none⟩ = some (.slice ak kn ck) := cell_at HA.out 2
          rcases hz with hz | hz
          · have e1 : (z == 1) = true := by rw [hz]; rfl
            clear hz
            go_wp2_with fail
            refine HW.out.mono ?_
            rintro e w2 ⟨rfl, hb2, hi2, hk2⟩
            have n2 : w2.cell? ⟨wr.heap.size, 2, none⟩ = some (.slice ak kn ck) := cell_at (hk2 _ _ HA.out) 2
            have HB2 := Lib.hid (HB1.out.trans hb2)
            have HC1 := Lib.hid (HC.out w2 (q ++ s) HB2.out hi2 hlen2)
            clear hb2 hi2 hk2 HW HC
            go_wp2_with fail
            refine HC1.out.mono ?_
            rintro e w3 ⟨rfl, hb3, hi3⟩
            have HB3 := Lib.hid hb3
            have HI3 := Lib.hid hi3
            clear hb3 hi3 HC1
            go_wp2_with fail
            go_roundw
            case rel => exact ⟨k + 1, (q ++ s) ++ y, by omega, by go_num, HB3, HI3, HQ2⟩
            case measure => simp [intOf] <;> omega
          · have e1 : (z == 1) = false := by rw [hz]; rfl
            have e2 : (z == 2) = true := by rw [hz]; rfl
            clear hz
            go_wp2_with fail
            refine HW.out.mono ?_
            rintro e w2 ⟨rfl, hb2, hi2, hk2⟩
            have n2 : w2.cell? ⟨wr.heap.size, 2, none⟩ = some (.slice ak kn ck) := cell_at (hk2 _ _ HA.out) 2
            have HB2 := Lib.hid (HB1.out.trans hb2)
            have HC1 := Lib.hid (HC.out w2 (q ++ s) HB2.out hi2 hlen2)
            clear hb2 hi2 hk2 HW HC
            go_wp2_with fail
            refine HC1.out.mono ?_
            rintro e w3 ⟨rfl, hb3, hi3⟩
            have HB3 := Lib.hid hb3
            have HI3 := Lib.hid hi3
            clear hb3 hi3 HC1
            go_wp2_with fail
            go_roundw
            case rel => exact ⟨k + 1, (q ++ s) ++ y, by omega, by go_num, HB3, HI3, HQ2⟩
            case measure => simp [intOf] <;> omega
        · rw [if_neg hz] at hall
          have HQ2 : Hid (X = (q ++ y) ++ plAll (l.drop (k + 1))) := Lib.hid (by rw [HQ.out, if_neg hz]; simp)
          have e1 : (z == 1) = false := by rw [beq_eq_false_iff_ne]; omega
          have e2 : (z == 2) = false := by rw [beq_eq_false_iff_ne]; omega
          have HC1 := Lib.hid (HC.out _ q HB1.out HI1.out (by omega))
          clear HQ hall hxn hz HC
          go_upto_region 3 with fail
          generalize wr.alloc (.cells #[.int .i64 z, .string (S s), .slice ak kn ck] 78) = w1 at *
          have a0 : w1.cell? ⟨wr.heap.size, 0, none⟩ = some (.int .i64 z) := cell_at HA.out 0
          have a1 : w1.cell? ⟨wr.heap.size, 1, none⟩ = some (.string (S s)) := cell_at HA.out 1
          have a2 : w1.cell? ⟨wr.heap.size, 2, none⟩ = some (.slice ak kn ck) := cell_at HA.out 2
          go_wp2_with fail
          refine HC1.out.mono ?_
          rintro e w2 ⟨rfl, hb2, hi2⟩
          have HB2 := Lib.hid hb2
          have HI2 := Lib.hid hi2
          clear hb2 hi2 HC1
          go_wp2_with fail
          go_roundw
          case rel => exact ⟨k + 1, q ++ y, by omega, by go_num, HB2, HI2, HQ2⟩
          case measure => simp [intOf] <;> omega
      · obtain rfl : k = l.length := by omega
        have hnx := HN.out
        rw [List.drop_length] at hnx
        have HR : Hid (X = q) := Lib.hid (by rw [hnx]; unfold plAll; simp)
        clear hnx HN hlt
        go_wp2_with fail
        go_end0
        exact ⟨rfl, HB.out, by rw [HR.out]; exact HI.out⟩

end Go.Proofs.YtldllbmbcnipoaaGreatDoor.Sp
