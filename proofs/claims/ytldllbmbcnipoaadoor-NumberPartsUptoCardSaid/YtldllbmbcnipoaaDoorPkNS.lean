/-
  Several texts in one:
  CONTRACTS of the program's Plain, Lines (span).
  CONTRACT of parts (number).
-/
import Derived.Test.YtldllbmbcnipoaaDoorPkNR
import Derived.Test.YtldllbmbcnipoaaDoorShelf
import Derived.Deep.RegionHeld3
import Derived.Test.YtldllbmbcnipoaaDoorPkNQ
import Derived.Test.YtldllbmbcnipoaaDoorPkNK
namespace Go.Proofs.YtldllbmbcnipoaaDoor.Sp
open Go.RowKit
open Go.Proofs.YtldllbmbcnipoaaDoor.Tk (S S_of S_list S_size S_toList S_app ret_int)
open Go.Proofs.YtldllbmbcnipoaaDoor.Cm (calls_at alloc_new alloc_at cell_at lt_of_at set_at)
set_option linter.unusedVariables false

theorem bc_app (p s : List UInt8) : Lib.byteCells p ++ Lib.strCells (S s) = Lib.byteCells (p ++ s) := by
  unfold Lib.byteCells Lib.strCells
  rw [S_list, List.map_append]
theorem bc_len (p : List UInt8) : (Lib.byteCells p).length = p.length := by unfold Lib.byteCells; simp
theorem builder_alloc {B b : Nat} {bs : List Value} {w : World} (o : Obj) (h : Lib.IsBuilder 48 5 B b bs w) : Lib.IsBuilder 48 5 B b bs (w.alloc o) := by
  rcases h with h | h
  · obtain ⟨hB, v, hb, hown, hne⟩ := h
    exact Or.inl ⟨hB, v, by rw [Lib.alloc_old w o b (lt_of_at hb)]; exact hb, hown.alloc _, hne⟩
  · obtain ⟨hB, v, hb, hown, hne⟩ := h
    exact Or.inr ⟨hB, v, by rw [Lib.alloc_old w o b (lt_of_at hb)]; exact hb, hown.alloc _, hne⟩
theorem builder_not_span {B b : Nat} {bs : List Value} {w : World} (h : Lib.IsBuilder 48 5 B b bs w) {k : Nat} {c : Array Value} (hk : w.heap[k]? = some (Obj.cells c 61 (0, 0))) : some k ≠ some b := by
  intro e
  simp only [Option.some.injEq] at e
  subst e
  rcases h with ⟨_, v, hb, _⟩ | ⟨_, v, hb, _⟩ <;> rw [hb] at hk <;> simp at hk

theorem plain1_any (B b : Nat) (p s : List UInt8) (w : World) (h : Lib.IsBuilder 48 5 B b (Lib.byteCells p) w) (hBw : B ≤ w.heap.size) (hlen : p.length + s.length ≤ 20000) :
    Calls Tryd.prog 49 #[.string (S s), .pointer (some ⟨b, 0, none⟩)] w fun e w' => e = .returned (.tuple #[]) ∧ Below B w w' ∧ Lib.IsBuilder 48 5 B b (Lib.byteCells (p ++ s)) w' ∧ ∀ (k : Nat) (c : Array Value), w.heap[k]? = some (Obj.cells c 61 (0, 0)) → w'.heap[k]? = some (Obj.cells c 61 (0, 0)) := by
  have HW := Lib.hid (writeS_any B b (Lib.byteCells p) (S s) w h (by rw [bc_len, S_size]; omega) hBw)
  have HN := Lib.hid (fun (k : Nat) (c : Array Value) (hk : w.heap[k]? = some (Obj.cells c 61 (0, 0))) => builder_not_span h hk)
  rw [bc_app] at HW
  clear h
  generalize S s = t at *
  generalize Lib.byteCells (p ++ s) = q at *
  go_enter Tryd.func49, Tryd.ntmps49
  go_wp2_with fail
  refine HW.out.mono ?_
  rintro e w2 ⟨rfl, h2, b2, k2⟩
  have H2 := Lib.hid h2
  have B2 := Lib.hid b2
  have K2 := Lib.hid k2
  clear h2 b2 k2 HW
  go_wp2_with fail
  go_end0
  refine ⟨rfl, B2.out, Or.inr H2.out, fun k c hk => K2.out k _ hk (HN.out k c hk) (fun c' fz e => ?_)⟩
  simp at e

theorem plainP_any (l : List Sp) (v : Value) (w : World) (ht : Tr w v l) (hn : totAll l ≤ 20000) :
    Calls Tryd.prog 34 #[v] w (StrAns w (plAll l)) := by
  have hK : Sink 49 (.pointer (some ⟨w.heap.size, 0, none⟩)) w.heap.size 20000 (fun p w' => Lib.IsBuilder 48 5 w.heap.size w.heap.size (Lib.byteCells p) w') :=
    ⟨enters_of Tryd.func49 (by kernel_rfl) rfl, fun p w' o h => builder_alloc o h, fun p s w' h hB hl => plain1_any _ _ p s w' h hB hl⟩
  have hp := plAll_len l
  have hb1 : Below w.heap.size w (w.alloc (.cells #[.pointer none, .slice none 0 0] 48)) := (Below.refl _ _).alloc (Nat.le_refl _) _
  have hf := Lib.fresh_isBuilder 48 5 w
  have HR := Lib.hid (read_any _ _ 20000 _ w hK (totAll l) l v (w.alloc (.cells #[.pointer none, .slice none 0 0] 48)) [] (Nat.le_refl _) ht hb1 hf (by simp; omega))
  obtain ⟨ao, ca, rfl⟩ := ht.len
  rw [List.nil_append] at HR
  clear hK hp hb1 hf ht hn
  generalize plAll l = p at *
  go_enter Tryd.func34, Tryd.ntmps34
  go_wp2_with fail
  refine HR.out.mono ?_
  rintro e w2 ⟨rfl, hb2, hi2⟩
  have HB2 := Lib.hid hb2
  have HS := Lib.hid (Tryd.Builder_String_any w.heap.size w.heap.size p w2 hi2 hb2.size)
  clear hb2 hi2 HR
  go_wp2_with fail
  refine HS.out.mono ?_
  rintro e w3 ⟨rfl, hb3⟩
  have HB3 := Lib.hid (HB2.out.trans hb3)
  clear hb3 HS
  go_wp2_with fail
  go_ret
  exact ⟨rfl, HB3.out⟩

end Go.Proofs.YtldllbmbcnipoaaDoor.Sp

namespace Go.Proofs.YtldllbmbcnipoaaDoor.Nm
open Go.RowKit
open Go.Proofs.YtldllbmbcnipoaaDoor.Tk (S S_of S_list S_size S_toList S_app Rd RdL)
open Go.Proofs.YtldllbmbcnipoaaDoor.Cm (cell_at alloc_new Keep Keep.of_below)
open Go.Proofs.YtldllbmbcnipoaaDoor.Sp (Sp Tr totAll plAll)
open Go.Proofs.YtldllbmbcnipoaaDoor.Bt (TrB ttAll ttOne lnTot szAll szOne ttAll_mem)
open Go.Proofs.YtldllbmbcnipoaaDoor.Bk (Bk Tx)
open Go.Proofs.YtldllbmbcnipoaaDoor.Pa (OutS OutG)
set_option linter.unusedVariables false

theorem rdl_two {w : World} {a b : Value} {x y : List Tx} (ha : Rd w a x) (hb : Rd w b y) (t : TypeId) : RdL (w.alloc (.cells #[a, b] t)) (.slice (some ⟨w.heap.size, 0, none⟩) 2 2) [x, y] := by
  have bl : Below w.heap.size w (w.alloc (.cells #[a, b] t)) := (Below.refl _ _).alloc (Nat.le_refl _) _
  refine ⟨_, 2, rfl, Or.inr ⟨w.heap.size, 0, rfl, by simp, fun j z hj => ?_⟩⟩
  match j, hj with
  | 0, hj => simp at hj; subst hj; exact ⟨a, by rw [Nat.zero_add, World.cell?_alloc_new]; rfl, ha.below bl⟩
  | 1, hj => simp at hj; subst hj; exact ⟨b, by rw [Nat.zero_add, World.cell?_alloc_new]; rfl, hb.below bl⟩
theorem one_rd {w : World} (x : Tx) (t : TypeId) : Rd (w.alloc (.cells #[.string (S x)] t)) (.slice (some ⟨w.heap.size, 0, none⟩) 1 1) [x] := by
  refine ⟨_, 1, rfl, Nat.le_refl _, Or.inr ⟨w.heap.size, 0, rfl, by simp, fun j z hj => ?_⟩⟩
  match j, hj with
  | 0, hj => simp at hj; subst hj; rw [Nat.zero_add, World.cell?_alloc_new]; rfl
set_option maxHeartbeats 3200000 in
theorem partsP_any (x : Bk) (v : Value) (w : World) (hx : BkV w x v) (hT : Tab w) (htt : ttOne x ≤ 2000) (hf : Bt.fitOne 140737488355328 x) :
    Calls Tryd.prog 22 #[v] w (RdA w (pt x)) := by
  obtain ⟨al, as', ak, cl, cs, ck, rfl, hrd, hln, hsp, htr⟩ := hx
  obtain ⟨q, lv, i, lns, ss, l⟩ := x
  have ept : pt (.mk q lv i lns ss l) = (if q = 1 ∨ q = 2 then Tk.toks (plAll ss) else if q = 4 then lns else if q = 5 ∨ q = 6 ∨ q = 7 then keys l else if q = 8 then i :: lns else []) := rfl
  rw [ept]
  simp only [Bk.kind, Bk.level, Bk.info, Bk.lines, Bk.spans, Bk.kids] at hrd hsp htr ⊢
  rw [ttOne] at htt
  rw [Bt.fitOne] at hf
  have HB1 := Lib.hid ((Below.refl w.heap.size w).alloc (Nat.le_refl _) (.cells #[.int .i64 q, .int .i64 lv, .string (S i), .slice al lns.length cl, .slice as' ss.length cs, .slice ak l.length ck] 33))
  have HC1 := Lib.hid (alloc_new w (.cells #[.int .i64 q, .int .i64 lv, .string (S i), .slice al lns.length cl, .slice as' ss.length cs, .slice ak l.length ck] 33))
  have HRd := Lib.hid (fun w' (h : Below w.heap.size w w') => hrd.below h)
  have HP := Lib.hid (fun w' (h : Below w.heap.size w w') => Sp.plainP_any ss _ w' (hsp.below h) (by omega))
  have hpl := plAll_tot ss
  have HCu := Lib.hid (fun w' => Tk.cut_any (S (plAll ss)) (by rw [S_size]; omega) w')
  have HKs := Lib.hid (fun w' (h : Below w.heap.size w w') => keysP_any l _ w' (hT.below h) (by omega) hf.2.2.2.2.2 (htr.below h))
  have lln := ln_len lns
  have la : lns.length ≤ 100000 := by omega
  simp only [S_list] at HCu
  unfold RdGA at HKs
  unfold RdA
  clear hrd hsp htr hf htt hpl lln hT hln
  by_cases h12 : q = 1 ∨ q = 2
  · rw [if_pos h12]
    clear HKs HRd
    rcases h12 with h | h
    all_goals (
      subst h
      go_enter Tryd.func22, Tryd.ntmps22
      go_upto_region 1 with fail
      have k0 := cell_at HC1.out 0
      have k4 := cell_at HC1.out 4
      go_wp2_with fail
      refine (HP.out _ HB1.out).mono ?_
      rintro e w2 ⟨rfl, b2⟩
      have HB2 := Lib.hid (HB1.out.trans (b2.mono HB1.out.size))
      go_wp2_with fail
      refine (HCu.out _).mono ?_
      rintro e w3 ⟨v, rfl, hown, b3⟩
      have HR := Lib.hid (Rd.of_own hown)
      have HB3 := Lib.hid (HB2.out.trans (b3.mono HB2.out.size))
      clear hown b3
      go_wp2_with fail
      go_ret
      exact ⟨_, rfl, HR.out, HB3.out⟩)
  rw [if_neg h12]
  have e1 : (q == 1) = false := by rw [beq_eq_false_iff_ne]; omega
  have e2 : (q == 2) = false := by rw [beq_eq_false_iff_ne]; omega
  by_cases h4 : q = 4
  · rw [if_pos h4]
    subst h4
    have HR := Lib.hid (HRd.out _ HB1.out)
    clear HP HCu HKs HRd e1 e2 h12
    go_enter Tryd.func22, Tryd.ntmps22
    go_upto_region 1 with fail
    have k0 := cell_at HC1.out 0
    have k3 := cell_at HC1.out 3
    go_wp2_with fail
    go_ret
    exact ⟨_, rfl, HR.out, HB1.out⟩
  rw [if_neg h4]
  have e4 : (q == 4) = false := by rw [beq_eq_false_iff_ne]; exact h4
  by_cases h5 : q = 5 ∨ q = 6 ∨ q = 7
  · rw [if_pos h5]
    have HKw := Lib.hid (HKs.out _ HB1.out)
    clear HP HCu HRd HKs e1 e2 e4 h12 h4
    rcases h5 with h | h | h
    all_goals (
      subst h
      go_enter Tryd.func22, Tryd.ntmps22
      go_upto_region 1 with fail
      have k0 := cell_at HC1.out 0
      have k5 := cell_at HC1.out 5
      go_wp2_with fail
      refine HKw.out.mono ?_
      rintro e w3 ⟨v, rfl, ho, b3⟩
      have HR := Lib.hid (RdG.rd ho)
      have HB3 := Lib.hid (HB1.out.trans (b3.mono HB1.out.size))
      clear ho b3
      go_wp2_with fail
      go_ret
      exact ⟨_, rfl, HR.out, HB3.out⟩)
  rw [if_neg h5]
  have e5 : (q == 5) = false := by rw [beq_eq_false_iff_ne]; omega
  have e6 : (q == 6) = false := by rw [beq_eq_false_iff_ne]; omega
  have e7 : (q == 7) = false := by rw [beq_eq_false_iff_ne]; omega
  by_cases h8 : q = 8
  · rw [if_pos h8]
    subst h8
    clear HP HCu HKs e1 e2 e4 e5 e6 e7 h12 h4 h5
    go_enter Tryd.func22, Tryd.ntmps22
    go_upto_region 1 with fail
    generalize w.alloc (.cells #[.int .i64 8, .int .i64 lv, .string (S i), .slice al lns.length cl, .slice as' ss.length cs, .slice ak l.length ck] 33) = w1 at *
    have hB2 := HB1.out.alloc HB1.out.size (.cells #[.string (S i)] 9)
    have hC2 := Cm.alloc_at HC1.out (.cells #[.string (S i)] 9)
    have hR1 := one_rd (w := w1) i 9
    have hR2 := HRd.out _ hB2
    have hRL := rdl_two hR1 hR2 30
    have hBL := hB2.alloc hB2.size (.cells #[.slice (some ⟨w1.heap.size, 0, none⟩) 1 1, .slice al lns.length cl] 30)
    have HCc := Lib.hid (Tk.concat_any _ _ _ hRL (by simp) (by simp; omega))
    have efl : ([[i], lns] : List (List Tx)).flatten = i :: lns := by simp
    rw [efl] at HCc
    have HBL := Lib.hid hBL
    have k0 : w1.cell? ⟨w.heap.size, 0, none⟩ = some (.int .i64 8) := cell_at HC1.out 0
    have k2 : w1.cell? ⟨w.heap.size, 2, none⟩ = some (.string (S i)) := cell_at HC1.out 2
    have j3 : (w1.alloc (.cells #[.string (S i)] 9)).cell? ⟨w.heap.size, 3, none⟩ = some (.slice al lns.length cl) := cell_at hC2 3
    have k3 : w1.cell? ⟨w.heap.size, 3, none⟩ = some (.slice al lns.length cl) := cell_at HC1.out 3
    have es : (w1.alloc (.cells #[.string (S i)] 9)).heap.size = w1.heap.size + 1 := by simp
    rw [es] at HCc
    clear hC2 hR1 hR2 hRL hBL hB2 HRd HC1 HB1 efl es
    go_wp2_with fail
    refine HCc.out.mono ?_
    rintro e w3 ⟨v, rfl, hown, b3⟩
    have HR := Lib.hid (Rd.of_own hown)
    have HB3 := Lib.hid (HBL.out.trans (b3.mono HBL.out.size))
    clear hown b3 HCc
    go_wp2_with fail
    go_ret
    exact ⟨_, rfl, HR.out, HB3.out⟩
  · rw [if_neg h8]
    have e8 : (q == 8) = false := by rw [beq_eq_false_iff_ne]; exact h8
    clear HP HCu HRd HKs h12 h4 h5 h8
    go_enter Tryd.func22, Tryd.ntmps22
    go_upto_region 1 with fail
    have k0 := cell_at HC1.out 0
    go_wp2_with fail
    go_ret
    exact ⟨_, rfl, ⟨none, 0, rfl, Nat.le_refl _, Or.inl rfl⟩, HB1.out⟩
end Go.Proofs.YtldllbmbcnipoaaDoor.Nm
