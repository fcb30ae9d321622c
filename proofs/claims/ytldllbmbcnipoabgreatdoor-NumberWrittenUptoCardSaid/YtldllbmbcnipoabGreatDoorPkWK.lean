/-
  Several texts in one:
  
  
  
  
-/
import Derived.Test.YtldllbmbcnipoabGreatDoorPkWA
import Derived.Deep.RegionLaw
import Derived.Test.YtldllbmbcnipoabGreatDoorPkWG
import Derived.Test.YtldllbmbcnipoabGreatDoorPkWB
import Derived.Test.YtldllbmbcnipoabGreatDoorPkWD
import Derived.Test.YtldllbmbcnipoabGreatDoorPkWH
import Derived.Test.YtldllbmbcnipoabGreatDoorPkWJ
namespace Go.Proofs.YtldllbmbcnipoabGreatDoor.Cm
open Go.RowKit
set_option linter.unusedVariables false
theorem slice_run {w0 : World} {ao : Option Addr} {c : Nat} {l : List Int} (h : Rz w0 (.slice ao l.length c) l) (lo hi : Nat) (h1 : lo ≤ hi) (h2 : hi ≤ l.length) (hl : l.length ≤ 1000000) :
    ∃ v, (∀ w, (Instr.slice 51 (.slice ao l.length c) (some (.int .i64 (lo : Int))) (some (.int .i64 (hi : Int))) none).run Tryz.prog w = .ok v w) ∧ ∀ w', Below w0.heap.size w0 w' → Rz w' v ((l.drop lo).take (hi - lo)) := by
  have u := Tryz.underlying51
  have hz : Tryz.prog.cellsOf 3 = 1 := by kernel_rfl
  obtain ⟨ao', c', hv, hc, hx⟩ := h
  simp only [Value.slice.injEq, true_and] at hv
  obtain ⟨rfl, rfl⟩ := hv
  have hpl : ((l.drop lo).take (hi - lo)).length = hi - lo := by rw [List.length_take, List.length_drop]; omega
  by_cases h0 : l = []
  · have hz : l.length = 0 := by rw [h0]; rfl
    obtain rfl : hi = 0 := by omega
    obtain rfl : lo = 0 := by omega
    rw [hz]
    refine ⟨.slice ao 0 c, fun w => ?_, fun w' _ => ⟨_, _, by rw [hpl], by omega, Or.inl (List.eq_nil_of_length_eq_zero (by omega))⟩⟩
    cases ao <;> go_simp
  · rcases hx with hx | ⟨b, o, rfl, hb, hcell⟩
    · exact absurd hx h0
    by_cases hic : lo < c
    · refine ⟨.slice (some ⟨b, o + lo, none⟩) (hi - lo) (c - lo), fun w => ?_, fun w' hb' => ?_⟩
      · have hicn : ¬ c ≤ lo := by omega
        have hn : ¬ c - lo = 0 := by omega
        go_simp
        rw [if_pos (show hi ≤ c by omega), if_neg (show ¬ c = lo by omega)]
      · refine ⟨_, c - lo, by rw [hpl], by omega, Or.inr ⟨b, o + lo, rfl, Nat.lt_of_lt_of_le hb hb'.size, fun q x hq => ?_⟩⟩
        have hql : q < hi - lo := by
          have := (List.getElem?_eq_some_iff.1 hq).1
          omega
        rw [List.getElem?_take_of_lt hql, List.getElem?_drop] at hq
        rw [Nat.add_assoc]
        exact (hb'.cell (by exact hb)).trans (hcell _ x hq)
    · obtain rfl : lo = c := by omega
      obtain rfl : hi = lo := by omega
      refine ⟨.slice (some ⟨b, o, none⟩) 0 0, fun w => ?_, fun w' _ => ⟨some ⟨b, o, none⟩, 0, by rw [hpl, Nat.sub_self], by omega, Or.inl (List.eq_nil_of_length_eq_zero (by omega))⟩⟩
      go_simp
theorem step_append_run {P : Program} {ops : Array Oper} {o : Oper} {a : Act} {w : World} {K : Act → World → Prop} {Q : Exit → Act → World → Prop} {E : Prop}
    (hg : o.guard = none) (s x : Operand) (t tn : TypeId) (hop : o.op = Op.call { callee := Callee.builtin Builtin.append, args := #[s, x], argTypes := #[t, tn] })
    (vs vx : Value) (hs : a.eval s = vs) (hx : a.eval x = vx) (v' : Value) (w' : World) (hr : ∀ ty, (Builtin.append_ #[t, tn] ty #[vs, vx]).run P w = .ok v' w') (hK : K (a.put o.dst v') w') :
    if Region.wanted o (yielded ops a.tmps) = true then Oper.wp P o a w K Q else E := by
  have hw : Region.wanted o (yielded ops a.tmps) = true := by simp [Region.wanted, hg]
  rw [if_pos hw]
  have hrun := hr o.type
  unfold Oper.wp
  simp [execOp, hop, resolve, invoke, builtin, hs, hx, hrun, Result.andThen]
  exact hK
end Go.Proofs.YtldllbmbcnipoabGreatDoor.Cm

namespace Go.Proofs.YtldllbmbcnipoabGreatDoor.Sp
open Go.RowKit
open Go.Proofs.YtldllbmbcnipoabGreatDoor.Tk (S S_of S_list S_size S_toList S_app ret_int)
open Go.Proofs.YtldllbmbcnipoabGreatDoor.Cm (calls_at Rk Rk.of_own flat_get Keep own_keep cell_at alloc_new alloc_at lt_of_at step_append_run)
set_option linter.unusedVariables false
structure Acc (w0 w : World) (v : Value) (ps : List (Sp × Value)) : Prop where
  bel : Below w0.heap.size w0 w
  own : w.ownsRow w0.heap.size 81 3 v ps.length (ps.flatMap encT)
theorem new_aT {w : World} (o o' : Obj) : ((w.alloc o).alloc o').heap[w.heap.size]? = some o := alloc_at (alloc_new w o) o'
theorem new_bT {w : World} (o o' : Obj) : ((w.alloc o).alloc o').heap[w.heap.size + 1]? = some o' := by
  have h := alloc_new (w.alloc o) o'
  rw [show (w.alloc o).heap.size = w.heap.size + 1 by simp] at h
  exact h
end Go.Proofs.YtldllbmbcnipoabGreatDoor.Sp

namespace Go.Proofs.YtldllbmbcnipoabGreatDoor.Bt
open Go.RowKit
open Go.Proofs.YtldllbmbcnipoabGreatDoor.Tk (S S_of S_list S_size S_toList ret_int Rd)
open Go.Proofs.YtldllbmbcnipoabGreatDoor.Cm (calls_at)
open Go.Proofs.YtldllbmbcnipoabGreatDoor.Sp (Sp Tr ret_bool OkAns)
open Go.Proofs.YtldllbmbcnipoabGreatDoor.Bk (Bk)
set_option linter.unusedVariables false
mutual
theorem sp1W {R R' : Nat} (h : R ≤ R') : ∀ x : Sp, Sp.fitOne R x → Sp.fitOne R' x
  | .mk k s l, hf => by
    unfold Sp.fitOne at hf ⊢
    exact ⟨hf.1, Nat.le_trans hf.2.1 h, spW h l hf.2.2⟩
theorem spW {R R' : Nat} (h : R ≤ R') : ∀ l : List Sp, Sp.fitAll R l → Sp.fitAll R' l
  | [], _ => by unfold Sp.fitAll; trivial
  | x :: r, hf => by
    unfold Sp.fitAll at hf ⊢
    exact ⟨sp1W h x hf.1, spW h r hf.2⟩
end
mutual
theorem fitOne_wide {R R' : Nat} (h : R ≤ R') : ∀ x : Bk, fitOne R x → fitOne R' x
  | .mk k lv i ls ss l, hf => by
    rw [fitOne] at hf ⊢
    exact ⟨hf.1, hf.2.1, Nat.le_trans hf.2.2.1 h, fun s hs => Nat.le_trans (hf.2.2.2.1 s hs) h, spW h ss hf.2.2.2.2.1, fitAll_wide h l hf.2.2.2.2.2⟩
theorem fitAll_wide {R R' : Nat} (h : R ≤ R') : ∀ l : List Bk, fitAll R l → fitAll R' l
  | [], _ => by unfold fitAll; trivial
  | x :: r, hf => by
    unfold fitAll at hf ⊢
    exact ⟨fitOne_wide h x hf.1, fitAll_wide h r hf.2⟩
end
theorem ln_mem : ∀ {ls : List (List UInt8)} {s : List UInt8}, s ∈ ls → s.length ≤ lnTot ls
  | [], _, h => by cases h
  | x :: r, s, h => by
    rw [lnTot]
    rcases List.mem_cons.1 h with rfl | h
    · omega
    · have := ln_mem h; omega
mutual
theorem sp1T {R N : Nat} : ∀ x : Sp, Sp.fitOne R x → Sp.totOne x ≤ N → Sp.fitOne N x
  | .mk k s l, hf, ht => by
    rw [Sp.totOne_eq] at ht
    simp only [Sp.s, Sp.kids] at ht
    unfold Sp.fitOne at hf ⊢
    exact ⟨hf.1, by omega, spT l hf.2.2 (by omega)⟩
theorem spT {R N : Nat} : ∀ l : List Sp, Sp.fitAll R l → Sp.totAll l ≤ N → Sp.fitAll N l
  | [], _, _ => by unfold Sp.fitAll; trivial
  | x :: r, hf, ht => by
    rw [Sp.totAll_cons] at ht
    unfold Sp.fitAll at hf ⊢
    exact ⟨sp1T x hf.1 (by omega), spT r hf.2 (by omega)⟩
end
mutual
theorem fitOne_tt {R N : Nat} : ∀ x : Bk, fitOne R x → ttOne x ≤ N → fitOne N x
  | .mk k lv i ls ss l, hf, ht => by
    rw [ttOne] at ht
    rw [fitOne] at hf ⊢
    exact ⟨hf.1, hf.2.1, by omega, fun s hs => by have := ln_mem hs; omega, spT ss hf.2.2.2.2.1 (by omega), fitAll_tt l hf.2.2.2.2.2 (by omega)⟩
theorem fitAll_tt {R N : Nat} : ∀ l : List Bk, fitAll R l → ttAll l ≤ N → fitAll N l
  | [], _, _ => by unfold fitAll; trivial
  | x :: r, hf, ht => by
    rw [ttAll_cons] at ht
    unfold fitAll at hf ⊢
    exact ⟨fitOne_tt x hf.1 (by omega), fitAll_tt r hf.2 (by omega)⟩
end
theorem litB {w : World} {k lv : Int} {i : List UInt8} {vl vs : Value} {ao : Option Addr} {n c : Nat} {ls : List (List UInt8)} {ss : List Sp} {ks : List Bk} (hrd : Rd w vl ls) (hsh : ls.length ≤ 9223372036854775807) (hsp : Tr w vs ss) (htr : TrB w (.slice ao n c) ks) (T : TypeId) :
    TrB (w.alloc (.cells #[.int .i64 k, .int .i64 lv, .string (S i), vl, vs, .slice ao n c] T)) (.slice (some ⟨w.heap.size, 0, none⟩) 1 1) [.mk k lv i ls ss ks] := by
  have hb : Below w.heap.size w (w.alloc (.cells #[.int .i64 k, .int .i64 lv, .string (S i), vl, vs, .slice ao n c] T)) := (Below.refl _ _).alloc (Nat.le_refl _) _
  have hn : n = ks.length := by obtain ⟨_, _, hv, _⟩ := htr; simp only [Value.slice.injEq] at hv; exact hv.2.1
  subst hn
  refine ⟨_, 1, rfl, ⟨Nat.le_refl _, by omega⟩, Or.inr ⟨w.heap.size, 0, rfl, by simp, ?_⟩⟩
  unfold trAll
  refine ⟨trOne_of (vl := vl) (vs := vs) (ao := ao) (cap := c) ⟨?_, ?_, ?_, ?_, ?_, ?_, hrd.below hb, hsh, hsp.below hb, htr.below hb⟩, by unfold trAll; trivial⟩
  · rw [World.cell?_alloc_new]; rfl
  · rw [World.cell?_alloc_new]; rfl
  · rw [World.cell?_alloc_new]; rfl
  · rw [World.cell?_alloc_new]; rfl
  · rw [World.cell?_alloc_new]; rfl
  · rw [World.cell?_alloc_new]; rfl
end Go.Proofs.YtldllbmbcnipoabGreatDoor.Bt

namespace Go.Proofs.YtldllbmbcnipoabGreatDoor.Nm
open Go.RowKit
open Go.Proofs.YtldllbmbcnipoabGreatDoor.Tk (S S_of S_list S_size S_toList S_app Rd RdI ret_int)
open Go.Proofs.YtldllbmbcnipoabGreatDoor.Cm (cell_at alloc_new Keep Keep.of_below calls_at Rz)
open Go.Proofs.YtldllbmbcnipoabGreatDoor.Sp (Sp Tr totAll plAll OkAns)
open Go.Proofs.YtldllbmbcnipoabGreatDoor.Bt (TrB ttAll ttOne lnTot szAll szOne smB)
open Go.Proofs.YtldllbmbcnipoabGreatDoor.Bk (Bk Tx)
set_option linter.unusedVariables false
theorem rz_of_rdi {w : World} {v : Value} {xs : List Int} (h : RdI 0 w v xs) : Rz w v xs := by
  obtain ⟨ao, cap, hv, hc, hx⟩ := h
  refine ⟨ao, cap, hv, hc, ?_⟩
  rcases hx with hx | ⟨b, hao, _, hlt, hcell⟩
  · exact Or.inl hx
  · exact Or.inr ⟨b, 0, hao, hlt, fun j x hj => by rw [Nat.zero_add]; exact hcell j x hj⟩
theorem pt_len (x : Bk) : (pt x).length ≤ ttOne x + 1 := by
  obtain ⟨q, lv, i, lns, ss, l⟩ := x
  have h1 := Tk.toks_len (plAll ss)
  have h2 := Sp.plAll_len ss
  have h3 := ln_len lns
  have h4 := tt_len l
  rw [ttOne]
  show (if q = 1 ∨ q = 2 then Tk.toks (plAll ss) else if q = 4 then lns else if q = 5 ∨ q = 6 ∨ q = 7 then keys l else if q = 8 then i :: lns else []).length ≤ _
  split
  · omega
  · split
    · omega
    · split
      · show (l.map bk1).length ≤ _
        rw [List.length_map]; omega
      · split
        · rw [List.length_cons]; omega
        · simp
def BkV (w : World) (x : Bk) (v : Value) : Prop := ∃ al as' ak cl cs ck, v = .agg #[.int .i64 x.kind, .int .i64 x.level, .string (S x.info), .slice al x.lines.length cl, .slice as' x.spans.length cs, .slice ak x.kids.length ck] ∧
  Rd w (.slice al x.lines.length cl) x.lines ∧ x.lines.length ≤ 9223372036854775807 ∧ Tr w (.slice as' x.spans.length cs) x.spans ∧ TrB w (.slice ak x.kids.length ck) x.kids
theorem BkV.below {w w' : World} {x : Bk} {v : Value} (h : BkV w x v) (hb : Below w.heap.size w w') : BkV w' x v := by
  obtain ⟨al, as', ak, cl, cs, ck, hv, h1, h2, h3, h4⟩ := h
  exact ⟨al, as', ak, cl, cs, ck, hv, h1.below hb, h2, h3.below hb, h4.below hb⟩
def IntA (w : World) (n : Int) (e : Ending) (w' : World) : Prop := e = .returned (.int .i64 n) ∧ Below w.heap.size w w'
end Go.Proofs.YtldllbmbcnipoabGreatDoor.Nm
