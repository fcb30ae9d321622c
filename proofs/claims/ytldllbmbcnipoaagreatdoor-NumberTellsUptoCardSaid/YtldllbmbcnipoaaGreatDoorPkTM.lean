/-
  Several texts in one:
  CONTRACTS of the document's Length, Dice, Pairs, Same (emendationref04).
  A SLICE OF A SLICE of numbers, 's[lo:hi]': its run, and how it reads. No function of the program is named.
  A ROW OF SPANS that a statement makes: append as a step of a region that draws; 's[:hi]', 's[lo:]'.
-/
import Derived.Test.YtldllbmbcnipoaaGreatDoorLcTable
import Derived.Test.YtldllbmbcnipoaaGreatDoorPkTB
import Derived.Deep.RegionLaw
import Derived.Test.YtldllbmbcnipoaaGreatDoorPkTI
namespace Go.Proofs.YtldllbmbcnipoaaGreatDoor.Lc
open Go.RowKit Go.Proofs.YtldllbmbcnipoaaGreatDoor.Cm
set_option linter.unusedVariables false

theorem rlength_any (va vb : Value) (a b : List Int) (w : World) (ha : Rz w va a) (hb : Rz w vb b) (hla : a.length ≤ 100000) (hlb : b.length ≤ 100000) :
    Calls Tryz.prog 46 #[va, vb] w fun e w' => e = .returned (.int .i64 (lcs a b)) ∧ Below w.heap.size w w' := by
  have HT := Lib.hid (table_any va vb a b w ha hb hla hlb)
  clear ha hb
  go_enter Tryz.func46, Tryz.ntmps46
  go_wp2_with fail
  refine HT.out.mono ?_
  rintro e w1 ⟨v, rfl, ht, hb1⟩
  obtain ⟨B, rfl, hB, hr⟩ := ht
  obtain ⟨g, g1, g2, g3⟩ := hr 0 (Nat.zero_lt_succ _)
  have g4 := g3 0 (by omega)
  rw [tb_zero] at g4
  have Hb := Lib.hid hb1
  clear hr g3 hb1 HT
  go_wp2_with fail
  go_ret
  exact ⟨rfl, Hb.out⟩
theorem rdice_any (va vb : Value) (a b : List Int) (w : World) (ha : Rz w va a) (hb : Rz w vb b) (hla : a.length ≤ 100000) (hlb : b.length ≤ 100000) :
    Calls Tryz.prog 26 #[va, vb] w fun e w' => e = .returned (.int .i64 (dice a b)) ∧ Below w.heap.size w w' := by
  have HL := Lib.hid (rlength_any va vb a b w ha hb hla hlb)
  obtain ⟨aoa, ca, rfl⟩ := ha.len
  obtain ⟨aob, cb, rfl⟩ := hb.len
  have hle := lcs_le_left a b
  have HD : Hid (dice a b = if a.length + b.length = 0 then 1000 else 2000 * lcs a b / (a.length + b.length)) := Lib.hid rfl
  clear ha hb
  generalize dice a b = d at *
  generalize lcs a b = l at *
  by_cases h0 : a.length + b.length = 0
  · rw [if_pos h0] at HD
    have e0 : ((a.length : Int) + (b.length : Int) == 0) = true := by rw [beq_iff_eq]; omega
    go_enter Tryz.func26, Tryz.ntmps26
    go_wp2_with fail
    go_ret
    exact ⟨by rw [HD.out]; rfl, Below.refl _ _⟩
  · rw [if_neg h0] at HD
    have e0 : ((a.length : Int) + (b.length : Int) == 0) = false := by rw [beq_eq_false_iff_ne]; omega
    go_enter Tryz.func26, Tryz.ntmps26
    go_wp2_with fail
    refine HL.out.mono ?_
    rintro e w1 ⟨rfl, hb1⟩
    have Hb := Lib.hid hb1
    clear hb1
    go_wp2_with fail
    go_ret
    refine ⟨?_, Hb.out⟩
    rw [HD.out]
    exact ret_int (by rw [Int.natCast_ediv]; rfl)

/-- A pair, as it lies. -/
def encP (p : Nat × Nat) : List Value := [.int .i64 p.1, .int .i64 p.2]
theorem encP_len (p : Nat × Nat) : (encP p).length = 2 := rfl
theorem encP_one (p : Nat × Nat) : ∀ u ∈ encP p, u.oneCell' = true := by
  intro u hu
  simp [encP] at hu
  rcases hu with rfl | rfl <;> rfl
theorem own_low {w : World} {B B' e z n : Nat} {v : Value} {xs : List Value} (h : w.ownsRow B' e z v n xs) (hB : B ≤ B') : w.ownsRow B e z v n xs := by
  refine ⟨h.1, ?_⟩
  rcases h.2 with hn | ⟨g, cap, cur, hv, hg, rest⟩
  · exact .inl hn
  · exact .inr ⟨g, cap, cur, hv, Nat.le_trans hB hg, rest⟩
/-- The pairs so far, and what is left. -/
def Pp (a b : List Int) (i k : Nat) (o : List (Nat × Nat)) : Prop := pairs a b = o ++ pp i k (a.drop i) (b.drop k)

end Go.Proofs.YtldllbmbcnipoaaGreatDoor.Lc

namespace Go.Proofs.YtldllbmbcnipoaaGreatDoor.Cm
open Go.RowKit
set_option linter.unusedVariables false

/-- 's[lo:hi]': its run, and how it reads. -/
theorem slice_run {w0 : World} {ao : Option Addr} {c : Nat} {l : List Int} (h : Rz w0 (.slice ao l.length c) l) (lo hi : Nat) (h1 : lo ≤ hi) (h2 : hi ≤ l.length) (hl : l.length ≤ 1000000) :
    ∃ v, (∀ w, (Instr.slice 30 (.slice ao l.length c) (some (.int .i64 (lo : Int))) (some (.int .i64 (hi : Int))) none).run Tryz.prog w = .ok v w) ∧ ∀ w', Below w0.heap.size w0 w' → Rz w' v ((l.drop lo).take (hi - lo)) := by
  have u := Tryz.underlying30
  have hz : Tryz.prog.cellsOf 3 = 1 := by kernel_rfl
  obtain ⟨ao', c', hv, hc, hx⟩ := h
  simp only [Value.slice.injEq, true_and] at hv
  obtain ⟨rfl, rfl⟩ := hv
  have hpl : ((l.drop lo).take (hi - lo)).length = hi - lo := by rw [List.length_take, List.length_drop]; omega
  by_cases h0 : l = []
  · have hz : l.length = 0 := by rw [h0]; rfl
    obtain rfl : hi = 0 := by omega
    obtain rfl : lo = 0 := by omega
    rw [hz]
    refine ⟨.slice ao 0 c, fun w => ?_, fun w' _ => ⟨_, _, by rw [hpl], by omega, Or.inl (List.eq_nil_of_length_eq_zero (by omega))⟩⟩
    cases ao <;> go_simp
  · rcases hx with hx | ⟨b, o, rfl, hb, hcell⟩
    · exact absurd hx h0
    by_cases hic : lo < c
    · refine ⟨.slice (some ⟨b, o + lo, none⟩) (hi - lo) (c - lo), fun w => ?_, fun w' hb' => ?_⟩
      · have hicn : ¬ c ≤ lo := by omega
        have hn : ¬ c - lo = 0 := by omega
        go_simp
        rw [if_pos (show hi ≤ c by omega), if_neg (show ¬ c = lo by omega)]
      · refine ⟨_, c - lo, by rw [hpl], by omega, Or.inr ⟨b, o + lo, rfl, Nat.lt_of_lt_of_le hb hb'.size, fun q x hq => ?_⟩⟩
        have hql : q < hi - lo := by
          have := (List.getElem?_eq_some_iff.1 hq).1
          omega
        rw [List.getElem?_take_of_lt hql, List.getElem?_drop] at hq
        rw [Nat.add_assoc]
        exact (hb'.cell (by exact hb)).trans (hcell _ x hq)
    · obtain rfl : lo = c := by omega
      obtain rfl : hi = lo := by omega
      refine ⟨.slice (some ⟨b, o, none⟩) 0 0, fun w => ?_, fun w' _ => ⟨some ⟨b, o, none⟩, 0, by rw [hpl, Nat.sub_self], by omega, Or.inl (List.eq_nil_of_length_eq_zero (by omega))⟩⟩
      go_simp

/-- 's[:hi]'. -/
theorem slice_to {w0 : World} {ao : Option Addr} {c : Nat} {l : List Int} (h : Rz w0 (.slice ao l.length c) l) (hi : Nat) (h2 : hi ≤ l.length) (hl : l.length ≤ 1000000) :
    ∃ v, (∀ w, (Instr.slice 30 (.slice ao l.length c) none (some (.int .i64 (hi : Int))) none).run Tryz.prog w = .ok v w) ∧ ∀ w', Below w0.heap.size w0 w' → Rz w' v (l.take hi) := by
  have u := Tryz.underlying30
  have hz : Tryz.prog.cellsOf 3 = 1 := by kernel_rfl
  obtain ⟨ao', c', hv, hc, hx⟩ := h
  simp only [Value.slice.injEq, true_and] at hv
  obtain ⟨rfl, rfl⟩ := hv
  have hpl : (l.take hi).length = hi := by rw [List.length_take]; omega
  by_cases h0 : l = []
  · have hz : l.length = 0 := by rw [h0]; rfl
    obtain rfl : hi = 0 := by omega
    rw [hz]
    refine ⟨.slice ao 0 c, fun w => ?_, fun w' _ => ⟨_, _, by rw [hpl], by omega, Or.inl rfl⟩⟩
    cases ao <;> go_simp
  · rcases hx with hx | ⟨b, o, rfl, hb, hcell⟩
    · exact absurd hx h0
    refine ⟨.slice (some ⟨b, o, none⟩) hi c, fun w => ?_, fun w' hb' => ?_⟩
    · have hhc : hi ≤ c := by omega
      go_simp
    · refine ⟨_, c, by rw [hpl], by omega, Or.inr ⟨b, o, rfl, Nat.lt_of_lt_of_le hb hb'.size, fun q x hq => ?_⟩⟩
      have hql : q < hi := by
        have := (List.getElem?_eq_some_iff.1 hq).1
        omega
      rw [List.getElem?_take_of_lt hql] at hq
      exact (hb'.cell (by exact hb)).trans (hcell _ x hq)
/-- 's[lo:]'. -/
theorem slice_from {w0 : World} {ao : Option Addr} {c : Nat} {l : List Int} (h : Rz w0 (.slice ao l.length c) l) (lo : Nat) (h2 : lo ≤ l.length) (hl : l.length ≤ 1000000) :
    ∃ v, (∀ w, (Instr.slice 30 (.slice ao l.length c) (some (.int .i64 (lo : Int))) none none).run Tryz.prog w = .ok v w) ∧ ∀ w', Below w0.heap.size w0 w' → Rz w' v (l.drop lo) := by
  have u := Tryz.underlying30
  have hz : Tryz.prog.cellsOf 3 = 1 := by kernel_rfl
  obtain ⟨ao', c', hv, hc, hx⟩ := h
  simp only [Value.slice.injEq, true_and] at hv
  obtain ⟨rfl, rfl⟩ := hv
  have hpl : (l.drop lo).length = l.length - lo := List.length_drop
  by_cases h0 : l = []
  · have hz : l.length = 0 := by rw [h0]; rfl
    obtain rfl : lo = 0 := by omega
    rw [hz]
    refine ⟨.slice ao 0 c, fun w => ?_, fun w' _ => ⟨_, _, by rw [hpl, hz], by omega, Or.inl (List.eq_nil_of_length_eq_zero (by omega))⟩⟩
    cases ao <;> go_simp
  · rcases hx with hx | ⟨b, o, rfl, hb, hcell⟩
    · exact absurd hx h0
    by_cases hic : lo < c
    · refine ⟨.slice (some ⟨b, o + lo, none⟩) (l.length - lo) (c - lo), fun w => ?_, fun w' hb' => ?_⟩
      · have hicn : ¬ c ≤ lo := by omega
        have hn : ¬ c - lo = 0 := by omega
        go_simp
        try omega
      · refine ⟨_, c - lo, by rw [hpl], by omega, Or.inr ⟨b, o + lo, rfl, Nat.lt_of_lt_of_le hb hb'.size, fun q x hq => ?_⟩⟩
        rw [List.getElem?_drop] at hq
        rw [Nat.add_assoc]
        exact (hb'.cell (by exact hb)).trans (hcell _ x hq)
    · obtain rfl : lo = c := by omega
      have hll : l.length = lo := by omega
      refine ⟨.slice (some ⟨b, o, none⟩) 0 0, fun w => ?_, fun w' _ => ⟨some ⟨b, o, none⟩, 0, by rw [hpl, hll, Nat.sub_self], by omega, Or.inl (List.eq_nil_of_length_eq_zero (by omega))⟩⟩
      rw [hll]
      go_simp
/-- An append whose run is known, as one step of a region that draws. -/
theorem step_append_run {P : Program} {ops : Array Oper} {o : Oper} {a : Act} {w : World} {K : Act → World → Prop} {Q : Exit → Act → World → Prop} {E : Prop}
    (hg : o.guard = none) (s x : Operand) (t tn : TypeId) (hop : o.op = Op.call { callee := Callee.builtin Builtin.append, args := #[s, x], argTypes := #[t, tn] })
    (vs vx : Value) (hs : a.eval s = vs) (hx : a.eval x = vx) (v' : Value) (w' : World) (hr : ∀ ty, (Builtin.append_ #[t, tn] ty #[vs, vx]).run P w = .ok v' w') (hK : K (a.put o.dst v') w') :
    if Region.wanted o (yielded ops a.tmps) = true then Oper.wp P o a w K Q else E := by
  have hw : Region.wanted o (yielded ops a.tmps) = true := by simp [Region.wanted, hg]
  rw [if_pos hw]
  have hrun := hr o.type
  unfold Oper.wp
  simp [execOp, hop, resolve, invoke, builtin, hs, hx, hrun, Result.andThen]
  exact hK

end Go.Proofs.YtldllbmbcnipoaaGreatDoor.Cm

namespace Go.Proofs.YtldllbmbcnipoaaGreatDoor.Sp
open Go.RowKit
open Go.Proofs.YtldllbmbcnipoaaGreatDoor.Tk (S S_of S_list S_size S_toList S_app ret_int)
open Go.Proofs.YtldllbmbcnipoaaGreatDoor.Cm (calls_at Rk Rk.of_own flat_get Keep own_keep cell_at alloc_new alloc_at lt_of_at step_append_run)
set_option linter.unusedVariables false

/-- 's[:hi]'. -/
theorem slice_toT {w0 : World} {ao : Option Addr} {c : Nat} {l : List (Sp × Value)} (h : Rk 3 encT w0 (.slice ao l.length c) l) (hi : Nat) (h2 : hi ≤ l.length) (hl : l.length ≤ 1000000) :
    ∃ v, (∀ w, (Instr.slice 33 (.slice ao l.length c) none (some (.int .i64 (hi : Int))) none).run Tryz.prog w = .ok v w) ∧ ∀ w', Below w0.heap.size w0 w' → Rk 3 encT w' v (l.take hi) := by
  have u := Tryz.underlying33
  have hz : Tryz.prog.cellsOf 78 = 3 := by kernel_rfl
  obtain ⟨ao', c', hv, hc, hx⟩ := h
  simp only [Value.slice.injEq, true_and] at hv
  obtain ⟨rfl, rfl⟩ := hv
  have hpl : (l.take hi).length = hi := by rw [List.length_take]; omega
  by_cases h0 : l = []
  · have hz : l.length = 0 := by rw [h0]; rfl
    obtain rfl : hi = 0 := by omega
    rw [hz]
    refine ⟨.slice ao 0 c, fun w => ?_, fun w' _ => ⟨_, _, by rw [hpl], by omega, Or.inl rfl⟩⟩
    cases ao <;> go_simp
  · rcases hx with hx | ⟨b, o, rfl, hb, hcell⟩
    · exact absurd hx h0
    refine ⟨.slice (some ⟨b, o, none⟩) hi c, fun w => ?_, fun w' hb' => ?_⟩
    · have hhc : hi ≤ c := by omega
      go_simp
    · refine ⟨_, c, by rw [hpl], by omega, Or.inr ⟨b, o, rfl, Nat.lt_of_lt_of_le hb hb'.size, fun q x hq r u hr => ?_⟩⟩
      have hql : q < hi := by
        have := (List.getElem?_eq_some_iff.1 hq).1
        omega
      rw [List.getElem?_take_of_lt hql] at hq
      exact (hb'.cell (by exact hb)).trans (hcell _ x hq r u hr)
/-- 's[lo:]'. -/
theorem slice_fromT {w0 : World} {ao : Option Addr} {c : Nat} {l : List (Sp × Value)} (h : Rk 3 encT w0 (.slice ao l.length c) l) (lo : Nat) (h2 : lo ≤ l.length) (hl : l.length ≤ 1000000) :
    ∃ v, (∀ w, (Instr.slice 33 (.slice ao l.length c) (some (.int .i64 (lo : Int))) none none).run Tryz.prog w = .ok v w) ∧ ∀ w', Below w0.heap.size w0 w' → Rk 3 encT w' v (l.drop lo) := by
  have u := Tryz.underlying33
  have hz : Tryz.prog.cellsOf 78 = 3 := by kernel_rfl
  obtain ⟨ao', c', hv, hc, hx⟩ := h
  simp only [Value.slice.injEq, true_and] at hv
  obtain ⟨rfl, rfl⟩ := hv
  have hpl : (l.drop lo).length = l.length - lo := List.length_drop
  by_cases h0 : l = []
  · have hz : l.length = 0 := by rw [h0]; rfl
    obtain rfl : lo = 0 := by omega
    rw [hz]
    refine ⟨.slice ao 0 c, fun w => ?_, fun w' _ => ⟨_, _, by rw [hpl, hz], by omega, Or.inl (List.eq_nil_of_length_eq_zero (by omega))⟩⟩
    cases ao <;> go_simp
  · rcases hx with hx | ⟨b, o, rfl, hb, hcell⟩
    · exact absurd hx h0
    by_cases hic : lo < c
    · refine ⟨.slice (some ⟨b, o + lo * 3, none⟩) (l.length - lo) (c - lo), fun w => ?_, fun w' hb' => ?_⟩
      · have hicn : ¬ c ≤ lo := by omega
        have hn : ¬ c - lo = 0 := by omega
        go_simp
        try omega
      · refine ⟨_, c - lo, by rw [hpl], by omega, Or.inr ⟨b, o + lo * 3, rfl, Nat.lt_of_lt_of_le hb hb'.size, fun q x hq r u hr => ?_⟩⟩
        rw [List.getElem?_drop] at hq
        rw [show o + lo * 3 + q * 3 + r = o + (lo + q) * 3 + r by rw [Nat.add_mul]; omega]
        exact (hb'.cell (by exact hb)).trans (hcell _ x hq r u hr)
    · obtain rfl : lo = c := by omega
      have hll : l.length = lo := by omega
      refine ⟨.slice (some ⟨b, o, none⟩) 0 0, fun w => ?_, fun w' hb' => ⟨some ⟨b, o, none⟩, 0, by rw [hpl, hll, Nat.sub_self], by omega, Or.inl (List.eq_nil_of_length_eq_zero (by omega))⟩⟩
      rw [hll]
      go_simp


/-- A row of the statement's own, above the world w0. -/
structure Acc (w0 w : World) (v : Value) (ps : List (Sp × Value)) : Prop where
  bel : Below w0.heap.size w0 w
  own : w.ownsRow w0.heap.size 78 3 v ps.length (ps.flatMap encT)
theorem bel_a {w0 w : World} (h : Below w0.heap.size w0 w) (o : Obj) : Below w0.heap.size w0 (w.alloc o) := h.alloc h.size o
theorem bel_d {w0 w : World} (h : Below w0.heap.size w0 w) : Below w0.heap.size w0 w.drew := h.drew
theorem Acc.go {w0 w w' : World} {v : Value} {ps : List (Sp × Value)} (h : Acc w0 w v ps) (hb : Below w.heap.size w w') : Acc w0 w' v ps :=
  ⟨h.bel.trans (hb.mono h.bel.size), own_keep h.own (Keep.of_below (S := fun _ => False) hb) (fun _ _ h => h)⟩
theorem Acc.alloc {w0 w : World} {v : Value} {ps : List (Sp × Value)} (h : Acc w0 w v ps) (o : Obj) : Acc w0 (w.alloc o) v ps := h.go ((Below.refl _ _).alloc (Nat.le_refl _) _)
theorem Acc.drew {w0 w : World} {v : Value} {ps : List (Sp × Value)} (h : Acc w0 w v ps) : Acc w0 w.drew v ps := h.go (Below.refl _ _).drew
theorem Acc.lit {w0 w : World} (hb : Below w0.heap.size w0 w) : Acc w0 (w.alloc (.cells #[] 78)) (.slice (some ⟨w.heap.size, 0, none⟩) 0 0) [] :=
  ⟨bel_a hb _, World.ownsRow_lit w #[] 0 hb.size (Nat.zero_le _) rfl⟩
theorem Acc.lit2 {w0 w : World} (hb : Below w0.heap.size w0 w) (o : Obj) : Acc w0 ((w.alloc o).alloc (.cells #[] 78)) (.slice (some ⟨w.heap.size + 1, 0, none⟩) 0 0) [] := by
  have h := Acc.lit (bel_a hb o)
  rw [show (w.alloc o).heap.size = w.heap.size + 1 by simp] at h
  exact h
/-- A slice of one span, as a literal lays it. -/
theorem one_rk {w : World} {g : Nat} {a b c : Value} {t : TypeId} {fr : Nat × Nat} {p : Sp × Value} (h : w.heap[g]? = some (.cells #[a, b, c] t fr)) (he : encT p = [a, b, c]) : Rk 3 encT w (.slice (some ⟨g, 0, none⟩) 1 1) [p] := by
  refine ⟨_, 1, rfl, Nat.le_refl _, Or.inr ⟨g, 0, rfl, lt_of_at h, fun j x hj q u hq => ?_⟩⟩
  match j, hj with
  | 0, hj =>
    simp at hj
    subst hj
    rw [Nat.zero_mul, Nat.zero_add, cell_at h]
    rw [he] at hq
    simpa using hq
theorem new_aT {w : World} (o o' : Obj) : ((w.alloc o).alloc o').heap[w.heap.size]? = some o := alloc_at (alloc_new w o) o'
theorem new_bT {w : World} (o o' : Obj) : ((w.alloc o).alloc o').heap[w.heap.size + 1]? = some o' := by
  have h := alloc_new (w.alloc o) o'
  rw [show (w.alloc o).heap.size = w.heap.size + 1 by simp] at h
  exact h
theorem step_sp {P : Program} (hP : P = Tryz.prog) {ops : Array Oper} {o : Oper} {a : Act} {w : World} {K : Act → World → Prop} {Q : Exit → Act → World → Prop} {E : Prop} {w0 : World} {vs vx : Value} {os ys : List (Sp × Value)} (hg : o.guard = none) (s x : Operand)
    (hop : o.op = Op.call { callee := Callee.builtin Builtin.append, args := #[s, x], argTypes := #[33, 33] }) (hs : a.eval s = vs) (hx : a.eval x = vx)
    (h : Acc w0 w vs os) (hu : Rk 3 encT w vx ys ∧ ∀ p ∈ ys, Tr w p.2 p.1.kids) (hl : os.length + ys.length ≤ 1000000)
    (hK : ∀ v' w', Acc w0 w' v' (os ++ ys) → (∀ k, k < w.heap.size → vs.ownBlock ≠ some k → w'.heap[k]? = w.heap[k]?) → K (a.put o.dst v') w') :
    if Region.wanted o (yielded ops a.tmps) = true then Oper.wp P o a w K Q else E := by
  subst hP
  obtain ⟨v', w', hr, hf, hk⟩ := run_append_sp h.own hu.1 hu.2 h.bel.size hl
  exact step_append_run hg s x _ _ hop _ _ hs hx v' w' hr (hK v' w' ⟨h.bel.grown hk h.bel.size (fun k hk => (h.own.lt k hk).1), hf⟩ (fun k hk1 hs1 => hk.block k hk1 (fun e => hs1 e.symm)))

end Go.Proofs.YtldllbmbcnipoaaGreatDoor.Sp
