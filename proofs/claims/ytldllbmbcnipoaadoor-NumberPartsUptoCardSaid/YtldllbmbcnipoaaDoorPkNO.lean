/-
  Several texts in one:
  A ROW OF SPANS that a statement makes: append as a step of a region that draws; 's[:hi]', 's[lo:]'.
  WHAT IS ASKED OF THE PROGRAM (tree), over any world; the statements' own awake.
  CONTRACT of the document's Alike (emendationref15).
-/
import Derived.Test.YtldllbmbcnipoaaDoorSpRow
import Derived.Test.YtldllbmbcnipoaaDoorPkNN
import Derived.Test.YtldllbmbcnipoaaDoorPkNC
import Derived.Test.YtldllbmbcnipoaaDoorPkNI
import Derived.Test.YtldllbmbcnipoaaDoorBtSame
import Derived.Test.YtldllbmbcnipoaaDoorPkNK
import Derived.Test.YtldllbmbcnipoaaDoorPkNM
namespace Go.Proofs.YtldllbmbcnipoaaDoor.Sp
open Go.RowKit
open Go.Proofs.YtldllbmbcnipoaaDoor.Tk (S S_of S_list S_size S_toList S_app ret_int)
open Go.Proofs.YtldllbmbcnipoaaDoor.Cm (calls_at Rk Rk.of_own flat_get Keep own_keep cell_at alloc_new alloc_at lt_of_at step_append_run)
set_option linter.unusedVariables false

/-- 's[:hi]'. -/
theorem slice_toT {w0 : World} {ao : Option Addr} {c : Nat} {l : List (Sp × Value)} (h : Rk 3 encT w0 (.slice ao l.length c) l) (hi : Nat) (h2 : hi ≤ l.length) (hl : l.length ≤ 1000000) :
    ∃ v, (∀ w, (Instr.slice 31 (.slice ao l.length c) none (some (.int .i64 (hi : Int))) none).run Tryd.prog w = .ok v w) ∧ ∀ w', Below w0.heap.size w0 w' → Rk 3 encT w' v (l.take hi) := by
  have u := Tryd.underlying31
  have hz : Tryd.prog.cellsOf 61 = 3 := by kernel_rfl
  obtain ⟨ao', c', hv, hc, hx⟩ := h
  simp only [Value.slice.injEq, true_and] at hv
  obtain ⟨rfl, rfl⟩ := hv
  have hpl : (l.take hi).length = hi := by rw [List.length_take]; omega
  by_cases h0 : l = []
  · have hz : l.length = 0 := by rw [h0]; rfl
    obtain rfl : hi = 0 := by omega
    rw [hz]
    refine ⟨.slice ao 0 c, fun w => ?_, fun w' _ => ⟨_, _, by rw [hpl], by omega, Or.inl rfl⟩⟩
    cases ao <;> go_simp
  · rcases hx with hx | ⟨b, o, rfl, hb, hcell⟩
    · exact absurd hx h0
    refine ⟨.slice (some ⟨b, o, none⟩) hi c, fun w => ?_, fun w' hb' => ?_⟩
    · have hhc : hi ≤ c := by omega
      go_simp
    · refine ⟨_, c, by rw [hpl], by omega, Or.inr ⟨b, o, rfl, Nat.lt_of_lt_of_le hb hb'.size, fun q x hq r u hr => ?_⟩⟩
      have hql : q < hi := by
        have := (List.getElem?_eq_some_iff.1 hq).1
        omega
      rw [List.getElem?_take_of_lt hql] at hq
      exact (hb'.cell (by exact hb)).trans (hcell _ x hq r u hr)
/-- 's[lo:]'. -/
theorem slice_fromT {w0 : World} {ao : Option Addr} {c : Nat} {l : List (Sp × Value)} (h : Rk 3 encT w0 (.slice ao l.length c) l) (lo : Nat) (h2 : lo ≤ l.length) (hl : l.length ≤ 1000000) :
    ∃ v, (∀ w, (Instr.slice 31 (.slice ao l.length c) (some (.int .i64 (lo : Int))) none none).run Tryd.prog w = .ok v w) ∧ ∀ w', Below w0.heap.size w0 w' → Rk 3 encT w' v (l.drop lo) := by
  have u := Tryd.underlying31
  have hz : Tryd.prog.cellsOf 61 = 3 := by kernel_rfl
  obtain ⟨ao', c', hv, hc, hx⟩ := h
  simp only [Value.slice.injEq, true_and] at hv
  obtain ⟨rfl, rfl⟩ := hv
  have hpl : (l.drop lo).length = l.length - lo := List.length_drop
  by_cases h0 : l = []
  · have hz : l.length = 0 := by rw [h0]; rfl
    obtain rfl : lo = 0 := by omega
    rw [hz]
    refine ⟨.slice ao 0 c, fun w => ?_, fun w' _ => ⟨_, _, by rw [hpl, hz], by omega, Or.inl (List.eq_nil_of_length_eq_zero (by omega))⟩⟩
    cases ao <;> go_simp
  · rcases hx with hx | ⟨b, o, rfl, hb, hcell⟩
    · exact absurd hx h0
    by_cases hic : lo < c
    · refine ⟨.slice (some ⟨b, o + lo * 3, none⟩) (l.length - lo) (c - lo), fun w => ?_, fun w' hb' => ?_⟩
      · have hicn : ¬ c ≤ lo := by omega
        have hn : ¬ c - lo = 0 := by omega
        go_simp
        try omega
      · refine ⟨_, c - lo, by rw [hpl], by omega, Or.inr ⟨b, o + lo * 3, rfl, Nat.lt_of_lt_of_le hb hb'.size, fun q x hq r u hr => ?_⟩⟩
        rw [List.getElem?_drop] at hq
        rw [show o + lo * 3 + q * 3 + r = o + (lo + q) * 3 + r by rw [Nat.add_mul]; omega]
        exact (hb'.cell (by exact hb)).trans (hcell _ x hq r u hr)
    · obtain rfl : lo = c := by omega
      have hll : l.length = lo := by omega
      refine ⟨.slice (some ⟨b, o, none⟩) 0 0, fun w => ?_, fun w' hb' => ⟨some ⟨b, o, none⟩, 0, by rw [hpl, hll, Nat.sub_self], by omega, Or.inl (List.eq_nil_of_length_eq_zero (by omega))⟩⟩
      rw [hll]
      go_simp


/-- A row of the statement's own, above the world w0. -/
structure Acc (w0 w : World) (v : Value) (ps : List (Sp × Value)) : Prop where
  bel : Below w0.heap.size w0 w
  own : w.ownsRow w0.heap.size 61 3 v ps.length (ps.flatMap encT)
theorem bel_a {w0 w : World} (h : Below w0.heap.size w0 w) (o : Obj) : Below w0.heap.size w0 (w.alloc o) := h.alloc h.size o
theorem bel_d {w0 w : World} (h : Below w0.heap.size w0 w) : Below w0.heap.size w0 w.drew := h.drew
theorem Acc.go {w0 w w' : World} {v : Value} {ps : List (Sp × Value)} (h : Acc w0 w v ps) (hb : Below w.heap.size w w') : Acc w0 w' v ps :=
  ⟨h.bel.trans (hb.mono h.bel.size), own_keep h.own (Keep.of_below (S := fun _ => False) hb) (fun _ _ h => h)⟩
theorem Acc.alloc {w0 w : World} {v : Value} {ps : List (Sp × Value)} (h : Acc w0 w v ps) (o : Obj) : Acc w0 (w.alloc o) v ps := h.go ((Below.refl _ _).alloc (Nat.le_refl _) _)
theorem Acc.drew {w0 w : World} {v : Value} {ps : List (Sp × Value)} (h : Acc w0 w v ps) : Acc w0 w.drew v ps := h.go (Below.refl _ _).drew
theorem Acc.lit {w0 w : World} (hb : Below w0.heap.size w0 w) : Acc w0 (w.alloc (.cells #[] 61)) (.slice (some ⟨w.heap.size, 0, none⟩) 0 0) [] :=
  ⟨bel_a hb _, World.ownsRow_lit w #[] 0 hb.size (Nat.zero_le _) rfl⟩
theorem Acc.lit2 {w0 w : World} (hb : Below w0.heap.size w0 w) (o : Obj) : Acc w0 ((w.alloc o).alloc (.cells #[] 61)) (.slice (some ⟨w.heap.size + 1, 0, none⟩) 0 0) [] := by
  have h := Acc.lit (bel_a hb o)
  rw [show (w.alloc o).heap.size = w.heap.size + 1 by simp] at h
  exact h
/-- A slice of one span, as a literal lays it. -/
theorem one_rk {w : World} {g : Nat} {a b c : Value} {t : TypeId} {fr : Nat × Nat} {p : Sp × Value} (h : w.heap[g]? = some (.cells #[a, b, c] t fr)) (he : encT p = [a, b, c]) : Rk 3 encT w (.slice (some ⟨g, 0, none⟩) 1 1) [p] := by
  refine ⟨_, 1, rfl, Nat.le_refl _, Or.inr ⟨g, 0, rfl, lt_of_at h, fun j x hj q u hq => ?_⟩⟩
  match j, hj with
  | 0, hj =>
    simp at hj
    subst hj
    rw [Nat.zero_mul, Nat.zero_add, cell_at h]
    rw [he] at hq
    simpa using hq
theorem new_aT {w : World} (o o' : Obj) : ((w.alloc o).alloc o').heap[w.heap.size]? = some o := alloc_at (alloc_new w o) o'
theorem new_bT {w : World} (o o' : Obj) : ((w.alloc o).alloc o').heap[w.heap.size + 1]? = some o' := by
  have h := alloc_new (w.alloc o) o'
  rw [show (w.alloc o).heap.size = w.heap.size + 1 by simp] at h
  exact h
theorem step_sp {P : Program} (hP : P = Tryd.prog) {ops : Array Oper} {o : Oper} {a : Act} {w : World} {K : Act → World → Prop} {Q : Exit → Act → World → Prop} {E : Prop} {w0 : World} {vs vx : Value} {os ys : List (Sp × Value)} (hg : o.guard = none) (s x : Operand)
    (hop : o.op = Op.call { callee := Callee.builtin Builtin.append, args := #[s, x], argTypes := #[31, 31] }) (hs : a.eval s = vs) (hx : a.eval x = vx)
    (h : Acc w0 w vs os) (hu : Rk 3 encT w vx ys ∧ ∀ p ∈ ys, Tr w p.2 p.1.kids) (hl : os.length + ys.length ≤ 1000000)
    (hK : ∀ v' w', Acc w0 w' v' (os ++ ys) → (∀ k, k < w.heap.size → vs.ownBlock ≠ some k → w'.heap[k]? = w.heap[k]?) → K (a.put o.dst v') w') :
    if Region.wanted o (yielded ops a.tmps) = true then Oper.wp P o a w K Q else E := by
  subst hP
  obtain ⟨v', w', hr, hf, hk⟩ := run_append_sp h.own hu.1 hu.2 h.bel.size hl
  exact step_append_run hg s x _ _ hop _ _ hs hx v' w' hr (hK v' w' ⟨h.bel.grown hk h.bel.size (fun k hk => (h.own.lt k hk).1), hf⟩ (fun k hk1 hs1 => hk.block k hk1 (fun e => hs1 e.symm)))

end Go.Proofs.YtldllbmbcnipoaaDoor.Sp

namespace Go.Proofs.YtldllbmbcnipoaaDoor.Bt
open Go.RowKit
open Go.Proofs.YtldllbmbcnipoaaDoor.Tk (S S_of S_list S_size S_toList ret_int Rd)
open Go.Proofs.YtldllbmbcnipoaaDoor.Cm (calls_at)
open Go.Proofs.YtldllbmbcnipoaaDoor.Sp (Sp Tr ret_bool OkAns)
open Go.Proofs.YtldllbmbcnipoaaDoor.Bk (Bk)
set_option linter.unusedVariables false

def NumAns (w : World) (n : Int) (e : Ending) (w' : World) : Prop := e = .returned (.int .i64 n) ∧ Below w.heap.size w w'
mutual
theorem sp1W {R R' : Nat} (h : R ≤ R') : ∀ x : Sp, Sp.fitOne R x → Sp.fitOne R' x
  | .mk k s l, hf => by
    unfold Sp.fitOne at hf ⊢
    exact ⟨hf.1, Nat.le_trans hf.2.1 h, spW h l hf.2.2⟩
theorem spW {R R' : Nat} (h : R ≤ R') : ∀ l : List Sp, Sp.fitAll R l → Sp.fitAll R' l
  | [], _ => by unfold Sp.fitAll; trivial
  | x :: r, hf => by
    unfold Sp.fitAll at hf ⊢
    exact ⟨sp1W h x hf.1, spW h r hf.2⟩
end
mutual
theorem fitOne_wide {R R' : Nat} (h : R ≤ R') : ∀ x : Bk, fitOne R x → fitOne R' x
  | .mk k lv i ls ss l, hf => by
    rw [fitOne] at hf ⊢
    exact ⟨hf.1, hf.2.1, Nat.le_trans hf.2.2.1 h, fun s hs => Nat.le_trans (hf.2.2.2.1 s hs) h, spW h ss hf.2.2.2.2.1, fitAll_wide h l hf.2.2.2.2.2⟩
theorem fitAll_wide {R R' : Nat} (h : R ≤ R') : ∀ l : List Bk, fitAll R l → fitAll R' l
  | [], _ => by unfold fitAll; trivial
  | x :: r, hf => by
    unfold fitAll at hf ⊢
    exact ⟨fitOne_wide h x hf.1, fitAll_wide h r hf.2⟩
end
theorem fit47 {l : List Bk} (h : fitAll reachBytes l) : fitAll 140737488355328 l := fitAll_wide (by decide) l h

/-- How long texts are, by how much there is. -/
theorem ln_mem : ∀ {ls : List (List UInt8)} {s : List UInt8}, s ∈ ls → s.length ≤ lnTot ls
  | [], _, h => by cases h
  | x :: r, s, h => by
    rw [lnTot]
    rcases List.mem_cons.1 h with rfl | h
    · omega
    · have := ln_mem h; omega
mutual
theorem sp1T {R N : Nat} : ∀ x : Sp, Sp.fitOne R x → Sp.totOne x ≤ N → Sp.fitOne N x
  | .mk k s l, hf, ht => by
    rw [Sp.totOne_eq] at ht
    simp only [Sp.s, Sp.kids] at ht
    unfold Sp.fitOne at hf ⊢
    exact ⟨hf.1, by omega, spT l hf.2.2 (by omega)⟩
theorem spT {R N : Nat} : ∀ l : List Sp, Sp.fitAll R l → Sp.totAll l ≤ N → Sp.fitAll N l
  | [], _, _ => by unfold Sp.fitAll; trivial
  | x :: r, hf, ht => by
    rw [Sp.totAll_cons] at ht
    unfold Sp.fitAll at hf ⊢
    exact ⟨sp1T x hf.1 (by omega), spT r hf.2 (by omega)⟩
end
mutual
theorem fitOne_tt {R N : Nat} : ∀ x : Bk, fitOne R x → ttOne x ≤ N → fitOne N x
  | .mk k lv i ls ss l, hf, ht => by
    rw [ttOne] at ht
    rw [fitOne] at hf ⊢
    exact ⟨hf.1, hf.2.1, by omega, fun s hs => by have := ln_mem hs; omega, spT ss hf.2.2.2.2.1 (by omega), fitAll_tt l hf.2.2.2.2.2 (by omega)⟩
theorem fitAll_tt {R N : Nat} : ∀ l : List Bk, fitAll R l → ttAll l ≤ N → fitAll N l
  | [], _, _ => by unfold fitAll; trivial
  | x :: r, hf, ht => by
    rw [ttAll_cons] at ht
    unfold fitAll at hf ⊢
    exact ⟨fitOne_tt x hf.1 (by omega), fitAll_tt r hf.2 (by omega)⟩
end

theorem nilB (w : World) : TrB w (.slice none 0 0) [] := ⟨none, 0, rfl, ⟨Nat.le_refl _, by omega⟩, Or.inl rfl⟩
theorem nilS (w : World) : Tr w (.slice none 0 0) [] := ⟨none, 0, rfl, ⟨Nat.le_refl _, by omega⟩, Or.inl rfl⟩
theorem nilR (w : World) : Rd w (.slice none 0 0) [] := ⟨none, 0, rfl, Nat.le_refl _, Or.inl rfl⟩
/-- A literal of one block. -/
theorem litB {w : World} {k lv : Int} {i : List UInt8} {vl vs : Value} {ao : Option Addr} {n c : Nat} {ls : List (List UInt8)} {ss : List Sp} {ks : List Bk} (hrd : Rd w vl ls) (hsh : ls.length ≤ 9223372036854775807) (hsp : Tr w vs ss) (htr : TrB w (.slice ao n c) ks) (T : TypeId) :
    TrB (w.alloc (.cells #[.int .i64 k, .int .i64 lv, .string (S i), vl, vs, .slice ao n c] T)) (.slice (some ⟨w.heap.size, 0, none⟩) 1 1) [.mk k lv i ls ss ks] := by
  have hb : Below w.heap.size w (w.alloc (.cells #[.int .i64 k, .int .i64 lv, .string (S i), vl, vs, .slice ao n c] T)) := (Below.refl _ _).alloc (Nat.le_refl _) _
  have hn : n = ks.length := by obtain ⟨_, _, hv, _⟩ := htr; simp only [Value.slice.injEq] at hv; exact hv.2.1
  subst hn
  refine ⟨_, 1, rfl, ⟨Nat.le_refl _, by omega⟩, Or.inr ⟨w.heap.size, 0, rfl, by simp, ?_⟩⟩
  unfold trAll
  refine ⟨trOne_of (vl := vl) (vs := vs) (ao := ao) (cap := c) ⟨?_, ?_, ?_, ?_, ?_, ?_, hrd.below hb, hsh, hsp.below hb, htr.below hb⟩, by unfold trAll; trivial⟩
  · rw [World.cell?_alloc_new]; rfl
  · rw [World.cell?_alloc_new]; rfl
  · rw [World.cell?_alloc_new]; rfl
  · rw [World.cell?_alloc_new]; rfl
  · rw [World.cell?_alloc_new]; rfl
  · rw [World.cell?_alloc_new]; rfl

def awk : List Bk := [.mk 5 0 [] [] [] [.mk 3 0 [] [] [] []]]
theorem awk_rg : rgB awk = true := by decide +kernel
theorem awk_dp : dp awk = 1 := by decide +kernel
theorem awk_cnt : cnt awk = 2 := by decide +kernel
theorem awk_fit : fitAll 1048576 awk := by
  unfold awk
  simp only [fitAll, fitOne, Sp.fitAll, List.length_nil]
  simp
theorem awk_tt : ttAll awk ≤ 9000000 := by decide +kernel
def lst0 : List Bk := [.mk 6 0 [] [] [] []]
theorem lst0_rg : rgB lst0 = false := by decide +kernel
theorem lst0_fit : fitAll 1048576 lst0 := by
  unfold lst0
  simp only [fitAll, fitOne, Sp.fitAll, List.length_nil]
  simp
theorem lst0_tt : ttAll lst0 ≤ 9000000 := by decide +kernel

end Go.Proofs.YtldllbmbcnipoaaDoor.Bt

namespace Go.Proofs.YtldllbmbcnipoaaDoor.Nm
open Go.RowKit
open Go.Proofs.YtldllbmbcnipoaaDoor.Tk (S S_of S_list S_size S_toList S_app Rd RdI ret_int)
open Go.Proofs.YtldllbmbcnipoaaDoor.Cm (cell_at alloc_new Keep Keep.of_below calls_at Rz)
open Go.Proofs.YtldllbmbcnipoaaDoor.Sp (Sp Tr totAll plAll OkAns)
open Go.Proofs.YtldllbmbcnipoaaDoor.Bt (TrB ttAll ttOne lnTot szAll szOne smB rsameB_any)
open Go.Proofs.YtldllbmbcnipoaaDoor.Bk (Bk Tx)
set_option linter.unusedVariables false

theorem rz_of_rdi {w : World} {v : Value} {xs : List Int} (h : RdI 0 w v xs) : Rz w v xs := by
  obtain ⟨ao, cap, hv, hc, hx⟩ := h
  refine ⟨ao, cap, hv, hc, ?_⟩
  rcases hx with hx | ⟨b, hao, _, hlt, hcell⟩
  · exact Or.inl hx
  · exact Or.inr ⟨b, 0, hao, hlt, fun j x hj => by rw [Nat.zero_add]; exact hcell j x hj⟩
theorem rkI_rk (a l : List Tx) : Tk.rk a l = rkI a l := rfl
theorem pt_len (x : Bk) : (pt x).length ≤ ttOne x + 1 := by
  obtain ⟨q, lv, i, lns, ss, l⟩ := x
  have h1 := Tk.toks_len (plAll ss)
  have h2 := Sp.plAll_len ss
  have h3 := ln_len lns
  have h4 := tt_len l
  rw [ttOne]
  show (if q = 1 ∨ q = 2 then Tk.toks (plAll ss) else if q = 4 then lns else if q = 5 ∨ q = 6 ∨ q = 7 then keys l else if q = 8 then i :: lns else []).length ≤ _
  split
  · omega
  · split
    · omega
    · split
      · show (l.map bk1).length ≤ _
        rw [List.length_map]; omega
      · split
        · rw [List.length_cons]; omega
        · simp
/-- A block as a value. -/
def BkV (w : World) (x : Bk) (v : Value) : Prop := ∃ al as' ak cl cs ck, v = .agg #[.int .i64 x.kind, .int .i64 x.level, .string (S x.info), .slice al x.lines.length cl, .slice as' x.spans.length cs, .slice ak x.kids.length ck] ∧
  Rd w (.slice al x.lines.length cl) x.lines ∧ x.lines.length ≤ 9223372036854775807 ∧ Tr w (.slice as' x.spans.length cs) x.spans ∧ TrB w (.slice ak x.kids.length ck) x.kids
theorem BkV.below {w w' : World} {x : Bk} {v : Value} (h : BkV w x v) (hb : Below w.heap.size w w') : BkV w' x v := by
  obtain ⟨al, as', ak, cl, cs, ck, hv, h1, h2, h3, h4⟩ := h
  exact ⟨al, as', ak, cl, cs, ck, hv, h1.below hb, h2, h3.below hb, h4.below hb⟩
def IntA (w : World) (n : Int) (e : Ending) (w' : World) : Prop := e = .returned (.int .i64 n) ∧ Below w.heap.size w w'
end Go.Proofs.YtldllbmbcnipoaaDoor.Nm
