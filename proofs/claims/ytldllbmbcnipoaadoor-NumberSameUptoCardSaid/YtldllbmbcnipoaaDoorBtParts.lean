/-
  PARTS OF BLOCKS IN NORMAL FORM, in plain words. No program.
-/
import Derived.Test.YtldllbmbcnipoaaDoorBtPlain
import Derived.Test.YtldllbmbcnipoaaDoorPkNI
namespace Go.Proofs.YtldllbmbcnipoaaDoor.Bt
open Go.RowKit
open Go.Proofs.YtldllbmbcnipoaaDoor.Tk (S Rd)
open Go.Proofs.YtldllbmbcnipoaaDoor.Sp (Sp Tr)
open Go.Proofs.YtldllbmbcnipoaaDoor.Bk (Bk)
set_option linter.unusedVariables false

theorem allB_mem {li : Bool} : ∀ {l : List Bk} {p : Int}, allB li p l = true → ∀ x ∈ l, oneB li x = true
  | [], _, _, x, hx => by cases hx
  | y :: r, p, h, x, hx => by
    rw [allB_cons, Bool.and_eq_true, Bool.and_eq_true] at h
    rcases List.mem_cons.1 hx with rfl | hx
    · exact h.1.1
    · exact allB_mem h.2 x hx
theorem allB_start (li : Bool) {p : Int} (hp : p ≠ 6) : ∀ b : List Bk, allB li p b = allB li 0 b
  | [] => by rw [allB, allB]
  | y :: r => by
    rw [allB_cons, allB_cons, decide_eq_false hp, decide_eq_false (show ¬ ((0 : Int) = 6) by decide)]
def rule : Bk := .mk 3 0 [] [] [] []
theorem rule_one : oneB false rule = true := by decide +kernel
theorem allB_rule (b : List Bk) : ∀ (a : List Bk) (p : Int), allB false p (a ++ rule :: b) = (allB false p a && allB false 0 b)
  | [], p => by
    rw [List.nil_append, allB_cons, rule_one, show rule.kind = 3 from rfl, decide_eq_false (show ¬ ((3 : Int) = 6) by decide), allB_start false (show (3 : Int) ≠ 6 by decide), allB.eq_1]
    simp
  | x :: a, p => by
    rw [List.cons_append, allB_cons, allB_cons, allB_rule b a]
    simp only [Bool.and_assoc]
theorem dp_mem {l : List Bk} {x : Bk} (h : x ∈ l) : dp [x] ≤ dp l := by
  obtain ⟨s, t, rfl⟩ := List.append_of_mem h
  rw [show s ++ x :: t = s ++ ([x] ++ t) by simp, dp_app, dp_app]
  omega
theorem one_rg {l : List Bk} {x : Bk} (h : rgB l = true) (hx : x ∈ l) : rgB [x] = true := by
  obtain ⟨h1, h2⟩ := rg_parts h
  have h3 := dp_mem hx
  unfold rgB
  rw [allB_cons, allB_mem h1 x hx, decide_eq_true (show dp [x] ≤ 16 by omega)]
  simp [allB]
theorem item_rg (k : List Bk) : rgB [.mk 7 0 [] [] [] k] = false := by
  unfold rgB
  rw [allB_cons, oneB]
  simp
theorem two_rg {x : Bk} (h : x.kind = 6) : rgB [x, x] = false := by
  unfold rgB
  rw [allB_cons, allB_cons, h]
  simp
theorem kids_rg {l : List Bk} {x : Bk} (h : rgB l = true) (hx : x ∈ l) (hk : x.kind = 6) : rgB x.kids = false := by
  obtain ⟨h1, _⟩ := rg_parts h
  have h2 := allB_mem h1 x hx
  obtain ⟨k, lv, i, ls, ss, ks⟩ := x
  simp only [Bk.kind] at hk
  subst hk
  simp only [Bk.kids]
  rw [oneB] at h2
  cases ks with
  | nil => simp at h2
  | cons y r =>
    simp only [allB_cons] at h2
    unfold rgB
    rw [allB_cons]
    have hy : oneB true y = true := by
      simp at h2
      exact h2.2.1
    have hy7 : y.kind = 7 := by
      obtain ⟨k, lv, i, ls, ss, ks⟩ := y
      rw [oneB, Bool.and_eq_true] at hy
      have := hy.1
      simp at this
      exact this
    have hn : oneB false y = false := by
      obtain ⟨k, lv, i, ls, ss, ks⟩ := y
      simp only [Bk.kind] at hy7
      rw [oneB, hy7]
      simp
    rw [hn]
    simp
theorem mid_rg {a b : List Bk} (ha : rgB a = true) (hb : rgB b = true) : rgB (a ++ rule :: b) = true := by
  obtain ⟨a1, a2⟩ := rg_parts ha
  obtain ⟨b1, b2⟩ := rg_parts hb
  have hr : dp [rule] = 0 := by decide +kernel
  unfold rgB
  rw [allB_rule, a1, b1, show a ++ rule :: b = a ++ ([rule] ++ b) by simp, dp_app, dp_app, hr, decide_eq_true (by have := dp_ge b; omega)]
  rfl
theorem mid_tt (a b : List Bk) : ttAll (a ++ rule :: b) = ttAll a + ttAll b + 1 := by
  rw [ttAll_app, ttAll_cons, show ttOne rule = 1 from by decide +kernel]
  omega
theorem mid_sz (a b : List Bk) : szAll (a ++ rule :: b) = szAll a + szAll b + 1 := by
  rw [szAll_app, szAll_cons, show szOne rule = 1 from by decide +kernel]
  omega
theorem mid_fit {R : Nat} {a b : List Bk} (ha : fitAll R a) (hb : fitAll R b) : fitAll R (a ++ rule :: b) := by
  refine fitAll_app ha ?_
  unfold fitAll
  refine ⟨?_, hb⟩
  unfold rule
  rw [fitOne]
  simp [fitAll, Sp.fitAll]

/-- 's[k:k+1]'. -/
theorem sliceB {w : World} {b o n c : Nat} {l : List Bk} (h : TrB w (.slice (some ⟨b, o, none⟩) n c) l) (k : Nat) (hk : k < l.length) : TrB w (.slice (some ⟨b, o + k * 6, none⟩) 1 (c - k)) [l[k]] ∧ l.length ≤ c := by
  obtain ⟨ao, cap, hv, hc, hx⟩ := h
  simp only [Value.slice.injEq] at hv
  obtain ⟨rfl, rfl, rfl⟩ := hv
  rcases hx with hx | ⟨b', o', hao, hb, hx⟩
  · subst hx; exact absurd hk (Nat.not_lt_zero _)
  · simp only [Option.some.injEq, Addr.mk.injEq, and_true] at hao
    obtain ⟨rfl, rfl⟩ := hao
    refine ⟨⟨_, c - k, rfl, ⟨by simp only [List.length_cons, List.length_nil]; omega, by omega⟩, Or.inr ⟨b, o + k * 6, rfl, hb, ?_⟩⟩, hc.1⟩
    unfold trAll
    exact ⟨trAll_at l o hx k hk, by unfold trAll; trivial⟩
/-- Twice the same block. -/
theorem twoB {w : World} {b o : Nat} {x : Bk} {al as' ak : Option Addr} {cl cs ck : Nat} (h : Cells w b o x (.slice al x.lines.length cl) (.slice as' x.spans.length cs) ak ck) (T : TypeId) :
    TrB (w.alloc (.cells #[.int .i64 x.kind, .int .i64 x.level, .string (S x.info), .slice al x.lines.length cl, .slice as' x.spans.length cs, .slice ak x.kids.length ck, .int .i64 x.kind, .int .i64 x.level, .string (S x.info), .slice al x.lines.length cl, .slice as' x.spans.length cs, .slice ak x.kids.length ck] T)) (.slice (some ⟨w.heap.size, 0, none⟩) 2 2) [x, x] := by
  have hb : Below w.heap.size w (w.alloc (.cells #[.int .i64 x.kind, .int .i64 x.level, .string (S x.info), .slice al x.lines.length cl, .slice as' x.spans.length cs, .slice ak x.kids.length ck, .int .i64 x.kind, .int .i64 x.level, .string (S x.info), .slice al x.lines.length cl, .slice as' x.spans.length cs, .slice ak x.kids.length ck] T)) := (Below.refl _ _).alloc (Nat.le_refl _) _
  refine ⟨_, 2, rfl, ⟨Nat.le_refl _, by omega⟩, Or.inr ⟨w.heap.size, 0, rfl, by simp, ?_⟩⟩
  unfold trAll
  refine ⟨trOne_of (vl := .slice al x.lines.length cl) (vs := .slice as' x.spans.length cs) (ao := ak) (cap := ck) ⟨?_, ?_, ?_, ?_, ?_, ?_, h.rd.below hb, h.short, h.sp.below hb, h.tr.below hb⟩, ?_⟩
  · rw [World.cell?_alloc_new]; rfl
  · rw [World.cell?_alloc_new]; rfl
  · rw [World.cell?_alloc_new]; rfl
  · rw [World.cell?_alloc_new]; rfl
  · rw [World.cell?_alloc_new]; rfl
  · rw [World.cell?_alloc_new]; rfl
  unfold trAll
  refine ⟨trOne_of (vl := .slice al x.lines.length cl) (vs := .slice as' x.spans.length cs) (ao := ak) (cap := ck) ⟨?_, ?_, ?_, ?_, ?_, ?_, h.rd.below hb, h.short, h.sp.below hb, h.tr.below hb⟩, by unfold trAll; trivial⟩
  · rw [World.cell?_alloc_new]; rfl
  · rw [World.cell?_alloc_new]; rfl
  · rw [World.cell?_alloc_new]; rfl
  · rw [World.cell?_alloc_new]; rfl
  · rw [World.cell?_alloc_new]; rfl
  · rw [World.cell?_alloc_new]; rfl
end Go.Proofs.YtldllbmbcnipoaaDoor.Bt
