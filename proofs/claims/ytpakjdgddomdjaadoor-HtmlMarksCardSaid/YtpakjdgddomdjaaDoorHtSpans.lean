/-
  CONTRACTS of shapeOf, own, kids, placeAndKids, nothing, and of a page's spans (html): a struct with a function as its field tells how a span is shown.
-/
import Derived.Test.YtpakjdgddomdjaaDoorHtText
import Derived.Shelf.Abstract
import Derived.Laws.EntriesVeiled
namespace Go.Proofs.YtpakjdgddomdjaaDoor.Ht
open Go.RowKit Go.Shelf
open Go.Proofs.YtpakjdgddomdjaaDoor.Tk (S S_of S_list S_size S_toList S_app eq8 ne8 at_data len_data drop_all)
open Go.Proofs.YtpakjdgddomdjaaDoor.Cm (calls_at cell_at alloc_new alloc_at)
open Go.Proofs.YtpakjdgddomdjaaDoor.Sp (Sp Tr totAll totOne totAll_cons totAll_mem totAll_kids drop_cons)
open Go.Proofs.YtpakjdgddomdjaaDoor.Bk (Tx)
set_option linter.unusedVariables false

/-- What shows what stands between. -/
def fnOf (k : Int) : FuncId := if k = 1 ∨ k = 2 then 35 else if k = 3 then 36 else if k = 4 then 37 else 38
theorem fn_enters (k : Int) : ∀ args w, (callFunc (fnOf k) args).run Tryd.prog w = .ok (.enter (fnOf k) args) w := by
  unfold fnOf
  split
  · exact enters_of Tryd.func35 (by kernel_rfl) rfl
  · split
    · exact enters_of Tryd.func36 (by kernel_rfl) rfl
    · split
      · exact enters_of Tryd.func37 (by kernel_rfl) rfl
      · exact enters_of Tryd.func38 (by kernel_rfl) rfl
def shV (k : Int) : Value := .agg #[.string (S (bg k)), .string (S (en k)), .func (.func (fnOf k)) #[] #[]]
/-! A struct of three cells, stored. -/
theorem set3 {w : World} {b : Nat} {v0 v1 v2 u0 u1 u2 : Value} {T : TypeId} {fr : Nat × Nat} (h : w.heap[b]? = some (Obj.cells #[v0, v1, v2] T fr)) :
    (((w.setCell ⟨b, 0, none⟩ u0).setCell ⟨b, 1, none⟩ u1).setCell ⟨b, 2, none⟩ u2).heap[b]? = some (Obj.cells #[u0, u1, u2] T fr) :=
  Cm.set_at (Cm.set_at (Cm.set_at h 0 u0) 1 u1) 2 u2
theorem set3_below {w0 w : World} {B b : Nat} (h : Below B w0 w) (hb : B ≤ b) (u0 u1 u2 : Value) :
    Below B w0 (((w.setCell ⟨b, 0, none⟩ u0).setCell ⟨b, 1, none⟩ u1).setCell ⟨b, 2, none⟩ u2) :=
  ((h.setCell (p := ⟨b, 0, none⟩) hb u0).setCell (p := ⟨b, 1, none⟩) hb u1).setCell (p := ⟨b, 2, none⟩) hb u2
set_option maxHeartbeats 800000 in
theorem shapeOf_any (k : Int) (w : World) :
    Calls Tryd.prog 28 #[.int .i64 k] w fun e w' => e = .returned (shV k) ∧ Below w.heap.size w w' := by
  unfold shV
  by_cases h1 : k = 1
  · subst h1
    have hv : Value.agg #[.string (S (bg 1)), .string (S (en 1)), .func (.func (fnOf 1)) #[] #[]] = .agg #[.string ⟨#[]⟩, .string ⟨#[]⟩, .func (.func 35) #[] #[]] := rfl
    rw [hv]
    have HA := alloc_new w (.cells #[.string ⟨#[]⟩, .string ⟨#[]⟩, .func (.func 35) #[] #[]] 59)
    have HB := Lib.hid ((Below.refl w.heap.size w).alloc (Nat.le_refl _) (.cells #[.string ⟨#[]⟩, .string ⟨#[]⟩, .func (.func 35) #[] #[]] 59))
    have r0 : (w.alloc (.cells #[.string ⟨#[]⟩, .string ⟨#[]⟩, .func (.func 35) #[] #[]] 59)).cell? ⟨w.heap.size, 0, none⟩ = some (.string ⟨#[]⟩) := cell_at HA 0
    have r1 : (w.alloc (.cells #[.string ⟨#[]⟩, .string ⟨#[]⟩, .func (.func 35) #[] #[]] 59)).cell? ⟨w.heap.size, 1, none⟩ = some (.string ⟨#[]⟩) := cell_at HA 1
    have r2 : (w.alloc (.cells #[.string ⟨#[]⟩, .string ⟨#[]⟩, .func (.func 35) #[] #[]] 59)).cell? ⟨w.heap.size, 2, none⟩ = some (.func (.func 35) #[] #[]) := cell_at HA 2
    clear HA hv
    go_enter Tryd.func28, Tryd.ntmps28
    go_wp2_with fail
    exact bodyPost_ret (v := .agg #[.string ⟨#[]⟩, .string ⟨#[]⟩, .func (.func 35) #[] #[]]) (by simp [results, Tryd.results28, go_sem, r0, r1, r2]) rfl ⟨rfl, HB.out⟩
  by_cases h2 : k = 2
  · subst h2
    have hv : Value.agg #[.string (S (bg 2)), .string (S (en 2)), .func (.func (fnOf 2)) #[] #[]] = .agg #[.string ⟨#[60, 99, 111, 100, 101, 62]⟩, .string ⟨#[60, 47, 99, 111, 100, 101, 62]⟩, .func (.func 35) #[] #[]] := rfl
    rw [hv]
    have HA := alloc_new w (.cells #[.string ⟨#[60, 99, 111, 100, 101, 62]⟩, .string ⟨#[60, 47, 99, 111, 100, 101, 62]⟩, .func (.func 35) #[] #[]] 59)
    have HB := Lib.hid ((Below.refl w.heap.size w).alloc (Nat.le_refl _) (.cells #[.string ⟨#[60, 99, 111, 100, 101, 62]⟩, .string ⟨#[60, 47, 99, 111, 100, 101, 62]⟩, .func (.func 35) #[] #[]] 59))
    have r0 : (w.alloc (.cells #[.string ⟨#[60, 99, 111, 100, 101, 62]⟩, .string ⟨#[60, 47, 99, 111, 100, 101, 62]⟩, .func (.func 35) #[] #[]] 59)).cell? ⟨w.heap.size, 0, none⟩ = some (.string ⟨#[60, 99, 111, 100, 101, 62]⟩) := cell_at HA 0
    have r1 : (w.alloc (.cells #[.string ⟨#[60, 99, 111, 100, 101, 62]⟩, .string ⟨#[60, 47, 99, 111, 100, 101, 62]⟩, .func (.func 35) #[] #[]] 59)).cell? ⟨w.heap.size, 1, none⟩ = some (.string ⟨#[60, 47, 99, 111, 100, 101, 62]⟩) := cell_at HA 1
    have r2 : (w.alloc (.cells #[.string ⟨#[60, 99, 111, 100, 101, 62]⟩, .string ⟨#[60, 47, 99, 111, 100, 101, 62]⟩, .func (.func 35) #[] #[]] 59)).cell? ⟨w.heap.size, 2, none⟩ = some (.func (.func 35) #[] #[]) := cell_at HA 2
    clear HA hv
    go_enter Tryd.func28, Tryd.ntmps28
    go_wp2_with fail
    exact bodyPost_ret (v := .agg #[.string ⟨#[60, 99, 111, 100, 101, 62]⟩, .string ⟨#[60, 47, 99, 111, 100, 101, 62]⟩, .func (.func 35) #[] #[]]) (by simp [results, Tryd.results28, go_sem, r0, r1, r2]) rfl ⟨rfl, HB.out⟩
  by_cases h3 : k = 3
  · subst h3
    have hv : Value.agg #[.string (S (bg 3)), .string (S (en 3)), .func (.func (fnOf 3)) #[] #[]] = .agg #[.string ⟨#[60, 101, 109, 62]⟩, .string ⟨#[60, 47, 101, 109, 62]⟩, .func (.func 36) #[] #[]] := rfl
    rw [hv]
    have HA := alloc_new w (.cells #[.string ⟨#[60, 101, 109, 62]⟩, .string ⟨#[60, 47, 101, 109, 62]⟩, .func (.func 36) #[] #[]] 59)
    have HB := Lib.hid ((Below.refl w.heap.size w).alloc (Nat.le_refl _) (.cells #[.string ⟨#[60, 101, 109, 62]⟩, .string ⟨#[60, 47, 101, 109, 62]⟩, .func (.func 36) #[] #[]] 59))
    have r0 : (w.alloc (.cells #[.string ⟨#[60, 101, 109, 62]⟩, .string ⟨#[60, 47, 101, 109, 62]⟩, .func (.func 36) #[] #[]] 59)).cell? ⟨w.heap.size, 0, none⟩ = some (.string ⟨#[60, 101, 109, 62]⟩) := cell_at HA 0
    have r1 : (w.alloc (.cells #[.string ⟨#[60, 101, 109, 62]⟩, .string ⟨#[60, 47, 101, 109, 62]⟩, .func (.func 36) #[] #[]] 59)).cell? ⟨w.heap.size, 1, none⟩ = some (.string ⟨#[60, 47, 101, 109, 62]⟩) := cell_at HA 1
    have r2 : (w.alloc (.cells #[.string ⟨#[60, 101, 109, 62]⟩, .string ⟨#[60, 47, 101, 109, 62]⟩, .func (.func 36) #[] #[]] 59)).cell? ⟨w.heap.size, 2, none⟩ = some (.func (.func 36) #[] #[]) := cell_at HA 2
    clear HA hv
    go_enter Tryd.func28, Tryd.ntmps28
    go_wp2_with fail
    exact bodyPost_ret (v := .agg #[.string ⟨#[60, 101, 109, 62]⟩, .string ⟨#[60, 47, 101, 109, 62]⟩, .func (.func 36) #[] #[]]) (by simp [results, Tryd.results28, go_sem, r0, r1, r2]) rfl ⟨rfl, HB.out⟩
  by_cases h4 : k = 4
  · subst h4
    have hv : Value.agg #[.string (S (bg 4)), .string (S (en 4)), .func (.func (fnOf 4)) #[] #[]] = .agg #[.string ⟨#[60, 97, 32, 104, 114, 101, 102, 61, 34]⟩, .string ⟨#[60, 47, 97, 62]⟩, .func (.func 37) #[] #[]] := rfl
    rw [hv]
    have HA := alloc_new w (.cells #[.string ⟨#[60, 97, 32, 104, 114, 101, 102, 61, 34]⟩, .string ⟨#[60, 47, 97, 62]⟩, .func (.func 37) #[] #[]] 59)
    have HB := Lib.hid ((Below.refl w.heap.size w).alloc (Nat.le_refl _) (.cells #[.string ⟨#[60, 97, 32, 104, 114, 101, 102, 61, 34]⟩, .string ⟨#[60, 47, 97, 62]⟩, .func (.func 37) #[] #[]] 59))
    have r0 : (w.alloc (.cells #[.string ⟨#[60, 97, 32, 104, 114, 101, 102, 61, 34]⟩, .string ⟨#[60, 47, 97, 62]⟩, .func (.func 37) #[] #[]] 59)).cell? ⟨w.heap.size, 0, none⟩ = some (.string ⟨#[60, 97, 32, 104, 114, 101, 102, 61, 34]⟩) := cell_at HA 0
    have r1 : (w.alloc (.cells #[.string ⟨#[60, 97, 32, 104, 114, 101, 102, 61, 34]⟩, .string ⟨#[60, 47, 97, 62]⟩, .func (.func 37) #[] #[]] 59)).cell? ⟨w.heap.size, 1, none⟩ = some (.string ⟨#[60, 47, 97, 62]⟩) := cell_at HA 1
    have r2 : (w.alloc (.cells #[.string ⟨#[60, 97, 32, 104, 114, 101, 102, 61, 34]⟩, .string ⟨#[60, 47, 97, 62]⟩, .func (.func 37) #[] #[]] 59)).cell? ⟨w.heap.size, 2, none⟩ = some (.func (.func 37) #[] #[]) := cell_at HA 2
    clear HA hv
    go_enter Tryd.func28, Tryd.ntmps28
    go_wp2_with fail
    exact bodyPost_ret (v := .agg #[.string ⟨#[60, 97, 32, 104, 114, 101, 102, 61, 34]⟩, .string ⟨#[60, 47, 97, 62]⟩, .func (.func 37) #[] #[]]) (by simp [results, Tryd.results28, go_sem, r0, r1, r2]) rfl ⟨rfl, HB.out⟩
  have hv : Value.agg #[.string (S (bg k)), .string (S (en k)), .func (.func (fnOf k)) #[] #[]] = .agg #[.string ⟨#[]⟩, .string ⟨#[]⟩, .func (.func 38) #[] #[]] := by
    unfold bg en fnOf
    rw [if_neg h2, if_neg h3, if_neg h4, if_neg h2, if_neg h3, if_neg h4, if_neg (by omega), if_neg h3, if_neg h4]
    rfl
  have e1 : (k == 1) = false := by rw [beq_eq_false_iff_ne]; exact h1
  have e2 : (k == 2) = false := by rw [beq_eq_false_iff_ne]; exact h2
  have e3 : (k == 3) = false := by rw [beq_eq_false_iff_ne]; exact h3
  have e4 : (k == 4) = false := by rw [beq_eq_false_iff_ne]; exact h4
  rw [hv]
  have HA := alloc_new w (.cells #[.string ⟨#[]⟩, .string ⟨#[]⟩, .func (.func 38) #[] #[]] 59)
  have HB := Lib.hid ((Below.refl w.heap.size w).alloc (Nat.le_refl _) (.cells #[.string ⟨#[]⟩, .string ⟨#[]⟩, .func (.func 38) #[] #[]] 59))
  have r0 : (w.alloc (.cells #[.string ⟨#[]⟩, .string ⟨#[]⟩, .func (.func 38) #[] #[]] 59)).cell? ⟨w.heap.size, 0, none⟩ = some (.string ⟨#[]⟩) := cell_at HA 0
  have r1 : (w.alloc (.cells #[.string ⟨#[]⟩, .string ⟨#[]⟩, .func (.func 38) #[] #[]] 59)).cell? ⟨w.heap.size, 1, none⟩ = some (.string ⟨#[]⟩) := cell_at HA 1
  have r2 : (w.alloc (.cells #[.string ⟨#[]⟩, .string ⟨#[]⟩, .func (.func 38) #[] #[]] 59)).cell? ⟨w.heap.size, 2, none⟩ = some (.func (.func 38) #[] #[]) := cell_at HA 2
  clear HA hv
  go_enter Tryd.func28, Tryd.ntmps28
  go_wp2_with fail
  exact bodyPost_ret (v := .agg #[.string ⟨#[]⟩, .string ⟨#[]⟩, .func (.func 38) #[] #[]]) (by simp [results, Tryd.results28, go_sem, r0, r1, r2]) rfl ⟨rfl, HB.out⟩

/-! The four ways. -/
def Ct (w : World) (v : Value) (B b N : Nat) (y : Tx) : Prop := ∀ (w' : World) (t : Tx), Below w.heap.size w w' → Pg B b t w' → B ≤ w'.heap.size → t.length + y.length ≤ N → Calls Tryd.prog 23 #[.pointer (some ⟨b, 0, none⟩), v] w' fun e w'' => e = .returned (.tuple #[]) ∧ PgAns B b (t ++ y) w' w''
theorem pg_lt {B b : Nat} {t : Tx} {w : World} (h : Pg B b t w) : b < w.heap.size := by
  rcases h with h | h
  · exact h.lt
  · exact h.lt
set_option maxHeartbeats 1600000 in
theorem betw_any (k : Int) (s y t : Tx) (ak : Option Addr) (kn ck B b : Nat) (w0 w : World) (hw : Below w0.heap.size w0 w) (h : Pg B b t w) (hBw : B ≤ w.heap.size) (hw0 : w0.heap.size ≤ B) (hlen : t.length + (mid k s y).length ≤ 140737488355328)
    (hy : Ct w0 (.slice ak kn ck) B b 140737488355328 y) :
    Calls Tryd.prog (fnOf k) #[.pointer (some ⟨b, 0, none⟩), .agg #[.int .i64 k, .string (S s), .slice ak kn ck]] w fun e w' => e = .returned (.tuple #[]) ∧ PgAns B b (t ++ mid k s y) w w' := by
  have hel := (he_len s).2
  have HB1 := Lib.hid ((Below.refl w.heap.size w).alloc (Nat.le_refl _) (.cells #[.int .i64 k, .string (S s), .slice ak kn ck] 37))
  have hC := alloc_new w (.cells #[.int .i64 k, .string (S s), .slice ak kn ck] 37)
  have P1 := Lib.hid (h.below HB1.out)
  have HG := Lib.hid ((PgAns.refl h).more hBw HB1.out)
  have hne : b ≠ w.heap.size := by have := pg_lt h; omega
  have hw1 := hw.trans (HB1.out.mono hw.size)
  have sz1 : (S s).size = s.length := S_size _
  have HT := Lib.hid (fun hl => textP_any B b t (S s) _ P1.out (by rw [S_list]; exact hl) (Nat.le_trans hBw HB1.out.size))
  simp only [S_list] at HT
  have HY := Lib.hid hy
  have HW1 := Lib.hid hw1
  have hBs := Nat.le_trans hBw HB1.out.size
  unfold mid at hlen
  unfold fnOf mid
  clear h hy hw1
  by_cases h1 : k = 1 ∨ k = 2
  · rw [if_pos h1, if_pos h1]
    rw [if_pos h1] at hlen
    have HT := Lib.hid (HT.out hlen)
    clear HY HW1 h1
    go_enter Tryd.func35, Tryd.ntmps35
    go_upto_region 1 with fail
    generalize w.alloc (.cells #[.int .i64 k, .string (S s), .slice ak kn ck] 37) = w1 at *
    have k1 : w1.cell? ⟨w.heap.size, 1, none⟩ = some (.string (S s)) := cell_at hC 1
    clear hC
    go_wp2_with fail
    refine HT.out.mono ?_
    rintro e w2 ⟨rfl, b2⟩
    have HR := Lib.hid (HG.out.trans b2)
    clear b2 HT HG
    go_wp2_with fail
    go_end0
    exact ⟨rfl, HR.out⟩
  rw [if_neg h1, if_neg h1]
  rw [if_neg h1] at hlen
  by_cases h3 : k = 3
  · rw [if_pos h3, if_pos h3]
    rw [if_pos h3] at hlen
    clear h3 h1
    have HYw := Lib.hid (HY.out _ t HW1.out P1.out hBs (by omega))
    clear HY HW1 HT
    go_enter Tryd.func36, Tryd.ntmps36
    go_upto_region 1 with fail
    generalize w.alloc (.cells #[.int .i64 k, .string (S s), .slice ak kn ck] 37) = w1 at *
    have k2 : w1.cell? ⟨w.heap.size, 2, none⟩ = some (.slice ak kn ck) := cell_at hC 2
    clear hC
    go_wp2_with fail
    refine HYw.out.mono ?_
    rintro e w2 ⟨rfl, b2⟩
    have HR := Lib.hid (HG.out.trans b2)
    clear b2 HYw HG
    go_wp2_with fail
    go_end0
    exact ⟨rfl, HR.out⟩
  rw [if_neg h3, if_neg h3]
  rw [if_neg h3] at hlen
  by_cases h4 : k = 4
  · rw [if_pos h4, if_pos h4]
    rw [if_pos h4, List.length_append, List.length_cons, List.length_cons] at hlen
    have HT := Lib.hid (HT.out (by omega))
    clear h4 h3 h1
    go_enter Tryd.func37, Tryd.ntmps37
    go_upto_region 1 with fail
    generalize w.alloc (.cells #[.int .i64 k, .string (S s), .slice ak kn ck] 37) = w1 at *
    have k1 : w1.cell? ⟨w.heap.size, 1, none⟩ = some (.string (S s)) := cell_at hC 1
    have HC := Lib.hid hC
    clear hC
    go_wp2_with fail
    refine HT.out.mono ?_
    rintro e w2 ⟨rfl, b2⟩
    have HC2 := Lib.hid (b2.keeps hne (by decide) HC.out)
    have HG2 := Lib.hid (HG.out.trans b2)
    have HB2 := Lib.hid (b2.size hBs)
    have HPu := Lib.hid (putP_any B b (t ++ he s) ⟨#[34, 62]⟩ w2 b2.pg (by rw [List.length_append]; show _ + 2 ≤ _; omega) HB2.out)
    have HW2 := Lib.hid (HW1.out.trans (b2.bel.mono hw0))
    clear b2 HT HG HC
    go_wp2_with fail
    refine HPu.out.mono ?_
    rintro e w3 ⟨rfl, b3⟩
    have k2 : w3.cell? ⟨w.heap.size, 2, none⟩ = some (.slice ak kn ck) := cell_at (b3.keeps hne (by decide) HC2.out) 2
    have HYw := Lib.hid (HY.out w3 (t ++ he s ++ [34, 62]) (HW2.out.trans (b3.bel.mono hw0)) b3.pg (b3.size HB2.out) (by rw [List.length_append, List.length_append]; show _ + 2 + _ ≤ _; omega))
    have HG3 := Lib.hid (HG2.out.trans b3)
    clear b3 HPu HG2 HC2 HW2 HY HW1
    go_wp2_with fail
    refine HYw.out.mono ?_
    rintro e w4 ⟨rfl, b4⟩
    have HR : Hid (PgAns B b (t ++ (he s ++ 34 :: 62 :: y)) w w4) := Lib.hid (by simpa using HG3.out.trans b4)
    clear b4 HYw HG3
    go_wp2_with fail
    go_end0
    exact ⟨rfl, HR.out⟩
  · rw [if_neg h4, if_neg h4, List.append_nil]
    clear HY HW1 HT hC
    go_enter Tryd.func38, Tryd.ntmps38
    go_wp2_with fail
    go_end0
    exact ⟨rfl, HG.out⟩

/-! Spans, in order. -/
theorem hs_one (x : Sp) (r : List Sp) (t p : Tx) : t ++ p ++ hsAll (x :: r) = t ++ (p ++ bg x.kind ++ mid x.kind x.s (hsAll x.kids) ++ en x.kind) ++ hsAll r := by
  rw [hsAll_cons, hsOne_eq]
  simp only [List.append_assoc]
set_option maxHeartbeats 6400000 in
set_option maxRecDepth 100000 in
theorem spansP_any (m : Nat) : ∀ (l : List Sp) (v : Value) (w0 w : World) (t : Tx) (b : Nat), totAll l ≤ m → Tr w0 v l → Below w0.heap.size w0 w → Pg w0.heap.size b t w → t.length + (hsAll l).length ≤ 140737488355328 →
    Calls Tryd.prog 23 #[.pointer (some ⟨b, 0, none⟩), v] w fun e w' => e = .returned (.tuple #[]) ∧ PgAns w0.heap.size b (t ++ hsAll l) w w' := by
  induction m using Nat.strongRecOn with
  | ind m ih =>
    intro l v w0 w t b hm ht hbw hp hN
    obtain ⟨ao, ca, rfl⟩ := ht.len
    have T := Lib.hid ht
    have hlen := ht.short
    have HIH : Hid (∀ k (hk : k < l.length) (v' : Value) (w' : World) (q : Tx), Tr w0 v' l[k].kids → Below w0.heap.size w0 w' → Pg w0.heap.size b q w' → q.length + (hsAll l[k].kids).length ≤ 140737488355328 →
        Calls Tryd.prog 23 #[.pointer (some ⟨b, 0, none⟩), v'] w' fun e w'' => e = .returned (.tuple #[]) ∧ PgAns w0.heap.size b (q ++ hsAll l[k].kids) w' w'') := Lib.hid (fun k hk v' w' q t' b' p' n' =>
      ih (totAll l[k].kids) (Nat.lt_of_lt_of_le (totAll_kids (List.getElem_mem hk)) hm) l[k].kids v' w0 w' q b (Nat.le_refl _) t' b' p' n')
    have H0 : Hid (PgAns w0.heap.size b (t ++ []) w w ∧ t ++ hsAll l = t ++ [] ++ hsAll (l.drop 0)) := Lib.hid ⟨by rw [List.append_nil]; exact PgAns.refl hp, by rw [List.drop_zero, List.append_nil]⟩
    have HNl : Hid ((t ++ hsAll l).length ≤ 140737488355328) := Lib.hid (by rw [List.length_append]; omega)
    have HBw := Lib.hid hbw
    obtain ⟨X, hX⟩ : ∃ X, t ++ hsAll l = X := ⟨_, rfl⟩
    rw [hX] at H0 HNl
    rw [hX]
    clear ih ht hm hX hbw hp hN
    go_enter Tryd.func23, Tryd.ntmps23
    go_wp2_with fail
    go_loopw [9] (fun i wr => ∃ (k : Nat) (p : Tx), k ≤ l.length ∧ i = .int .i64 k ∧ Hid (PgAns w0.heap.size b (t ++ p) w wr ∧ X = t ++ p ++ hsAll (l.drop k))) (fun i _ => l.length - (intOf i).toNat)
    case atStart => exact ⟨0, [], Nat.zero_le _, rfl, H0⟩
    case round =>
      clear H0
      obtain ⟨k, p, hk, rfl, HN⟩ := hrel
      by_cases hlt : k < l.length
      · have hi1 : (k : Int) < (l.length : Int) := by omega
        have hnx := HN.out.2
        rw [drop_cons l k hlt, hs_one] at hnx
        have HBr := Lib.hid (HBw.out.trans HN.out.1.bel)
        obtain ⟨bb, o, ak, ck, rfl, hb, hC⟩ := T.out.at k hlt
        have c0 := (HBr.out.cell (p := ⟨bb, o + k * 3, none⟩) hb).trans hC.kind
        have c1 := (HBr.out.cell (p := ⟨bb, o + k * 3 + 1, none⟩) hb).trans hC.s
        have c2 := (HBr.out.cell (p := ⟨bb, o + k * 3 + 2, none⟩) hb).trans hC.kids
        have HKt : Hid (Ct w0 (.slice ak l[k].kids.length ck) w0.heap.size b 140737488355328 (hsAll l[k].kids)) := Lib.hid (fun w' q hb' hp' _ hq => HIH.out k hlt _ w' q hC.tr hb' hp' hq)
        have hxl := congrArg List.length hnx
        have hnl := HNl.out
        simp only [List.length_append] at hxl
        have HX := Lib.hid hnx
        have HG := Lib.hid HN.out.1
        have HSh := Lib.hid (shapeOf_any l[k].kind)
        have hBs := HBr.out.size
        have hB0 := HBw.out.size
        clear hnx HN hC HIH T HNl
        generalize hsAll l[k].kids = y at *
        generalize l[k].kids.length = kn at *
        generalize l[k].kind = z at *
        generalize l[k].s = s at *
        unfold shV at HSh
        have HF := Lib.hid (fn_enters z)
        have HBt := Lib.hid (fun (w' : World) (q : Tx) (h1 : Below w0.heap.size w0 w') (h2 : Pg w0.heap.size b q w') (h3 : q.length + (mid z s y).length ≤ 140737488355328) => betw_any z s y q ak kn ck w0.heap.size b w0 w' h1 h2 h1.size (Nat.le_refl _) h3 HKt.out)
        have zb : (S (bg z)).size = (bg z).length := S_size _
        have ze : (S (en z)).size = (en z).length := S_size _
        have HP1 := Lib.hid (fun (w' : World) (h2 : Pg w0.heap.size b (t ++ p) w') (h3 : w0.heap.size ≤ w'.heap.size) => putP_any w0.heap.size b (t ++ p) (S (bg z)) w' h2 (by rw [zb, List.length_append]; omega) h3)
        have HP2 := Lib.hid (fun (w' : World) (h2 : Pg w0.heap.size b (t ++ p ++ bg z ++ mid z s y) w') (h3 : w0.heap.size ≤ w'.heap.size) => putP_any w0.heap.size b (t ++ p ++ bg z ++ mid z s y) (S (en z)) w' h2 (by rw [ze]; simp only [List.length_append]; omega) h3)
        simp only [S_list] at HP1 HP2
        have hlm : (t ++ p ++ bg z).length + (mid z s y).length ≤ 140737488355328 := by simp only [List.length_append]; omega
        have HXx : Hid (∀ w', PgAns w0.heap.size b (t ++ p ++ bg z ++ mid z s y ++ en z) w w' → (PgAns w0.heap.size b (t ++ (p ++ bg z ++ mid z s y ++ en z)) w w' ∧ X = t ++ (p ++ bg z ++ mid z s y ++ en z) ++ hsAll (l.drop (k + 1)))) := Lib.hid (fun w' h => ⟨by simpa only [List.append_assoc] using h, HX.out⟩)
        clear HX hxl HKt zb ze hnl
        generalize S (bg z) = sb at *
        generalize S (en z) = se at *
        generalize bg z = vb at *
        generalize en z = ve at *
        generalize mid z s y = vm at *
        generalize fnOf z = ff at *
        go_upto_region 3 with fail
        have hA1 := alloc_new wr (.cells #[.int .i64 z, .string (S s), .slice ak kn ck] 37)
        have hb1 : Below wr.heap.size wr (wr.alloc (.cells #[.int .i64 z, .string (S s), .slice ak kn ck] 37)) := (Below.refl wr.heap.size wr).alloc (Nat.le_refl _) _
        have HG1 := Lib.hid (HG.out.more hBs hb1)
        have hbs : b < wr.heap.size := pg_lt HG.out.pg
        have hz1 : wr.heap.size < (wr.alloc (.cells #[.int .i64 z, .string (S s), .slice ak kn ck] 37)).heap.size := by simp
        have k0 : (wr.alloc (.cells #[.int .i64 z, .string (S s), .slice ak kn ck] 37)).cell? ⟨wr.heap.size, 0, none⟩ = some (.int .i64 z) := cell_at hA1 0
        have HA1 := Lib.hid hA1
        clear hA1 hb1 c0 c1 c2 HG
        generalize wr.alloc (.cells #[.int .i64 z, .string (S s), .slice ak kn ck] 37) = w1 at *
        go_wp2_with fail
        refine (HSh.out w1).mono ?_
        rintro e w2 ⟨rfl, b2⟩
        have HA2 := Lib.hid ((Cm.Keep.of_below (S := fun _ => False) b2).at HA1.out (fun h => h))
        have HG2 := Lib.hid (HG1.out.more (HG1.out.size hB0) b2)
        have hz2 := Nat.lt_of_lt_of_le hz1 b2.size
        clear b2 HSh HA1 HG1
        go_upto_region 4 with fail
        have hA3 := alloc_new w2 (.cells #[.string sb, .string se, .func (.func ff) #[] #[]] 59)
        have hb3 : Below w2.heap.size w2 (w2.alloc (.cells #[.string sb, .string se, .func (.func ff) #[] #[]] 59)) := (Below.refl w2.heap.size w2).alloc (Nat.le_refl _) _
        have HA1 := Lib.hid ((Cm.Keep.of_below (S := fun _ => False) hb3).at HA2.out (fun h => h))
        have HG3 := Lib.hid (HG2.out.more (HG2.out.size hB0) hb3)
        have hne1 : b ≠ wr.heap.size := by omega
        have hne2 : b ≠ w2.heap.size := by omega
        have s0 : (w2.alloc (.cells #[.string sb, .string se, .func (.func ff) #[] #[]] 59)).cell? ⟨w2.heap.size, 0, none⟩ = some (.string sb) := cell_at hA3 0
        have HA3 := Lib.hid hA3
        clear hA3 hb3 HG2 HA2 k0
        generalize w2.alloc (.cells #[.string sb, .string se, .func (.func ff) #[] #[]] 59) = w3 at *
        have HP1w := Lib.hid (HP1.out w3 HG3.out.pg (HG3.out.size hB0))
        clear HP1
        go_wp2_with fail
        refine HP1w.out.mono ?_
        rintro e w4 ⟨rfl, b4⟩
        have hA4 := b4.keeps hne1 (by decide) HA1.out
        have hS4 := b4.keeps hne2 (by decide) HA3.out
        have HG4 := Lib.hid (HG3.out.trans b4)
        clear b4 HP1w HG3 HA1 HA3
        have k0 : w4.cell? ⟨wr.heap.size, 0, none⟩ = some (.int .i64 z) := cell_at hA4 0
        have k1 : w4.cell? ⟨wr.heap.size, 1, none⟩ = some (.string (S s)) := cell_at hA4 1
        have k2 : w4.cell? ⟨wr.heap.size, 2, none⟩ = some (.slice ak kn ck) := cell_at hA4 2
        have s2 : w4.cell? ⟨w2.heap.size, 2, none⟩ = some (.func (.func ff) #[] #[]) := cell_at hS4 2
        have e1f := HF.out
        have HS4 := Lib.hid hS4
        have HBw4 := Lib.hid (HBt.out w4 (t ++ p ++ vb) (HBw.out.trans HG4.out.bel) HG4.out.pg hlm)
        clear hA4 hS4 HBt
        go_wp2_with fail
        refine HBw4.out.mono ?_
        rintro e w5 ⟨rfl, b5⟩
        have s1 : w5.cell? ⟨w2.heap.size, 1, none⟩ = some (.string se) := cell_at (b5.keeps hne2 (by decide) HS4.out) 1
        have HG5 := Lib.hid (HG4.out.trans b5)
        have HP2w := Lib.hid (HP2.out w5 b5.pg (HG5.out.size hB0))
        clear b5 HG4 HBw4 HP2 HS4
        go_wp2_with fail
        refine HP2w.out.mono ?_
        rintro e w6 ⟨rfl, b6⟩
        have HR := Lib.hid (HXx.out w6 (HG5.out.trans b6))
        clear b6 HG5 HP2w HXx
        go_wp2_with fail
        go_roundw
        case rel => exact ⟨k + 1, p ++ vb ++ vm ++ ve, by omega, by go_num, HR⟩
        case measure => simp [intOf] <;> omega
      · obtain rfl : k = l.length := by omega
        have hnx := HN.out.2
        rw [List.drop_length] at hnx
        have HR : Hid (PgAns w0.heap.size b X w wr) := Lib.hid (by rw [hnx]; unfold hsAll; rw [List.append_nil]; exact HN.out.1)
        clear hnx HN hlt
        go_wp2_with fail
        go_end0
        exact ⟨rfl, HR.out⟩
theorem spansH_any (l : List Sp) (v : Value) (w : World) (ht : Tr w v l) (hn : (hsAll l).length ≤ 140737488355328) :
    Calls Tryd.prog 13 #[v] w fun e w' => e = .returned (.string (S (hsAll l))) ∧ Below w.heap.size w w' := by
  obtain ⟨ao, ca, rfl⟩ := ht.len
  have HB1 := Lib.hid ((Below.refl w.heap.size w).alloc (Nat.le_refl _) (.cells #[.pointer none, .slice none 0 0] 47))
  have HW := Lib.hid (spansP_any (totAll l) l _ w _ [] _ (Nat.le_refl _) ht HB1.out (Pg.begin w) (by rw [List.length_nil]; omega))
  rw [List.nil_append] at HW
  clear ht hn
  generalize hsAll l = y at *
  generalize l.length = n at *
  go_enter Tryd.func13, Tryd.ntmps13
  go_wp2_with fail
  refine HW.out.mono ?_
  rintro e w2 ⟨rfl, b2⟩
  have HB2 := Lib.hid (HB1.out.trans b2.bel)
  have HS := Lib.hid (stringP_any _ _ _ w2 b2.pg HB2.out.size)
  clear b2 HW
  go_wp2_with fail
  refine HS.out.mono ?_
  rintro e w3 ⟨rfl, b3⟩
  have HB3 := Lib.hid (HB2.out.trans b3)
  clear b3 HS
  go_wp2_with fail
  go_ret
  exact ⟨rfl, HB3.out⟩
end Go.Proofs.YtpakjdgddomdjaaDoor.Ht
