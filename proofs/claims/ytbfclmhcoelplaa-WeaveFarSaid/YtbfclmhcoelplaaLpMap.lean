/-
  MAPS whose keys are ints, made by the call: what stands at each key. No function of the program is named.
-/
import Derived.Test.YtbfclmhcoelplaaLpBack
import Derived.Maps.Own
namespace Go.Proofs.Ytbfclmhcoelplaa.Lp
open Go.RowKit Go.Proofs.Ytbfclmhcoelplaa.Cm
open Go.ChangeMaps (setBlock modify_eq_set)
set_option linter.unusedVariables false

def kz : Value → Option Int
  | .int .i64 x => some x
  | _ => none
def look : List MapEntry → Int → Option Value
  | [], _ => none
  | e :: l, z => if kz e.key = some z then some e.val else look l z
theorem kz_int {v : Value} {x : Int} (h : kz v = some x) : v = .int .i64 x := by
  unfold kz at h
  split at h
  · cases h; rfl
  · cases h
theorem find_at (z : Int) : ∀ (l : List MapEntry) (i : Nat), (∀ e ∈ l, ∃ x, kz e.key = some x) →
    (Instr.findNow (.int .i64) (.int .i64 z) l i = some none ∧ look l z = none) ∨
    ∃ j e, l[j]? = some e ∧ kz e.key = some z ∧ Instr.findNow (.int .i64) (.int .i64 z) l i = some (some (i + j, e.val)) ∧ look l z = some e.val ∧
      ∀ (v : Value) (z' : Int), look (l.set j { e with key := .int .i64 z, val := v }) z' = if z' = z then some v else look l z'
  | [], i, _ => Or.inl ⟨rfl, rfl⟩
  | e :: l, i, h => by
    obtain ⟨x, hx⟩ := h e (List.mem_cons_self ..)
    have hk := kz_int hx
    by_cases hxz : x = z
    · subst hxz
      refine Or.inr ⟨0, e, rfl, hx, ?_, ?_, fun v z' => ?_⟩
      · simp [Instr.findNow, Instr.sameNow, hk]
      · simp [look, hx]
      · rw [List.set_cons_zero]
        show (if kz (Value.int .i64 x) = some z' then some v else look l z') = _
        show (if some x = some z' then some v else look l z') = _
        by_cases e1 : z' = x
        · subst e1; simp
        · rw [if_neg (by simpa using fun h => e1 h.symm), if_neg e1]
          show _ = if kz e.key = some z' then some e.val else look l z'
          rw [hx, if_neg (by simpa using fun h => e1 h.symm)]
    · have hne : kz e.key ≠ some z := by rw [hx]; simpa using hxz
      have hstep : Instr.findNow (.int .i64) (.int .i64 z) (e :: l) i = Instr.findNow (.int .i64) (.int .i64 z) l (i + 1) := by
        have : (z == x) = false := by rw [beq_eq_false_iff_ne]; exact fun h => hxz h.symm
        simp [Instr.findNow, Instr.sameNow, hk, this]
      have hl : ∀ z', look (e :: l) z' = if kz e.key = some z' then some e.val else look l z' := fun _ => rfl
      rcases find_at z l (i + 1) (fun e' he' => h e' (List.mem_cons_of_mem _ he')) with ⟨h1, h2⟩ | ⟨j, e0, h1, h2, h3, h4, h5⟩
      · exact Or.inl ⟨hstep.trans h1, by rw [hl, if_neg hne, h2]⟩
      · refine Or.inr ⟨j + 1, e0, by simpa using h1, h2, by rw [hstep, h3]; congr 3; omega, by rw [hl, if_neg hne, h4], fun v z' => ?_⟩
        rw [List.set_cons_succ]
        show (if kz e.key = some z' then some e.val else look (l.set j _) z') = _
        rw [h5, hl]
        by_cases e1 : z' = z
        · subst e1; rw [if_neg hne, if_pos rfl, if_pos rfl]
        · rw [if_neg e1, if_neg e1]
theorem look_push (z : Int) (v : Value) (c : Nat) : ∀ (l : List MapEntry), look l z = none → ∀ z', look (l ++ [⟨.int .i64 z, v, c⟩]) z' = if z' = z then some v else look l z'
  | [], _, z' => by
    show (if some z = some z' then some v else none) = _
    by_cases e1 : z' = z
    · subst e1; simp
    · rw [if_neg (by simpa using fun h => e1 h.symm), if_neg e1]; rfl
  | e :: l, h, z' => by
    have h' : (if kz e.key = some z then some e.val else look l z) = none := h
    show (if kz e.key = some z' then some e.val else look (l ++ [_]) z') = if z' = z then some v else if kz e.key = some z' then some e.val else look l z'
    split at h'
    · cases h'
    · rename_i hne
      rw [look_push z v c l h' z']
      by_cases e1 : z' = z
      · subst e1; rw [if_neg hne, if_pos rfl, if_pos rfl]
      · rw [if_neg e1, if_neg e1]

/-- Block b is a map of at most n entries; at each key stands what f says. -/
def Mp (w : World) (b : Nat) (f : Int → Option Value) (n : Nat) : Prop :=
  ∃ es clock, w.heap[b]? = some (.map es clock) ∧ es.size ≤ n ∧ (∀ e ∈ es.toList, ∃ x, kz e.key = some x) ∧ ∀ z, look es.toList z = f z
theorem Mp.keep {S : Nat → Prop} {w w' : World} {b n : Nat} {f : Int → Option Value} (h : Mp w b f n) (k : Keep S w w') (hb : ¬ S b) : Mp w' b f n := by
  obtain ⟨es, c, h1, h2⟩ := h
  exact ⟨es, c, k.at h1 hb, h2⟩
theorem Mp.lt {w : World} {b n : Nat} {f : Int → Option Value} (h : Mp w b f n) : b < w.heap.size := by
  obtain ⟨es, c, h1, h2⟩ := h
  exact lt_of_at h1
theorem mp_made (w : World) : Mp (w.alloc (.map #[] 0)) w.heap.size (fun _ => none) 0 :=
  ⟨#[], 0, alloc_new w _, Nat.le_refl _, by simp, fun _ => rfl⟩
theorem run_check (em : Bool) (z : Int) (w : World) : (Instr.checkKey em 10000 3 (.int .i64 z)).run Try.prog w = .ok () w := by
  exact MapKept.run_checkKey Try.underlying3 (by simp [MapKept.IsKey]) em 9999
theorem Mp.lookup {w : World} {b n : Nat} {f : Int → Option Value} (h : Mp w b f n) (z : Int) :
    (Instr.lookup 81 (.map (some b)) (.int .i64 z) false).run Try.prog w = .ok ((f z).getD (.slice none 0 0)) w := by
  obtain ⟨es, c, h1, h2, h3, h4⟩ := h
  have hz : (zeroValue 99).run Try.prog w = .ok (.slice none 0 0) w := by kernel_rfl
  rcases find_at z es.toList 0 h3 with ⟨k1, k2⟩ | ⟨j, e, k1, k2, k3, k4, _⟩
  · have hf := MapKept.run_findKey (P := Try.prog) (w := w) Try.underlying3 k1
    rw [← h4 z, k2]
    simp [Instr.lookup, run_underlying Try.underlying81, MapKept.run_getObj_map h1, run_check, hf, hz, Result.andThen]
  · have hf := MapKept.run_findKey (P := Try.prog) (w := w) Try.underlying3 k3
    rw [← h4 z, k4]
    simp [Instr.lookup, run_underlying Try.underlying81, MapKept.run_getObj_map h1, run_check, hf, Result.andThen]
theorem Mp.update {w : World} {b n : Nat} {f : Int → Option Value} (h : Mp w b f n) (z : Int) (v : Value) :
    ∃ w', (Instr.mapUpdate 81 (.map (some b)) (.int .i64 z) v).run Try.prog w = .ok () w' ∧ Mp w' b (fun z' => if z' = z then some v else f z') (n + 1) ∧ w.grownBy w' (some b) := by
  obtain ⟨es, c, h1, h2, h3, h4⟩ := h
  have hg : ∀ o, w.grownBy (setBlock w b o) (some b) := fun o => ⟨rfl, rfl, rfl, by simp [setBlock], fun i _ hi => (MapKept.heap_set h1).2 i (fun e => hi (by rw [e]))⟩
  have hst : (Instr.keyThatStays (.int .i64 z) (.int .i64 z)).run Try.prog w = .ok (.int .i64 z) w := by simp [Instr.keyThatStays, Instr.sameBits]
  rcases find_at z es.toList 0 h3 with ⟨k1, k2⟩ | ⟨j, e, k1, k2, k3, k4, k5⟩
  · have hf := MapKept.run_findKey (P := Try.prog) (w := w) Try.underlying3 k1
    refine ⟨setBlock w b (.map (es.push ⟨.int .i64 z, v, c⟩) (c + 1)), ?_, ⟨_, _, (MapKept.heap_set h1).1, by simp; omega, ?_, fun z' => ?_⟩, hg _⟩
    · simp [Instr.mapUpdate, run_underlying Try.underlying81, MapKept.run_getObj_map h1, run_check, hf, MapKept.run_setObj_map _ h1, Result.andThen, setBlock]
    · intro x hx
      simp only [Array.toList_push, List.mem_append, List.mem_singleton] at hx
      rcases hx with hx | rfl
      · exact h3 x hx
      · exact ⟨z, rfl⟩
    · rw [Array.toList_push, look_push z v c _ k2 z', h4]
  · have hf := MapKept.run_findKey (P := Try.prog) (w := w) Try.underlying3 k3
    have hj : es[j]? = some e := by simpa using k1
    have hke := kz_int k2
    have hlist : (es.modify j (fun e' => { e' with key := .int .i64 z, val := v })).toList = es.toList.set j { e with key := .int .i64 z, val := v } := by
      rw [Array.toList_modify, modify_eq_set _ _ _ _ k1]
    refine ⟨setBlock w b (.map (es.modify j (fun e' => { e' with key := .int .i64 z, val := v })) c), ?_, ⟨_, _, (MapKept.heap_set h1).1, by simp; omega, ?_, fun z' => ?_⟩, hg _⟩
    · simp [Instr.mapUpdate, run_underlying Try.underlying81, MapKept.run_getObj_map h1, run_check, hf, hj, hke, hst, MapKept.run_setObj_map _ h1, Result.andThen, setBlock]
    · intro x hx
      rw [hlist] at hx
      rcases List.mem_or_eq_of_mem_set hx with hx | rfl
      · exact h3 x hx
      · exact ⟨z, rfl⟩
    · rw [hlist, k5 v z', h4]
end Go.Proofs.Ytbfclmhcoelplaa.Lp
