/-
  THREE LISTS WOVEN: chunks follow upon one another; one side the base; the sides exchanged; other names. No program.
-/
import Derived.Test.YtipgofglidmffaaWvPlain
namespace Go.Proofs.Ytipgofglidmffaa.Wv
open Go.Proofs.Ytipgofglidmffaa.Lc
set_option linter.unusedVariables false

section
variable {B O T : List Int} {k q : Nat → Option Nat}
/-- Chunks follow upon one another, from three places on, to the ends. -/
def Cov (B O T : List Int) : List Ch → Nat → Nat → Nat → Prop
  | [], x, y, z => x = B.length ∧ y = O.length ∧ z = T.length
  | c :: l, x, y, z => c.b1 = x ∧ c.o1 = y ∧ c.t1 = z ∧ x ≤ c.b2 ∧ y ≤ c.o2 ∧ z ≤ c.t2 ∧ x + y + z < c.b2 + c.o2 + c.t2 ∧ c.b2 ≤ B.length ∧ c.o2 ≤ O.length ∧ c.t2 ≤ T.length ∧ (1 ≤ c.out ∧ c.out ≤ 5) ∧
      (∀ d, l.head? = some d → (c.out = 1 ↔ d.out ≠ 1)) ∧ Cov B O T l c.b2 c.o2 c.t2
theorem ch_head (K : Keeps B O k) (Q : Keeps B T q) {x y z : Nat} (I : Inv B O T k q x y z) (f : Nat) (d : Ch) (h : (ch B O T k q f x y z).head? = some d) : d.out = 1 ↔ runs B k q x y z ≠ 0 := by
  by_cases hr : x < B.length ∨ y < O.length ∨ z < T.length
  · cases f with
    | zero => simp [ch] at h
    | succ f =>
      obtain ⟨x', y', z', o, he, _, _, _, _, _, hc⟩ := ch_step K Q I f hr
      rw [he] at h
      simp at h
      subst h
      rcases hc with ⟨rfl, n, hn, rfl, _⟩ | ⟨rfl, h0, _⟩
      · exact ⟨fun _ => hn, fun _ => rfl⟩
      · have := outc_pos (part B x x') (part O y y') (part T z z')
        exact ⟨fun e => by change outc _ _ _ = 1 at e; omega, fun e => absurd h0 e⟩
  · rw [ch_end f x y z hr] at h; simp at h
theorem runs_pos {x y z : Nat} (hx : x < B.length) (h : k x = some y ∧ q x = some z) : runs B k q x y z ≠ 0 := by
  unfold runs
  rw [show B.length - x = (B.length - (x + 1)) + 1 by omega, rn, if_pos h]
  omega
theorem runs_no {x y z : Nat} (h : x < B.length → ¬ (k x = some y ∧ q x = some z)) : runs B k q x y z = 0 := by
  unfold runs
  by_cases hx : x < B.length
  · rw [show B.length - x = (B.length - (x + 1)) + 1 by omega, rn, if_neg (h hx)]
  · rw [show B.length - x = 0 by omega, rn]
theorem ch_cov (K : Keeps B O k) (Q : Keeps B T q) : ∀ (f x y z : Nat), Inv B O T k q x y z → rest B O T x y z ≤ f → Cov B O T (ch B O T k q f x y z) x y z
  | f, x, y, z, I, hf => by
    have b1 := I.bx
    have b2 := I.by'
    have b3 := I.bz
    by_cases hr : x < B.length ∨ y < O.length ∨ z < T.length
    · unfold rest at hf
      match f, hf with
      | 0, hf => omega
      | f + 1, hf =>
        obtain ⟨x', y', z', o, he, I', h1, h2, h3, h4, hc⟩ := ch_step K Q I f hr
        have c1 := I'.bx
        have c2 := I'.by'
        have c3 := I'.bz
        rw [he]
        refine ⟨rfl, rfl, rfl, h1, h2, h3, h4, c1, c2, c3, ?_, fun d hd => ?_, ch_cov K Q f x' y' z' I' (by unfold rest; omega)⟩
        · rcases hc with ⟨rfl, _⟩ | ⟨rfl, _⟩
          · exact ⟨Nat.le_refl _, by show 1 ≤ 5; omega⟩
          · have := outc_pos (part B x x') (part O y y') (part T z z')
            exact ⟨by show 1 ≤ outc _ _ _; omega, this.2⟩
        · have hh := ch_head K Q I' f d hd
          rcases hc with ⟨rfl, n, hn, _, _, _, _, _, hstop⟩ | ⟨rfl, _, hend⟩
          · have h0 := runs_no hstop
            exact ⟨fun _ e => hh.1 e h0, fun _ => rfl⟩
          · have ho := outc_pos (part B x x') (part O y y') (part T z z')
            refine ⟨fun e => by change outc _ _ _ = 1 at e; omega, fun e => ?_⟩
            exfalso
            rcases hend with ⟨hx', hs⟩ | ⟨e1, e2, e3⟩
            · exact e (hh.2 (runs_pos hx' hs))
            · rw [ch_end f x' y' z' (by omega)] at hd; simp at hd
    · rw [ch_end f x y z hr]
      exact ⟨by omega, by omega, by omega⟩

theorem run_parts (K : Keeps B O k) (Q : Keeps B T q) {x y z n : Nat} (h : ∀ m, m < n → k (x + m) = some (y + m) ∧ q (x + m) = some (z + m)) :
    part T z (z + n) = part O y (y + n) ∧ part B x (x + n) = part O y (y + n) := by
  have e1 : ∀ m, m < n → O[y + m]? = B[x + m]? := fun m hm => (K.ok _ _ (h m hm).1).2.2.symm
  have e2 : ∀ m, m < n → T[z + m]? = B[x + m]? := fun m hm => (Q.ok _ _ (h m hm).2).2.2.symm
  have nn : ∀ (l : List Int) (a m : Nat), ¬ m < n → (part l a (a + n))[m]? = none := fun l a m hm => by
    unfold part
    rw [List.getElem?_eq_none_iff, List.length_take]
    omega
  constructor
  · apply List.ext_getElem?
    intro m
    by_cases hm : m < n
    · rw [part_getElem? _ _ _ _ (by omega), part_getElem? _ _ _ _ (by omega), e1 m hm, e2 m hm]
    · rw [nn _ _ _ hm, nn _ _ _ hm]
  · apply List.ext_getElem?
    intro m
    by_cases hm : m < n
    · rw [part_getElem? _ _ _ _ (by omega), part_getElem? _ _ _ _ (by omega), e1 m hm]
    · rw [nn _ _ _ hm, nn _ _ _ hm]
theorem ch_parts (K : Keeps B O k) (Q : Keeps B T q) : ∀ (f x y z : Nat), Inv B O T k q x y z → ∀ c ∈ ch B O T k q f x y z, c.out = 1 ∨ c.out = 4 → part T c.t1 c.t2 = part O c.o1 c.o2
  | 0, x, y, z, I, c, hc, _ => by simp [ch] at hc
  | f + 1, x, y, z, I, c, hc, ho => by
    by_cases hr : x < B.length ∨ y < O.length ∨ z < T.length
    · obtain ⟨x', y', z', o, he, I', h1, h2, h3, h4, hcs⟩ := ch_step K Q I f hr
      rw [he] at hc
      rcases List.mem_cons.1 hc with rfl | hc'
      · rcases hcs with ⟨rfl, n, hn, _, rfl, rfl, rfl, hall, _⟩ | ⟨rfl, _, _⟩
        · exact (run_parts K Q hall).1
        · have hp := outc_pos (part B x x') (part O y y') (part T z z')
          change outc _ _ _ = 1 ∨ outc _ _ _ = 4 at ho
          have h4' : outc (part B x x') (part O y y') (part T z z') = 4 := by omega
          unfold outc at h4'
          by_cases e : part O y y' = part T z z'
          · exact e.symm
          · exfalso
            rw [if_neg e] at h4'
            revert h4'
            repeat' split
            all_goals omega
      · exact ch_parts K Q f x' y' z' I' c hc' ho
    · rw [ch_end _ x y z hr] at hc; cases hc

/-! The sides exchanged. -/
def sw (o : Nat) : Nat := if o = 2 then 3 else if o = 3 then 2 else o
def swap (c : Ch) : Ch := ⟨c.b1, c.b2, c.t1, c.t2, c.o1, c.o2, sw c.out⟩
theorem outc_sw (b o t : List Int) : outc b t o = sw (outc b o t) := by
  unfold outc
  by_cases h1 : o = t
  · subst h1; simp [sw]
  · have h1' : ¬ t = o := fun e => h1 e.symm
    by_cases h2 : o = b
    · subst h2
      simp [sw, h1, h1']
    · by_cases h3 : t = b
      · subst h3
        simp [sw, h1, h1']
      · simp [sw, h1, h1', h2, h3]
theorem rn_comm (k q : Nat → Option Nat) : ∀ f x y z, rn q k f x z y = rn k q f x y z
  | 0, _, _, _ => rfl
  | f + 1, x, y, z => by
    unfold rn
    rw [rn_comm k q f]
    by_cases h : k x = some y ∧ q x = some z
    · rw [if_pos h, if_pos ⟨h.2, h.1⟩]
    · rw [if_neg h, if_neg (fun e => h ⟨e.2, e.1⟩)]
theorem nx_comm (k q : Nat → Option Nat) : ∀ f x, nx q k f x = nx k q f x
  | 0, _ => rfl
  | f + 1, x => by
    unfold nx
    rw [nx_comm k q f]
    by_cases h : (k x).isSome = true ∧ (q x).isSome = true
    · rw [if_pos h, if_pos ⟨h.2, h.1⟩]
    · rw [if_neg h, if_neg (fun e => h ⟨e.2, e.1⟩)]
theorem ch_swap : ∀ f x y z, ch B T O q k f x z y = (ch B O T k q f x y z).map swap
  | 0, _, _, _ => rfl
  | f + 1, x, y, z => by
    have r : runs B q k x z y = runs B k q x y z := rn_comm k q _ x y z
    have nn : next B q k x = next B k q x := nx_comm k q _ x
    by_cases hr : x < B.length ∨ y < O.length ∨ z < T.length
    · have hr' : x < B.length ∨ z < T.length ∨ y < O.length := by omega
      rw [ch, ch, if_pos hr, if_pos hr', r, nn]
      by_cases h0 : runs B k q x y z ≠ 0
      · rw [if_pos h0, if_pos h0, List.map_cons, ch_swap f]; rfl
      · rw [if_neg h0, if_neg h0, List.map_cons, ch_swap f, outc_sw]; rfl
    · rw [ch, ch, if_neg hr, if_neg (by omega)]; rfl
theorem rest_comm (x y z : Nat) : rest B T O x z y = rest B O T x y z := by unfold rest; omega
end
theorem chunks_swap (B O T : List Int) : chunks B T O = (chunks B O T).map swap := by
  unfold chunks
  rw [rest_comm]
  exact ch_swap _ 0 0 0
theorem chunks_cov (B O T : List Int) : Cov B O T (chunks B O T) 0 0 0 :=
  ch_cov (keeps_pairs B O) (keeps_pairs B T) _ 0 0 0 Inv.start (Nat.le_refl _)
theorem clean_swap (l : List Ch) : cleanB (l.map swap) = cleanB l := by
  unfold cleanB
  rw [List.all_map]
  congr 1
  funext c
  show (sw c.out != 5) = (c.out != 5)
  unfold sw
  by_cases h2 : c.out = 2
  · simp [h2]
  · by_cases h3 : c.out = 3
    · simp [h3]
    · simp [h2, h3]
theorem mg_swap (O T : List Int) (l : List Ch) (hp : ∀ c ∈ l, c.out = 1 ∨ c.out = 4 → part T c.t1 c.t2 = part O c.o1 c.o2) (hc : cleanB l = true) (hr : ∀ c ∈ l, 1 ≤ c.out ∧ c.out ≤ 5) : mg T O (l.map swap) = mg O T l := by
  unfold mg
  rw [List.flatMap_map]
  induction l with
  | nil => rfl
  | cons c l ih =>
    unfold cleanB at hc
    rw [List.all_cons, Bool.and_eq_true] at hc
    rw [List.flatMap_cons, List.flatMap_cons, ih (fun d hd => hp d (List.mem_cons_of_mem _ hd)) hc.2 (fun d hd => hr d (List.mem_cons_of_mem _ hd))]
    congr 1
    have h5 : c.out ≠ 5 := by simpa using hc.1
    have hb := hr c (List.mem_cons_self ..)
    have hpc := hp c (List.mem_cons_self ..)
    show (if sw c.out = 1 ∨ sw c.out = 3 then part O c.o1 c.o2 else part T c.t1 c.t2) = _
    have : c.out = 1 ∨ c.out = 2 ∨ c.out = 3 ∨ c.out = 4 := by omega
    rcases this with h | h | h | h
    · rw [h]; exact (hpc (Or.inl h)).symm
    · rw [h]; rfl
    · rw [h]; rfl
    · rw [h]; exact hpc (Or.inr h)
theorem cov_out {B O T : List Int} : ∀ (l : List Ch) (x y z : Nat), Cov B O T l x y z → ∀ c ∈ l, 1 ≤ c.out ∧ c.out ≤ 5
  | [], _, _, _, _, c, hc => by cases hc
  | d :: l, x, y, z, h, c, hc => by
    obtain ⟨_, _, _, _, _, _, _, _, _, _, ho, _, hn⟩ := h
    rcases List.mem_cons.1 hc with rfl | hc
    · exact ho
    · exact cov_out l _ _ _ hn c hc
theorem merge_swap (B O T : List Int) : merge B T O = merge B O T := by
  unfold merge
  rw [chunks_swap, clean_swap]
  cases hc : cleanB (chunks B O T) with
  | false => rfl
  | true =>
    have hm := mg_swap O T (chunks B O T) (ch_parts (keeps_pairs B O) (keeps_pairs B T) _ 0 0 0 Inv.start) hc (cov_out _ _ _ _ (chunks_cov B O T))
    rw [if_pos rfl, if_pos rfl, hm]

/-! One side the base; both sides alike. -/
theorem kp_self (B : List Int) (i : Nat) : kp (pairs B B) i = if i < B.length then some i else none := by
  rw [pairs_self]
  unfold kp
  by_cases h : i < B.length
  · rw [if_pos h]
    have hm : (i, i) ∈ (List.range B.length).map (fun j => (j, j)) := List.mem_map.2 ⟨i, List.mem_range.2 h, rfl⟩
    cases hf : ((List.range B.length).map (fun j => (j, j))).find? (fun p => p.1 == i) with
    | none => exact absurd (List.find?_eq_none.1 hf _ hm) (by simp)
    | some p =>
      have h1 := List.find?_some hf
      obtain ⟨j, _, rfl⟩ := List.mem_map.1 (List.mem_of_find?_eq_some hf)
      simp at h1
      simp [h1]
  · rw [if_neg h]
    rw [List.find?_eq_none.2]
    · rfl
    · intro p hp
      obtain ⟨j, hj, rfl⟩ := List.mem_map.1 hp
      have := List.mem_range.1 hj
      simp
      omega
section
variable {B O : List Int} {k q : Nat → Option Nat}
theorem one_base (K : Keeps B O k) (Q : Keeps B B q) (hq : ∀ i, q i = if i < B.length then some i else none) : ∀ (f x y : Nat), Inv B O B k q x y x → rest B O B x y x ≤ f →
    cleanB (ch B O B k q f x y x) = true ∧ mg O B (ch B O B k q f x y x) = O.drop y
  | f, x, y, I, hf => by
    have b1 := I.bx
    have b2 := I.by'
    by_cases hr : x < B.length ∨ y < O.length ∨ x < B.length
    · unfold rest at hf
      match f, hf with
      | 0, hf => omega
      | f + 1, hf =>
        obtain ⟨x', y', z', o, he, I', h1, h2, h3, h4, hc⟩ := ch_step K Q I f hr
        have c1 := I'.bx
        have c2 := I'.by'
        have hz : z' = x' := by
          rcases hc with ⟨_, n, _, _, rfl, _, rfl, _⟩ | ⟨_, _, hend⟩
          · rfl
          · rcases hend with ⟨hx', _, hs⟩ | ⟨e1, _, e3⟩
            · rw [hq, if_pos hx'] at hs; cases hs; rfl
            · omega
        subst hz
        obtain ⟨i1, i2⟩ := one_base K Q hq f z' y' I' (by unfold rest; omega)
        have hpart : (if o = 1 ∨ o = 3 then part B x z' else part O y y') = part O y y' ∧ o ≠ 5 := by
          rcases hc with ⟨rfl, n, _, _, rfl, rfl, _, hall, _⟩ | ⟨rfl, _, _⟩
          · exact ⟨by rw [if_pos (Or.inl rfl)]; exact (run_parts K Q hall).1, by omega⟩
          · unfold outc
            by_cases e1 : part O y y' = part B x z'
            · rw [if_pos e1]; exact ⟨by rw [if_neg (by omega)], by omega⟩
            · rw [if_neg e1, if_neg e1, if_pos rfl]; exact ⟨by rw [if_neg (by omega)], by omega⟩
        rw [he]
        constructor
        · show (o != 5 && cleanB _) = true
          rw [i1]
          simp [hpart.2]
        · show (if o = 1 ∨ o = 3 then part B x z' else part O y y') ++ mg O B _ = _
          rw [hpart.1, i2, part_next O h2]
    · rw [ch_end f x y x hr]
      exact ⟨rfl, by rw [List.drop_eq_nil_of_le (by omega)]; rfl⟩
theorem both_alike (K : Keeps B O k) : ∀ (f x y : Nat), Inv B O O k k x y y → rest B O O x y y ≤ f →
    cleanB (ch B O O k k f x y y) = true ∧ mg O O (ch B O O k k f x y y) = O.drop y
  | f, x, y, I, hf => by
    have b1 := I.bx
    have b2 := I.by'
    by_cases hr : x < B.length ∨ y < O.length ∨ y < O.length
    · unfold rest at hf
      match f, hf with
      | 0, hf => omega
      | f + 1, hf =>
        obtain ⟨x', y', z', o, he, I', h1, h2, h3, h4, hc⟩ := ch_step K K I f hr
        have c1 := I'.bx
        have c2 := I'.by'
        have hz : z' = y' := by
          rcases hc with ⟨_, n, _, _, _, rfl, rfl, _⟩ | ⟨_, _, hend⟩
          · rfl
          · rcases hend with ⟨_, h1, h2⟩ | ⟨_, e2, e3⟩
            · rw [h1] at h2; cases h2; rfl
            · omega
        subst hz
        obtain ⟨i1, i2⟩ := both_alike K f x' z' I' (by unfold rest; omega)
        have ho : o ≠ 5 := by
          rcases hc with ⟨rfl, _⟩ | ⟨rfl, _⟩
          · omega
          · unfold outc; rw [if_pos rfl]; omega
        rw [he]
        constructor
        · show (o != 5 && cleanB _) = true
          rw [i1]
          simp [ho]
        · show (if o = 1 ∨ o = 3 then part O y z' else part O y z') ++ mg O O _ = _
          rw [ite_self, i2, part_next O h2]
    · rw [ch_end f x y y hr]
      exact ⟨rfl, by rw [List.drop_eq_nil_of_le (by omega)]; rfl⟩
end
theorem merge_base (B O : List Int) : merge B O B = (O, true) := by
  obtain ⟨h1, h2⟩ := one_base (keeps_pairs B O) (keeps_pairs B B) (kp_self B) _ 0 0 Inv.start (Nat.le_refl _)
  unfold merge chunks
  rw [if_pos h1, h2]
  rfl
theorem merge_base2 (B T : List Int) : merge B B T = (T, true) := by rw [merge_swap, merge_base]
theorem merge_alike (B O : List Int) : merge B O O = (O, true) := by
  obtain ⟨h1, h2⟩ := both_alike (keeps_pairs B O) _ 0 0 Inv.start (Nat.le_refl _)
  unfold merge chunks
  rw [if_pos h1, h2]
  rfl

/-! Other names. -/
theorem lcs_map (g : Int → Int) (hg : ∀ x y, g x = g y → x = y) : ∀ (n : Nat) (a b : List Int), a.length + b.length ≤ n → lcs (a.map g) (b.map g) = lcs a b
  | _, [], b, _ => by rw [List.map_nil, lcs_nil, lcs_nil]
  | _, x :: a, [], _ => by rw [List.map_nil, lcs_nil2, lcs_nil2]
  | 0, x :: a, y :: b, h => by simp at h
  | n + 1, x :: a, y :: b, h => by
    simp only [List.length_cons] at h
    have e1 := lcs_map g hg n (x :: a) b (by simp; omega)
    have e2 := lcs_map g hg n a (y :: b) (by simp; omega)
    rw [List.map_cons] at e1 e2
    rw [List.map_cons, List.map_cons]
    by_cases e : x = y
    · rw [lcs_yes (by rw [e]), lcs_yes e, lcs_map g hg n a b (by omega)]
    · rw [lcs_no (fun h' => e (hg _ _ h')), lcs_no e, e1, e2]
theorem pp_map (g : Int → Int) (hg : ∀ x y, g x = g y → x = y) : ∀ (n i k : Nat) (a b : List Int), a.length + b.length ≤ n → pp i k (a.map g) (b.map g) = pp i k a b
  | _, i, k, [], b, _ => by rw [List.map_nil, pp_nil, pp_nil]
  | _, i, k, x :: a, [], _ => by rw [List.map_nil, pp_nil2, pp_nil2]
  | 0, i, k, x :: a, y :: b, h => by simp at h
  | n + 1, i, k, x :: a, y :: b, h => by
    simp only [List.length_cons] at h
    have l1 := lcs_map g hg _ (x :: a) b (Nat.le_refl _)
    have l2 := lcs_map g hg _ a (y :: b) (Nat.le_refl _)
    have e1 := pp_map g hg n i (k + 1) (x :: a) b (by simp; omega)
    have e2 := pp_map g hg n (i + 1) k a (y :: b) (by simp; omega)
    rw [List.map_cons] at e1 e2 l1 l2
    rw [List.map_cons, List.map_cons]
    by_cases e : x = y
    · rw [pp_yes (by rw [e]), pp_yes e, pp_map g hg n _ _ a b (by omega)]
    · have e' : g x ≠ g y := fun h' => e (hg _ _ h')
      by_cases hl : lcs (x :: a) b ≤ lcs a (y :: b)
      · rw [pp_left e' _ _ _ _ (by rw [l1, l2]; exact hl), pp_left e _ _ _ _ hl, e2]
      · rw [pp_right e' _ _ _ _ (by rw [l1, l2]; exact hl), pp_right e _ _ _ _ hl, e1]
theorem map_eq (g : Int → Int) (hg : ∀ x y, g x = g y → x = y) : ∀ a b : List Int, a.map g = b.map g ↔ a = b
  | [], [] => by simp
  | [], y :: b => by simp
  | x :: a, [] => by simp
  | x :: a, y :: b => by
    rw [List.map_cons, List.map_cons, List.cons.injEq, List.cons.injEq, map_eq g hg a b]
    exact ⟨fun h => ⟨hg _ _ h.1, h.2⟩, fun h => ⟨by rw [h.1], h.2⟩⟩
theorem outc_map (g : Int → Int) (hg : ∀ x y, g x = g y → x = y) (b o t : List Int) : outc (b.map g) (o.map g) (t.map g) = outc b o t := by
  unfold outc
  simp only [map_eq g hg]
theorem part_map (g : Int → Int) (l : List Int) (a b : Nat) : part (l.map g) a b = (part l a b).map g := by
  unfold part
  rw [List.map_take, List.map_drop]
theorem ch_map (g : Int → Int) (hg : ∀ x y, g x = g y → x = y) (B O T : List Int) (k q : Nat → Option Nat) : ∀ f x y z, ch (B.map g) (O.map g) (T.map g) k q f x y z = ch B O T k q f x y z
  | 0, _, _, _ => rfl
  | f + 1, x, y, z => by
    have r : runs (B.map g) k q x y z = runs B k q x y z := by unfold runs; rw [List.length_map]
    have nn : next (B.map g) k q x = next B k q x := by unfold next; rw [List.length_map]
    have n1 : ∀ i, nextO (B.map g) (O.map g) k i = nextO B O k i := fun i => by unfold nextO; rw [List.length_map, List.length_map]
    have n2 : ∀ i, nextO (B.map g) (T.map g) q i = nextO B T q i := fun i => by unfold nextO; rw [List.length_map, List.length_map]
    rw [ch, ch, List.length_map, List.length_map, List.length_map, r, nn, n1, n2, part_map, part_map, part_map, outc_map g hg, ch_map g hg B O T k q f, ch_map g hg B O T k q f]
theorem chunks_map (g : Int → Int) (hg : ∀ x y, g x = g y → x = y) (B O T : List Int) : chunks (B.map g) (O.map g) (T.map g) = chunks B O T := by
  unfold chunks
  have e1 : pairs (B.map g) (O.map g) = pairs B O := pp_map g hg _ 0 0 B O (Nat.le_refl _)
  have e2 : pairs (B.map g) (T.map g) = pairs B T := pp_map g hg _ 0 0 B T (Nat.le_refl _)
  rw [e1, e2, show rest (B.map g) (O.map g) (T.map g) 0 0 0 = rest B O T 0 0 0 by unfold rest; simp]
  exact ch_map g hg B O T _ _ _ 0 0 0

end Go.Proofs.Ytipgofglidmffaa.Wv
