/-
  COMMON WORDS of walks over slices of structs (elements of k cells each). No function of the program is named.
-/
import Derived.Test.YtpakjdgddomdjaaDoorCmInt
namespace Go.Proofs.YtpakjdgddomdjaaDoor.Cm
open Go.RowKit
set_option linter.unusedVariables false
variable {α : Type}

/-- A slice that reads as these elements, of k cells each. -/
def Rk (k : Nat) (enc : α → List Value) (w : World) (v : Value) (xs : List α) : Prop :=
  ∃ ao cap, v = .slice ao xs.length cap ∧ xs.length ≤ cap ∧ (xs = [] ∨ ∃ b o, ao = some ⟨b, o, none⟩ ∧ b < w.heap.size ∧ ∀ j x, xs[j]? = some x → ∀ q u, (enc x)[q]? = some u → w.cell? ⟨b, o + j * k + q, none⟩ = some u)
theorem Rk.below {k : Nat} {enc : α → List Value} {w w' : World} {v : Value} {xs : List α} (h : Rk k enc w v xs) (hb : Below w.heap.size w w') : Rk k enc w' v xs := by
  obtain ⟨ao, cap, hv, hc, hx⟩ := h
  refine ⟨ao, cap, hv, hc, ?_⟩
  rcases hx with hx | ⟨b, o, hao, hlt, hcell⟩
  · exact Or.inl hx
  · exact Or.inr ⟨b, o, hao, Nat.lt_of_lt_of_le hlt hb.size, fun j x hj q u hq => (hb.cell (by exact hlt)).trans (hcell j x hj q u hq)⟩
theorem Rk.len {k : Nat} {enc : α → List Value} {w : World} {v : Value} {xs : List α} (h : Rk k enc w v xs) : ∃ ao cap, v = .slice ao xs.length cap := by
  obtain ⟨ao, cap, hv, _⟩ := h; exact ⟨ao, cap, hv⟩
theorem Rk.at {k : Nat} {enc : α → List Value} {w : World} {ao : Option Addr} {n c : Nat} {xs : List α} (h : Rk k enc w (.slice ao n c) xs) : ∀ i (hi : i < xs.length), ∃ b o, ao = some ⟨b, o, none⟩ ∧ b < w.heap.size ∧ ∀ q u, (enc xs[i])[q]? = some u → w.cell? ⟨b, o + i * k + q, none⟩ = some u := by
  intro i hi
  obtain ⟨ao', c', hv, _, hx⟩ := h
  simp only [Value.slice.injEq] at hv
  obtain ⟨rfl, _, _⟩ := hv
  rcases hx with hx | ⟨b, o, rfl, hlt, hcell⟩
  · rw [hx] at hi; exact absurd hi (Nat.not_lt_zero _)
  · exact ⟨b, o, rfl, hlt, hcell i _ (List.getElem?_eq_getElem hi)⟩
theorem flat_get {k : Nat} {enc : α → List Value} (hk : ∀ x, (enc x).length = k) : ∀ (xs : List α) (j : Nat) (x : α), xs[j]? = some x → ∀ q u, (enc x)[q]? = some u → (xs.flatMap enc)[j * k + q]? = some u
  | [], j, x, h, _, _, _ => by simp at h
  | y :: ys, 0, x, h, q, u, hq => by
    simp at h
    subst h
    rw [List.flatMap_cons, Nat.zero_mul, Nat.zero_add, List.getElem?_append_left (List.getElem?_eq_some_iff.1 hq).1]
    exact hq
  | y :: ys, j + 1, x, h, q, u, hq => by
    rw [List.flatMap_cons, List.getElem?_append_right (by rw [hk, Nat.succ_mul]; omega), hk, show (j + 1) * k + q - k = j * k + q by rw [Nat.succ_mul]; omega]
    exact flat_get hk ys j x (by simpa using h) q u hq
theorem Rk.of_own {k : Nat} {enc : α → List Value} (hk : ∀ x, (enc x).length = k) {w : World} {B : Nat} {e : TypeId} {v : Value} {xs : List α} (h : w.ownsRow B e k v xs.length (xs.flatMap enc)) : Rk k enc w v xs := by
  rcases h.2 with ⟨hv, hn⟩ | ⟨g, cap, cur, hv, hB, hg, hn, hm, hsz, ht⟩
  · exact ⟨none, 0, by rw [hv, hn], by omega, Or.inl (List.eq_nil_of_length_eq_zero hn)⟩
  · refine ⟨_, cap, hv, hn, Or.inr ⟨g, 0, rfl, (Array.getElem?_eq_some_iff.1 hg).1, fun j x hj q u hq => ?_⟩⟩
    have hjl := (List.getElem?_eq_some_iff.1 hj).1
    have hql := (List.getElem?_eq_some_iff.1 hq).1
    rw [hk] at hql
    subst hv
    have hb : j * k + q < xs.length * k := by
      have : (j + 1) * k ≤ xs.length * k := Nat.mul_le_mul_right _ hjl
      rw [Nat.succ_mul] at this
      omega
    rw [Nat.zero_add, h.cellAt _ hb]
    exact flat_get hk xs j x hj q u hq
theorem own_pushK {k : Nat} {enc : α → List Value} {B : Nat} {e : TypeId} {w wr w1 : World} {v v' : Value} {o : List α} {x : α} {ob : Obj} (hown : wr.ownsRow B e k v o.length (o.flatMap enc)) (hb : Below B w wr) (hB : B ≤ wr.heap.size)
    (hown' : w1.ownsRow B e k v' (o.length + 1) (o.flatMap enc ++ enc x)) (hgrow : (wr.alloc ob).grownBy w1 v.ownBlock) :
    w1.ownsRow B e k v' (o ++ [x]).length ((o ++ [x]).flatMap enc) ∧ Below B w w1 := by
  refine ⟨?_, (hb.alloc hB ob).grown hgrow (by simp; omega) (fun j hj => (hown.lt j hj).1)⟩
  rw [List.length_append, List.flatMap_append]
  simpa using hown'
theorem newsK {wr : World} {us : List Value} {t : TypeId} : ∀ (j : Nat) (u : Value), us[j]? = some u → (wr.alloc (.cells us.toArray t)).cell? (Addr.add ⟨wr.heap.size, 0, none⟩ j) = some u := by
  intro j u hj
  have e : (Addr.add ⟨wr.heap.size, 0, none⟩ j) = ⟨wr.heap.size, j, none⟩ := by
    unfold Addr.add
    by_cases h : j = 0
    · subst h; rfl
    · rw [if_neg h]; simp
  rw [e, World.cell?_alloc_new]
  simpa using hj

end Go.Proofs.YtpakjdgddomdjaaDoor.Cm
