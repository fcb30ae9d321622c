/-
  Several texts in one:
  RUNS OF BACKTICKS in a line, in plain words: the first one of a length, as a code is closed; found in order. No program.
  CONTRACTS of cmp.Compare, cmp.Or at ints and of byLength (spanin).
  CONTRACT of slices.SortFunc at runs by byLength: a permutation that rises.
-/
import Derived.Test.YtjgmfgnfdaeelaaGreatDoorSiPlain
import Derived.Test.YtjgmfgnfdaeelaaGreatDoorPkB
import Derived.Shelf.SlSortCmp.WholeK
import Derived.Deep.RegionLaw
import Derived.Test.YtjgmfgnfdaeelaaGreatDoorSortRun
import Derived.Test.YtjgmfgnfdaeelaaGreatDoorShelfB
namespace Go.Proofs.YtjgmfgnfdaeelaaGreatDoor.Sp
set_option linter.unusedVariables false

theorem ticks_behind {t : List UInt8} (h : t.head? ≠ some 96) : ∀ p : List UInt8, ticks (p ++ t) = ticks p
  | [] => by
    cases t with
    | nil => rfl
    | cons b r => exact if_neg (fun e => h (by rw [e]; rfl))
  | b :: p => by
    show (if b = 96 then ticks (p ++ t) + 1 else 0) = (if b = 96 then ticks p + 1 else 0)
    rw [ticks_behind h p]
/-- All runs, from a place on. -/
def rns : Nat → Nat → List UInt8 → List (Nat × Nat)
  | 0, _, _ => []
  | f + 1, q, t => match t with
    | [] => []
    | b :: r => (if ticks (b :: r) = 0 then [] else [(ticks (b :: r), q)]) ++ rns f (q + max (ticks (b :: r)) 1) ((b :: r).drop (max (ticks (b :: r)) 1))
theorem rns_fuel : ∀ (m f f' q : Nat) (t : List UInt8), t.length ≤ m → t.length ≤ f → t.length ≤ f' → rns f q t = rns f' q t
  | m, 0, 0, q, t, _, _, _ => rfl
  | m, 0, f' + 1, q, [], _, _, _ => rfl
  | m, f + 1, 0, q, [], _, _, _ => rfl
  | m, 0, f' + 1, q, b :: r, _, h, _ => by simp at h
  | m, f + 1, 0, q, b :: r, _, _, h => by simp at h
  | m, f + 1, f' + 1, q, [], _, _, _ => rfl
  | 0, f + 1, f' + 1, q, b :: r, h, _, _ => by simp at h
  | m + 1, f + 1, f' + 1, q, b :: r, h, h1, h2 => by
    have hd := drop_lt (b := b) (r := r)
    rw [List.length_cons] at h h1 h2 hd
    rw [rns, rns, rns_fuel m f f' _ _ (by omega) (by omega) (by omega)]
def Rns (q : Nat) (t : List UInt8) : List (Nat × Nat) := rns t.length q t
theorem Rns_nil (q : Nat) : Rns q [] = [] := rfl
theorem Rns_cons (q : Nat) (b : UInt8) (r : List UInt8) : Rns q (b :: r) = (if ticks (b :: r) = 0 then [] else [(ticks (b :: r), q)]) ++ Rns (q + max (ticks (b :: r)) 1) ((b :: r).drop (max (ticks (b :: r)) 1)) := by
  have hd := drop_lt (b := b) (r := r)
  rw [List.length_cons] at hd
  unfold Rns
  rw [List.length_cons, rns, rns_fuel r.length r.length _ _ _ (by omega) (by omega) (Nat.le_refl _)]
theorem step_le (b : UInt8) (r : List UInt8) : max (ticks (b :: r)) 1 ≤ (b :: r).length := by
  have := ticks_le (b :: r)
  rw [List.length_cons] at this ⊢
  omega
/-- Where runs lie. -/
theorem Rns_mem : ∀ (m q : Nat) (t : List UInt8), t.length ≤ m → ∀ x ∈ Rns q t, q ≤ x.2 ∧ x.2 + x.1 ≤ q + t.length ∧ 0 < x.1
  | m, q, [], _, x, hx => by cases hx
  | 0, q, b :: r, h, x, hx => by simp at h
  | m + 1, q, b :: r, h, x, hx => by
    have hd := drop_lt (b := b) (r := r)
    have hs := step_le b r
    have hle := ticks_le (b :: r)
    have hld : ((b :: r).drop (max (ticks (b :: r)) 1)).length = (b :: r).length - max (ticks (b :: r)) 1 := List.length_drop
    rw [Rns_cons] at hx
    rcases List.mem_append.1 hx with hx | hx
    · split at hx
      · cases hx
      · rw [List.mem_singleton] at hx
        subst hx
        simp only
        omega
    · have := Rns_mem m _ _ (by rw [List.length_cons] at h hd; omega) x hx
      omega
/-- Runs of a text cut where no run goes on. -/
theorem Rns_app {v : List UInt8} (hv : v.head? ≠ some 96) : ∀ (m q : Nat) (u : List UInt8), u.length ≤ m → Rns q (u ++ v) = Rns q u ++ Rns (q + u.length) v
  | m, q, [], _ => by rw [Rns_nil]; rfl
  | 0, q, b :: u, h => by simp at h
  | m + 1, q, b :: u, h => by
    have hd := drop_lt (b := b) (r := u)
    have hs := step_le b u
    have ht := ticks_behind hv (b :: u)
    have hld : ((b :: u).drop (max (ticks (b :: u)) 1)).length = (b :: u).length - max (ticks (b :: u)) 1 := List.length_drop
    rw [List.cons_append] at ht
    rw [List.cons_append, Rns_cons, ht, Rns_cons, ← List.cons_append, List.drop_append_of_le_length hs, Rns_app hv m _ _ (by rw [List.length_cons] at h hd; omega), List.append_assoc]
    congr 3
    rw [hld]
    omega
/-- Runs rise by their places. -/
theorem Rns_rise : ∀ (m q : Nat) (t : List UInt8), t.length ≤ m → (Rns q t).Pairwise (fun x y => x.2 < y.2)
  | m, q, [], _ => by rw [Rns_nil]; exact List.Pairwise.nil
  | 0, q, b :: r, h => by simp at h
  | m + 1, q, b :: r, h => by
    have hd := drop_lt (b := b) (r := r)
    have ih := Rns_rise m (q + max (ticks (b :: r)) 1) ((b :: r).drop (max (ticks (b :: r)) 1)) (by rw [List.length_cons] at h hd; omega)
    rw [Rns_cons]
    split
    · exact ih
    · refine List.pairwise_append.2 ⟨List.pairwise_singleton _ _, ih, fun x hx y hy => ?_⟩
      rw [List.mem_singleton] at hx
      subst hx
      have := (Rns_mem _ _ _ (Nat.le_refl _) y hy).1
      simp only
      omega
theorem Rns_len : ∀ (m q : Nat) (t : List UInt8), t.length ≤ m → (Rns q t).length ≤ t.length
  | m, q, [], _ => Nat.le_refl _
  | 0, q, b :: r, h => by simp at h
  | m + 1, q, b :: r, h => by
    have hd := drop_lt (b := b) (r := r)
    have ih := Rns_len m (q + max (ticks (b :: r)) 1) ((b :: r).drop (max (ticks (b :: r)) 1)) (by rw [List.length_cons] at h hd; omega)
    rw [Rns_cons, List.length_append]
    split
    · simp only [List.length_nil]; omega
    · simp only [List.length_singleton]; omega

/-- The first run of a length. -/
def fstRun (n : Nat) (l : List (Nat × Nat)) : Option Nat := (l.find? (fun x => decide (x.1 = n))).map (·.2)
theorem fstRun_cons (n : Nat) (x : Nat × Nat) (l : List (Nat × Nat)) : fstRun n (x :: l) = if x.1 = n then some x.2 else fstRun n l := by
  unfold fstRun
  rw [List.find?_cons]
  by_cases h : x.1 = n
  · rw [if_pos h, decide_eq_true h]; rfl
  · rw [if_neg h, decide_eq_false h]
/-- A code is closed by the first run of its length. -/
theorem code_run {n : Nat} (hn : 0 < n) {rest : List UInt8} (hr : rest = [] ∨ ∃ r', rest = 10 :: r') : ∀ (m q : Nat) (u : List UInt8) (f : Nat) (acc : List UInt8), u.length ≤ m → u.length ≤ f → (10 : UInt8) ∉ u →
    code n f acc (u ++ rest) = (fstRun n (Rns q u)).map (fun p => (acc ++ u.take (p - q), u.drop (p - q + n) ++ rest))
  | m, q, [], f, acc, _, _, _ => by
    rw [Rns_nil, List.nil_append]
    cases f with
    | zero => rfl
    | succ f =>
      rcases hr with rfl | ⟨r', rfl⟩
      · rfl
      · rw [code, if_pos rfl]; rfl
  | 0, q, b :: u, f, acc, h, _, _ => by simp at h
  | m + 1, q, b :: u, f, acc, h, hf, h10 => by
    obtain ⟨f, rfl⟩ : ∃ f', f = f' + 1 := ⟨f - 1, by rw [List.length_cons] at hf; omega⟩
    have hrh : rest.head? ≠ some 96 := by rcases hr with rfl | ⟨r', rfl⟩ <;> simp
    have hd := drop_lt (b := b) (r := u)
    have hs := step_le b u
    have hle := ticks_le (b :: u)
    have ht := ticks_behind hrh (b :: u)
    have hld : ((b :: u).drop (max (ticks (b :: u)) 1)).length = (b :: u).length - max (ticks (b :: u)) 1 := List.length_drop
    rw [List.cons_append] at ht
    rw [List.cons_append, code, if_neg (fun e => h10 (by rw [e]; exact List.mem_cons_self ..)), ht, Rns_cons]
    by_cases hk : ticks (b :: u) = n
    · rw [if_pos hk, if_neg (by omega), List.singleton_append, fstRun_cons, if_pos hk, ← List.cons_append, List.drop_append_of_le_length (by omega)]
      simp
    · rw [if_neg hk, ← List.cons_append, List.take_append_of_le_length hs, List.drop_append_of_le_length hs]
      have ih := code_run hn hr m (q + max (ticks (b :: u)) 1) ((b :: u).drop (max (ticks (b :: u)) 1)) f (acc ++ (b :: u).take (max (ticks (b :: u)) 1)) (by rw [List.length_cons] at h hd; omega) (by rw [List.length_cons] at hf hd; omega) (fun h => h10 (List.mem_of_mem_drop h))
      rw [ih]
      have hfs : fstRun n ((if ticks (b :: u) = 0 then [] else [(ticks (b :: u), q)]) ++ Rns (q + max (ticks (b :: u)) 1) ((b :: u).drop (max (ticks (b :: u)) 1))) = fstRun n (Rns (q + max (ticks (b :: u)) 1) ((b :: u).drop (max (ticks (b :: u)) 1))) := by
        split
        · rfl
        · rw [List.singleton_append, fstRun_cons, if_neg hk]
      rw [hfs]
      cases hF : fstRun n (Rns (q + max (ticks (b :: u)) 1) ((b :: u).drop (max (ticks (b :: u)) 1))) with
      | none => rfl
      | some p =>
        have hp : q + max (ticks (b :: u)) 1 ≤ p := by
          unfold fstRun at hF
          obtain ⟨x, hx, rfl⟩ := Option.map_eq_some_iff.1 hF
          exact (Rns_mem _ _ _ (Nat.le_refl _) x (List.mem_of_find?_eq_some hx)).1
        generalize max (ticks (b :: u)) 1 = k at *
        simp only [Option.map_some, Option.some.injEq, Prod.mk.injEq]
        refine ⟨?_, ?_⟩
        · rw [List.append_assoc, show p - q = k + (p - (q + k)) by omega, List.take_add]
        · rw [List.drop_drop, show k + (p - (q + k) + n) = p - q + n by omega]

/-! Found in order. -/
def rlt (x y : Nat × Nat) : Bool := decide (x.1 < y.1) || (decide (x.1 = y.1) && decide (x.2 < y.2))
theorem rlt_iff (x y : Nat × Nat) : rlt x y = true ↔ x.1 < y.1 ∨ (x.1 = y.1 ∧ x.2 < y.2) := by unfold rlt; simp
theorem rlt_no (x y : Nat × Nat) : rlt x y = false ↔ ¬ (x.1 < y.1 ∨ (x.1 = y.1 ∧ x.2 < y.2)) := by rw [← rlt_iff]; simp
/-- The first run of a length behind a place: in runs that lie in order, the first one that isn't less. -/
theorem found_run {d : List (Nat × Nat)} {u v : List UInt8} (hv : v.head? ≠ some 96) (hp : d.Perm (Rns 0 (u ++ v))) (n i : Nat) (hn : 0 < n)
    (hs : ∀ a b (ha : a < d.length) (hb : b < d.length), a < b → rlt d[b] d[a] = false) (hi : i ≤ d.length)
    (h1 : ∀ a (ha : a < d.length), a < i → rlt d[a] (n, u.length) = true) (h2 : ∀ a (ha : a < d.length), i ≤ a → rlt d[a] (n, u.length) = false) :
    fstRun n (Rns u.length v) = if h : i < d.length then (if d[i].1 = n then some d[i].2 else none) else none := by
  have hR := Rns_app hv u.length 0 u (Nat.le_refl _)
  rw [Nat.zero_add] at hR
  rw [hR] at hp
  have hrise := Rns_rise v.length u.length v (Nat.le_refl _)
  cases hF : (Rns u.length v).find? (fun x => decide (x.1 = n)) with
  | none =>
    have hno : ∀ x ∈ Rns u.length v, x.1 ≠ n := fun x hx => by
      have := List.find?_eq_none.1 hF x hx
      simpa using this
    have hl : fstRun n (Rns u.length v) = none := by unfold fstRun; rw [hF]; rfl
    rw [hl]
    split
    · rename_i h
      by_cases he : d[i].1 = n
      · exfalso
        have hm : d[i] ∈ Rns 0 u ++ Rns u.length v := hp.mem_iff.1 (List.getElem_mem h)
        have h3 := (rlt_no _ _).1 (h2 i h (Nat.le_refl _))
        simp only at h3
        rcases List.mem_append.1 hm with hm | hm
        · have := Rns_mem _ _ _ (Nat.le_refl _) _ hm
          omega
        · exact hno _ hm he
      · rw [if_neg he]
    · rfl
  | some x =>
    have hl : fstRun n (Rns u.length v) = some x.2 := by unfold fstRun; rw [hF]; rfl
    have hxm := List.mem_of_find?_eq_some hF
    have hx1 : x.1 = n := by simpa using List.find?_some hF
    have hxq := (Rns_mem _ _ _ (Nat.le_refl _) x hxm).1
    obtain ⟨j, hj, hjx⟩ := List.mem_iff_getElem.1 (hp.mem_iff.2 (List.mem_append_right _ hxm))
    have hij : i ≤ j := by
      rcases Nat.lt_or_ge j i with h | h
      · have := (rlt_iff _ _).1 (h1 j hj h)
        rw [hjx] at this
        simp only at this
        omega
      · exact h
    have hil : i < d.length := by omega
    rw [hl, dif_pos hil]
    have h3 := (rlt_no _ _).1 (h2 i hil (Nat.le_refl _))
    simp only at h3
    have h4 : ¬ (x.1 < d[i].1 ∨ (x.1 = d[i].1 ∧ x.2 < d[i].2)) := by
      rcases Nat.lt_or_ge i j with h | h
      · have := (rlt_no _ _).1 (hs i j hil hj h)
        rwa [hjx] at this
      · have : i = j := by omega
        subst this
        rw [hjx]
        omega
    have hm : d[i] ∈ Rns 0 u ++ Rns u.length v := hp.mem_iff.1 (List.getElem_mem hil)
    have he : d[i].1 = n := by omega
    rw [if_pos he]
    have hq : u.length ≤ d[i].2 := by omega
    have hmv : d[i] ∈ Rns u.length v := by
      rcases List.mem_append.1 hm with hm | hm
      · have := Rns_mem _ _ _ (Nat.le_refl _) _ hm
        omega
      · exact hm
    have hle : x.2 ≤ d[i].2 := by
      obtain ⟨A, B, hAB, hA⟩ : ∃ A B, Rns u.length v = A ++ x :: B ∧ ∀ y ∈ A, y.1 ≠ n := by
        obtain ⟨_, A, B, h5, h6⟩ := List.find?_eq_some_iff_append.1 hF
        exact ⟨A, B, h5, fun y hy => by have := h6 y hy; simpa using this⟩
      rw [hAB] at hmv hrise
      rcases List.mem_append.1 hmv with h5 | h5
      · exact absurd he (hA _ h5)
      · rcases List.mem_cons.1 h5 with h5 | h5
        · rw [h5]; exact Nat.le_refl _
        · have := (List.pairwise_cons.1 (List.pairwise_append.1 hrise).2.1).1 _ h5
          omega
    congr 1
    omega
end Go.Proofs.YtjgmfgnfdaeelaaGreatDoor.Sp

namespace Go.Proofs.YtjgmfgnfdaeelaaGreatDoor.Sp
open Go.RowKit Go.Shelf Go.Sort
open Go.Proofs.YtjgmfgnfdaeelaaGreatDoor.Tk (ret_int)
open Go.Proofs.YtjgmfgnfdaeelaaGreatDoor.Cm (calls_at cell_at alloc_at alloc_new lt_of_at)
set_option linter.unusedVariables false

theorem nanI_any (x : Int) (w : World) : Calls Tryz.prog 127 #[.int .i64 x] w fun e w' => e = .returned (.bool false) ∧ w = w' := by
  have e1 : (x == x) = true := by simp
  go_enter Tryz.func127, Tryz.ntmps127
  go_wp2_with fail
  go_ret
  exact ⟨rfl, rfl⟩
def cmpI (x y : Int) : Int := if x < y then -1 else if y < x then 1 else 0
theorem compare_any (x y : Int) (w : World) : Calls Tryz.prog 97 #[.int .i64 x, .int .i64 y] w fun e w' => e = .returned (.int .i64 (cmpI x y)) ∧ w = w' := by
  have HN := Lib.hid (fun x w => nanI_any x w)
  by_cases h1 : x < y
  · have HR : Hid (cmpI x y = -1) := Lib.hid (if_pos h1)
    rw [HR.out]
    go_enter Tryz.func97, Tryz.ntmps97
    go_wp2_with fail
    refine (HN.out _ _).mono ?_
    rintro e w' ⟨rfl, rfl⟩
    go_wp2_with fail
    refine (HN.out _ _).mono ?_
    rintro e w' ⟨rfl, rfl⟩
    go_wp2_with fail
    go_ret
    exact ⟨rfl, rfl⟩
  · by_cases h2 : y < x
    · have HR : Hid (cmpI x y = 1) := Lib.hid (by unfold cmpI; rw [if_neg h1, if_pos h2])
      rw [HR.out]
      go_enter Tryz.func97, Tryz.ntmps97
      go_wp2_with fail
      refine (HN.out _ _).mono ?_
      rintro e w' ⟨rfl, rfl⟩
      go_wp2_with fail
      refine (HN.out _ _).mono ?_
      rintro e w' ⟨rfl, rfl⟩
      go_wp2_with fail
      go_ret
      exact ⟨rfl, rfl⟩
    · have HR : Hid (cmpI x y = 0) := Lib.hid (by unfold cmpI; rw [if_neg h1, if_neg h2])
      rw [HR.out]
      go_enter Tryz.func97, Tryz.ntmps97
      go_wp2_with fail
      refine (HN.out _ _).mono ?_
      rintro e w' ⟨rfl, rfl⟩
      go_wp2_with fail
      refine (HN.out _ _).mono ?_
      rintro e w' ⟨rfl, rfl⟩
      go_wp2_with fail
      go_ret
      exact ⟨rfl, rfl⟩
def orI (x y : Int) : Int := if x = 0 then y else x
theorem or_any (x y : Int) (b : Nat) (w : World) (h : ∃ t, w.heap[b]? = some (.cells #[.int .i64 x, .int .i64 y] t (0, 0))) :
    Calls Tryz.prog 96 #[.slice (some ⟨b, 0, none⟩) 2 2] w fun e w' => e = .returned (.int .i64 (orI x y)) ∧ w = w' := by
  obtain ⟨t, h⟩ := h
  have c0 : w.cell? ⟨b, 0, none⟩ = some (.int .i64 x) := cell_at h 0
  have c1 : w.cell? ⟨b, 1, none⟩ = some (.int .i64 y) := cell_at h 1
  clear h
  by_cases hx : x = 0
  · have HR : Hid (orI x y = y) := Lib.hid (if_pos hx)
    rw [HR.out]
    have e1 : (x == 0) = true := by rw [hx]; rfl
    clear hx HR
    go_enter Tryz.func96, Tryz.ntmps96
    go_wp2_with fail
    refine wp_loop_rounds 3 ?_
    rw [rounds_succ]
    go_wp2_with fail
    rw [rounds_succ]
    by_cases hy : y = 0
    · have e2 : (y == 0) = true := by rw [hy]; rfl
      go_wp2_with fail
      rw [rounds_succ]
      go_wp2_with fail
      go_ret
      exact ⟨ret_int hy.symm, rfl⟩
    · have e2 : (y == 0) = false := by rw [beq_eq_false_iff_ne]; exact hy
      clear hy
      go_wp2_with fail
      go_ret
      exact ⟨rfl, rfl⟩
  · have HR : Hid (orI x y = x) := Lib.hid (if_neg hx)
    rw [HR.out]
    have e1 : (x == 0) = false := by rw [beq_eq_false_iff_ne]; exact hx
    clear hx HR
    go_enter Tryz.func96, Tryz.ntmps96
    go_wp2_with fail
    refine wp_loop_rounds 1 ?_
    rw [rounds_succ]
    go_wp2_with fail
    go_ret
    exact ⟨rfl, rfl⟩
theorem drew_new (w : World) (o : Obj) : (w.alloc o).drew.heap[w.heap.size]? = some o := alloc_new w o
theorem grow_fin (w : World) (os : Array Obj) (o : Obj) : ((grow w os).alloc o).drew = grow (w.drewN 1) (os ++ #[o]) := by rw [alloc_eq_grow, grow_grow]; rfl
def encR (x : Nat × Nat) : List Value := [.int .i64 x.1, .int .i64 x.2]
def cmpR (x y : Nat × Nat) : Int := orI (cmpI x.1 y.1) (cmpI x.2 y.2)
theorem cmpR_lt (x y : Nat × Nat) : decide (cmpR x y < 0) = rlt x y := by
  unfold cmpR orI cmpI rlt
  by_cases h1 : x.1 < y.1
  · simp [h1]
  · by_cases h2 : y.1 < x.1
    · have : ¬ x.1 = y.1 := by omega
      simp [h1, h2, this]
    · have h3 : x.1 = y.1 := by omega
      by_cases h4 : x.2 < y.2
      · simp [h3, h4]
      · by_cases h5 : y.2 < x.2 <;> simp [h3, h4, h5]
set_option maxHeartbeats 3200000 in
theorem byLength_any (x y : Nat × Nat) (w : World) :
    Calls Tryz.prog 72 #[.agg #[.int .i64 x.1, .int .i64 x.2], .agg #[.int .i64 y.1, .int .i64 y.2]] w fun e w' => e = .returned (.int .i64 (cmpR x y)) ∧ ∃ q os', w' = grow (w.drewN q) os' := by
  have HC := Lib.hid (fun x y w => compare_any x y w)
  have HO := Lib.hid (fun x y b w h => or_any x y b w h)
  have HX : Hid (cmpR x y = orI (cmpI x.1 y.1) (cmpI x.2 y.2)) := Lib.hid rfl
  generalize cmpR x y = r at *
  obtain ⟨x1, x2⟩ := x
  obtain ⟨y1, y2⟩ := y
  simp only at HX ⊢
  go_enter Tryz.func72, Tryz.ntmps72
  go_upto_region 1 with fail
  have HK : Hid (((w.alloc (.cells #[.int .i64 x1, .int .i64 x2] 99)).alloc (.cells #[.int .i64 y1, .int .i64 y2] 99)) = grow w #[.cells #[.int .i64 x1, .int .i64 x2] 99, .cells #[.int .i64 y1, .int .i64 y2] 99]) := Lib.hid (by rw [alloc_eq_grow, alloc_eq_grow, grow_grow]; rfl)
  have H0 := alloc_at (alloc_new w (.cells #[.int .i64 x1, .int .i64 x2] 99)) (.cells #[.int .i64 y1, .int .i64 y2] 99)
  have H1 := alloc_new (w.alloc (.cells #[.int .i64 x1, .int .i64 x2] 99)) (.cells #[.int .i64 y1, .int .i64 y2] 99)
  rw [World.size_alloc] at H1
  generalize (w.alloc (.cells #[.int .i64 x1, .int .i64 x2] 99)).alloc (.cells #[.int .i64 y1, .int .i64 y2] 99) = W at *
  have a0 : W.cell? ⟨w.heap.size, 0, none⟩ = some (.int .i64 x1) := cell_at H0 0
  have a1 : W.cell? ⟨w.heap.size, 1, none⟩ = some (.int .i64 x2) := cell_at H0 1
  have b0 : W.cell? ⟨w.heap.size + 1, 0, none⟩ = some (.int .i64 y1) := cell_at H1 0
  have b1 : W.cell? ⟨w.heap.size + 1, 1, none⟩ = some (.int .i64 y2) := cell_at H1 1
  clear H0 H1
  go_region_law (first
    | (go_simp; go_at_call 97; refine (HC.out _ _ _).mono ?_; rintro e w' ⟨rfl, rfl⟩)
    | (go_simp; go_at_call 96; refine (HO.out _ _ _ _ ⟨_, drew_new _ _⟩).mono ?_; rintro e w' ⟨rfl, rfl⟩))
  all_goals (
    go_simp
    go_wp2_with fail
    go_ret
    exact ⟨ret_int HX.out.symm, 1, _, by rw [HK.out]; exact grow_fin _ _ _⟩)
end Go.Proofs.YtjgmfgnfdaeelaaGreatDoor.Sp

namespace Go.Proofs.YtjgmfgnfdaeelaaGreatDoor.Sp
open Go.RowKit Go.Shelf Go.Sort Go.Lib
open Go.Proofs.YtjgmfgnfdaeelaaGreatDoor.Cm (calls_at cell_at alloc_at alloc_new lt_of_at frozen_at flat_get Rk)
set_option linter.unusedVariables false

theorem encR_len (x : Nat × Nat) : (encR x).length = 2 := rfl
theorem infoR : (Tryz.prog.info? 99).map (fun i => (i.zero, i.size, i.bytes)) = some (some (.agg #[.int .i64 0, .int .i64 0]), 2, 16) := by kernel_rfl
theorem ltR (x y : Nat × Nat) : ltOf cmpR x y = rlt x y := by unfold ltOf; exact cmpR_lt x y
theorem swoR : SWO (ltOf cmpR) where
  irrefl x := by rw [ltR, rlt_no]; omega
  trans x y z h1 h2 := by rw [ltR, rlt_iff] at *; omega
  ntrans x y z h1 h2 := by rw [ltR, rlt_no] at *; omega
theorem cmpLaysR (blk off size : Nat) (w : World) : CmpLays Tryz.prog 72 #[] encR 2 cmpR blk off size w :=
  fun _ _ _ _ x y => byLength_any x y _
theorem below_sort (w : World) (g n : Nat) (hg : g < w.heap.size) (d : Array (Nat × Nat)) (os : Array Obj) : Below g w (sortWorldK encR 2 w g 0 n d os) := by
  unfold sortWorldK putRowK putRow grow Sort.ahead mapBlock
  refine ⟨rfl, rfl, rfl, ?_, fun k hk => ?_⟩
  · simp
  · rw [Array.getElem?_append_left (by simp; omega), Array.getElem?_modify, if_neg (by omega)]
def RunT (w : World) (v : Value) : Prop := ∀ k, v.ownBlock = some k → ∃ cur fr, w.heap[k]? = some (.cells cur 99 fr)
theorem sort_at (w : World) (g n : Nat) {cur : Array Value} (hg : w.heap[g]? = some (.cells cur 99 (0, 0))) (d : Array (Nat × Nat)) (os : Array Obj) : ∃ cur fr, (sortWorldK encR 2 w g 0 n d os).heap[g]? = some (.cells cur 99 fr) := by
  have hlt := lt_of_at hg
  refine ⟨putCells id 0 (flatK encR 2 d) cur, (0, 0), ?_⟩
  show (w.heap.modify g (onCells (putCells id 0 (flatK encR 2 d))) ++ os)[g]? = _
  rw [Array.getElem?_append_left (by simp; omega), Array.getElem?_modify, if_pos rfl, hg]
  rfl
def Rises (d : List (Nat × Nat)) : Prop := ∀ a b (ha : a < d.length) (hb : b < d.length), a < b → rlt d[b] d[a] = false
theorem Rises.nil : Rises [] := fun a b ha => absurd ha (Nat.not_lt_zero _)

/-! At no run. -/
set_option maxHeartbeats 1600000 in
theorem insNone_any (w : World) : Calls Tryz.prog 117 #[.slice none 0 0, .int .i64 0, .int .i64 0, .func (.func 72) #[] #[]] w fun e w' => e = .returned (.tuple #[]) ∧ w' = w := by
  go_enter Tryz.func117, Tryz.ntmps117
  go_wp2_with fail
  refine wp_loop_rounds 1 ?_
  rw [rounds_succ]
  go_wp2_with fail
  go_end0
  exact ⟨rfl, rfl⟩
set_option maxHeartbeats 1600000 in
theorem pdqNone_any (lim : Int) (w : World) : Calls Tryz.prog 94 #[.slice none 0 0, .int .i64 0, .int .i64 0, .int .i64 lim, .func (.func 72) #[] #[]] w fun e w' => e = .returned (.tuple #[]) ∧ w' = w := by
  have HI := Lib.hid (fun w => insNone_any w)
  go_enter Tryz.func94, Tryz.ntmps94
  go_wp2_with fail
  refine wp_loop_rounds 1 ?_
  rw [rounds_succ]
  go_wp2_with fail
  refine (HI.out _).mono ?_
  rintro e w' ⟨rfl, rfl⟩
  go_wp2_with fail
  (try simp only [Exit.inBlock, Exit.then])
  refine bodyPost_ret (results_none rfl _ _ _) rfl ?_
  exact ⟨rfl, rfl⟩
set_option maxHeartbeats 1600000 in
theorem sortNone_any (w : World) : Calls Tryz.prog 71 #[.slice none 0 0, .func (.func 72) #[] #[]] w fun e w' => e = .returned (.tuple #[]) ∧ w' = w := by
  have HP := Lib.hid (fun l w => pdqNone_any l w)
  have hl := Tryz.bits_Len 0 w (by omega) (by omega)
  have HL := Lib.hid hl
  clear hl
  go_enter Tryz.func71, Tryz.ntmps71
  go_wp2_with fail
  refine HL.out.mono ?_
  rintro e w' ⟨rfl, rfl⟩
  go_wp2_with fail
  refine (HP.out _ _).mono ?_
  rintro e w' ⟨rfl, rfl⟩
  go_wp2_with fail
  go_end0
  exact ⟨rfl, rfl⟩

set_option maxHeartbeats 1600000 in
theorem sortR_any (v : Value) (d : List (Nat × Nat)) (B : Nat) (w : World) (h : w.ownsRow B 99 2 v d.length (d.flatMap encR)) (hn : d.length ≤ 1000000) :
    Calls Tryz.prog 71 #[v, .func (.func 72) #[] #[]] w fun e w' => e = .returned (.tuple #[]) ∧ ∃ d', d'.Perm d ∧ Rises d' ∧ Rk 2 encR w' v d' ∧ Below B w w' ∧ RunT w' v := by
  rcases h.2 with ⟨rfl, h0⟩ | ⟨g, cap, cur, rfl, hB, hg, hnc, hm, hsz, ht⟩
  · have : d = [] := List.eq_nil_of_length_eq_zero h0
    subst this
    refine (sortNone_any w).mono ?_
    rintro e w' ⟨rfl, rfl⟩
    exact ⟨rfl, [], List.Perm.refl _, Rises.nil, ⟨none, 0, rfl, Nat.le_refl _, Or.inl rfl⟩, Below.refl _ _, fun k hk => by simp [Value.ownBlock] at hk⟩
  · have hglt := lt_of_at hg
    have eg : ∀ args w, (callFunc 72 args).run Tryz.prog w = .ok (.enter 72 args) w := enters_of Tryz.func72 (by kernel_rfl) rfl
    have hH : HoldsK encR 2 w g 0 d.toArray := by
      intro j hj
      rw [size_flatK, List.size_toArray] at hj
      refine ⟨?_, ?_⟩
      · rw [Nat.zero_add, h.cellAt j hj, get_flatK _ _ _ _ (by rw [List.size_toArray]; exact hj)]
        have hq : j / 2 < d.length := by omega
        have hx : d[j / 2]? = some d.toArray[j / 2]! := by simp [hq]
        have := flat_get encR_len d (j / 2) d.toArray[j / 2]! hx (j % 2) ((encR d.toArray[j / 2]!)[j % 2]!) (by
          rcases (show j % 2 = 0 ∨ j % 2 = 1 by omega) with h | h <;> rw [h] <;> rfl)
        rw [show j / 2 * 2 + j % 2 = j by omega] at this
        exact this
      · rw [Nat.zero_add]; exact frozen_at hg j
    have hcon := AnyQ.slices_SortFunc Tryz.SortRun 2 Tryz.isAgg99 Tryz.sizeOf99 encR (fun _ => rfl) (fun x v hv => by simp [encR] at hv; rcases hv with rfl | rfl <;> rfl) cmpR swoR 72 #[] g 0 cap d.toArray w eg (cmpLaysR g 0 d.toArray.size w) hH hglt (by rw [List.size_toArray]; omega)
    rw [List.size_toArray] at hcon
    refine Calls.mono hcon ?_
    rintro e w' ⟨rfl, d', n, os, hp, hs, rfl⟩
    have hH' := holdsK_sortWorldK_c encR 2 w g 0 d.toArray d' n os hH hglt hp.1
    have hsz' : d'.size = d.length := by rw [hp.1, List.size_toArray]
    have hll : d'.toList.length = d.length := by rw [Array.length_toList]; exact hsz'
    refine ⟨rfl, d'.toList, ?_, ?_, ?_, ?_, fun k hk => by simp [Value.ownBlock] at hk; subst hk; exact sort_at w g n hg d' os⟩
    · have := hp.2.2
      rw [Array.toList_extract, Array.toList_extract, List.extract_eq_take_drop, List.extract_eq_take_drop, List.drop_zero, List.drop_zero, Nat.sub_zero, List.take_of_length_le (by rw [hll]; exact Nat.le_refl _), List.take_of_length_le (Nat.le_refl _)] at this
      exact this
    · intro a b ha hb hab
      have := hs a b (Nat.zero_le _) hab (by simpa [hsz'] using hb)
      rw [ltR] at this
      simp only [Array.length_toList] at ha hb
      rw [getElem!_pos d' b hb, getElem!_pos d' a ha] at this
      simpa using this
    · refine ⟨some ⟨g, 0, none⟩, cap, by rw [hll], by rw [hll]; exact hnc, Or.inr ⟨g, 0, rfl, Nat.lt_of_lt_of_le hglt (size_sortWorldK_c encR 2 w g 0 n d' os), fun j x hj q u hq => ?_⟩⟩
      have hjl : j < d'.size := by have := (List.getElem?_eq_some_iff.1 hj).1; simpa using this
      have hql : q < 2 := by have := (List.getElem?_eq_some_iff.1 hq).1; simpa [encR] using this
      have hc := (hH'.cell hjl hql).1
      have hx : d'[j]! = x := by
        rw [getElem!_pos d' j hjl]
        have := (List.getElem?_eq_some_iff.1 hj).2
        simpa using this
      rw [hx] at hc
      have hu : (encR x)[q]! = u := by rw [List.getElem!_eq_getElem?_getD, hq]; rfl
      rw [hc, hu]
    · exact (below_sort w g n hglt d' os).mono hB
end Go.Proofs.YtjgmfgnfdaeelaaGreatDoor.Sp
