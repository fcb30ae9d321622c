/-
  Several texts in one:
  FEW ENOUGH: what the document's Size (emendationref10) tells of what isn't too much for a machine.
  WHAT IS ASKED OF THE PROGRAM (number), over any world; the statements' own few and awake (emendationlaw15).
-/
import Derived.Test.YtldllbmbcnipoaaDoorPkNH
import Derived.Test.YtldllbmbcnipoaaDoorPkNO
import Derived.Test.YtldllbmbcnipoaaDoorPkND
namespace Go.Proofs.YtldllbmbcnipoaaDoor.Nm
open Go.RowKit
open Go.Proofs.YtldllbmbcnipoaaDoor.Sp (Sp totAll totOne totAll_cons)
open Go.Proofs.YtldllbmbcnipoaaDoor.Bt (ttAll ttOne lnTot spAll spOne lnW)
open Go.Proofs.YtldllbmbcnipoaaDoor.Bk (Bk Tx)
set_option linter.unusedVariables false

mutual
theorem sp1_up (deep : Nat) (left n : Int) : ∀ x : Sp, Sp.spOne deep left n x ≤ n + 1000001 * totOne x
  | .mk k s l => by
    have := spA_up (deep - 1) (left - (n + 1 + s.length)) 0 l
    unfold Sp.spOne
    rw [totOne]
    omega
theorem spA_up (deep : Nat) (left n : Int) : ∀ l : List Sp, Sp.spAll deep left n l ≤ n + 1000001 * totAll l
  | [] => by unfold Sp.spAll totAll; omega
  | x :: r => by
    have h1 := sp1_up deep left n x
    have h2 := spA_up deep left (Sp.spOne deep left n x) r
    have h3 : 1 ≤ totOne x := by rw [Sp.totOne_eq]; omega
    rw [Sp.spAll_cons, totAll_cons]
    split <;> omega
end
theorem lnW_is : ∀ (l : List Tx) (n : Int), 0 ≤ n → n + lnTot l ≤ 4000000000000000000 → lnW n l = n + lnTot l
  | [], n, _, _ => by rw [lnW, lnTot]; omega
  | s :: r, n, h0, h => by
    rw [lnTot] at h
    have e : IntKind.i64.wrap (IntKind.i64.wrap (n + 1) + s.length) = n + 1 + s.length := by simp only [IntKind.wrap_i64]; omega
    rw [lnW, e, lnW_is r _ (by omega) (by omega), lnTot]
    omega
mutual
theorem bk1_up (deep : Nat) (left n : Int) (h0 : 0 ≤ n) : ∀ x : Bk, n + 1000001 * ttOne x ≤ 4000000000000000000 → n + 1 ≤ spOne deep left n x ∧ spOne deep left n x ≤ n + 1000001 * ttOne x ∧ (spOne deep left n x < 1000000 → spOne deep left n x = n + ttOne x)
  | .mk k lv i ls ss l, h => by
    rw [ttOne] at h ⊢
    have hs1 := Sp.spAll_ge 30 5000 0 ss
    have hs2 := spA_up 30 5000 0 ss
    have hs3 := Sp.spAll_small 30 5000 0 (Int.le_refl _) ss
    have hw : IntKind.i64.wrap (IntKind.i64.wrap (IntKind.i64.wrap (n + 1) + i.length) + Sp.spAll 30 5000 0 ss) = n + 1 + i.length + Sp.spAll 30 5000 0 ss := by simp only [IntKind.wrap_i64]; omega
    rw [spOne, hw, lnW_is ls _ (by omega) (by omega)]
    obtain ⟨k1, k2, k3⟩ := bkA_up (deep - 1) (IntKind.i64.wrap (left - (n + 1 + i.length + Sp.spAll 30 5000 0 ss + lnTot ls))) 0 (Int.le_refl _) l (by omega)
    generalize spAll (deep - 1) (IntKind.i64.wrap (left - (n + 1 + i.length + Sp.spAll 30 5000 0 ss + lnTot ls))) 0 l = z at *
    generalize Sp.spAll 30 5000 0 ss = y at *
    have e : IntKind.i64.wrap (n + 1 + i.length + y + lnTot ls + z) = n + 1 + i.length + y + lnTot ls + z := by simp only [IntKind.wrap_i64]; omega
    rw [e]
    refine ⟨by omega, by omega, fun hlt => ?_⟩
    have := (hs3 (by omega)).1
    have := k3 (by omega)
    omega
theorem bkA_up (deep : Nat) (left n : Int) (h0 : 0 ≤ n) : ∀ l : List Bk, n + 1000001 * ttAll l ≤ 4000000000000000000 → n ≤ spAll deep left n l ∧ spAll deep left n l ≤ n + 1000001 * ttAll l ∧ (spAll deep left n l < 1000000 → spAll deep left n l = n + ttAll l)
  | [], h => by rw [spAll, ttAll]; exact ⟨by omega, by omega, fun _ => by omega⟩
  | x :: r, h => by
    rw [Bt.ttAll_cons] at h ⊢
    obtain ⟨h1, h2, h3⟩ := bk1_up deep left n h0 x (by omega)
    have h4 : 1 ≤ ttOne x := by rw [Bt.ttOne_eq]; omega
    obtain ⟨h5, h6, h7⟩ := bkA_up deep left (spOne deep left n x) (by omega) r (by omega)
    rw [Bt.spAll_cons]
    split
    · have e : IntKind.i64.wrap (n + 1000000) = n + 1000000 := by simp only [IntKind.wrap_i64]; omega
      rw [e]
      exact ⟨by omega, by omega, fun h => by omega⟩
    · exact ⟨by omega, by omega, fun hlt => by have := h7 hlt; have := h3 (by omega); omega⟩
end
theorem few_tt {l : List Bk} {n : Int} (hn : n ≤ 3000) (h : spAll 40 5000 0 l < n) (ht : ttAll l ≤ 1048576) : (ttAll l : Int) < n := by
  have := (bkA_up 40 5000 0 (Int.le_refl _) l (by omega)).2.2 (by omega)
  omega
end Go.Proofs.YtldllbmbcnipoaaDoor.Nm

namespace Go.Proofs.YtldllbmbcnipoaaDoor.Nm
open Go.RowKit
open Go.Proofs.YtldllbmbcnipoaaDoor.Tk (S S_of S_list S_size S_toList S_app Rd RdI ret_int)
open Go.Proofs.YtldllbmbcnipoaaDoor.Cm (cell_at alloc_new Keep Keep.of_below calls_at)
open Go.Proofs.YtldllbmbcnipoaaDoor.Sp (Sp Tr totAll)
open Go.Proofs.YtldllbmbcnipoaaDoor.Bt (TrB ttAll ttOne lnTot szAll szOne smB spAll)
open Go.Proofs.YtldllbmbcnipoaaDoor.Bk (Bk Tx)
set_option linter.unusedVariables false

/-- A slice of slices of blocks. -/
def LsB (w : World) (v : Value) (ls : List (List Bk)) : Prop :=
  ∃ ao cap, v = .slice ao ls.length cap ∧ ls.length ≤ cap ∧ (ls = [] ∨ ∃ b o, ao = some ⟨b, o, none⟩ ∧ b < w.heap.size ∧ ∀ j l, ls[j]? = some l → ∃ u, w.cell? ⟨b, o + j, none⟩ = some u ∧ TrB w u l)
/-- A slice of slices of numbers. -/
def RdJ (w : World) (v : Value) (ids : List (List Int)) : Prop :=
  ∃ ao cap, v = .slice ao ids.length cap ∧ (ids = [] ∨ ∃ b o, ao = some ⟨b, o, none⟩ ∧ b < w.heap.size ∧ ∀ j x, ids[j]? = some x → ∃ u, w.cell? ⟨b, o + j, none⟩ = some u ∧ RdI 0 w u x)
theorem RdJ.below {w w' : World} {v : Value} {ids : List (List Int)} (h : RdJ w v ids) (hb : Below w.heap.size w w') : RdJ w' v ids := by
  obtain ⟨ao, cap, hv, hx⟩ := h
  refine ⟨ao, cap, hv, ?_⟩
  rcases hx with hx | ⟨b, o, hao, hlt, hcell⟩
  · exact Or.inl hx
  · refine Or.inr ⟨b, o, hao, Nat.lt_of_lt_of_le hlt hb.size, fun j x hj => ?_⟩
    obtain ⟨u, h1, h2⟩ := hcell j x hj
    exact ⟨u, (hb.cell (by exact hlt)).trans h1, h2.below hb⟩
/-- The numbers of all lists. -/
def idL (ls : List (List Bk)) : List (List Int) := ls.map fun l => Tk.rk (ls.flatten.map bk1) (l.map bk1)
structure Told15 : Prop where
  key : ∀ (x : Bk) (v : Value) (w : World), BkV w x v → Tab w → ttOne x ≤ 2000 → Bt.fitOne 140737488355328 x → Calls Tryd.prog 11 #[v] w (StrA w (S (bk1 x)))
  ids : ∀ (v : Value) (ls : List (List Bk)) (w : World), LsB w v ls → Tab w → ls.length ≤ 10 → (∀ l ∈ ls, ttAll l ≤ 2000 ∧ Bt.fitAll 140737488355328 l) → Calls Tryd.prog 9 #[v] w fun e w' => ∃ v', e = .returned v' ∧ RdJ w' v' (idL ls) ∧ Below w.heap.size w w'
  alike : ∀ (x y : Bk) (vx vy : Value) (w : World), BkV w x vx → BkV w y vy → Tab w → ttOne x ≤ 2000 → ttOne y ≤ 2000 → Bt.fitOne 140737488355328 x → Bt.fitOne 140737488355328 y → Calls Tryd.prog 12 #[vx, vy] w (IntA w (al x y : Nat))

def BoolA (w : World) (y : Bool) (e : Ending) (w' : World) : Prop := e = .returned (.bool y) ∧ Below w.heap.size w w'
def fewN (l : List Bk) : Bool := decide (l.length ≤ 20) && decide (spAll 40 5000 0 l < 800)
theorem fewN_tt {l : List Bk} (h : fewN l = true) (ht : ttAll l ≤ 1048576) : l.length ≤ 20 ∧ ttAll l < 800 := by
  unfold fewN at h
  rw [Bool.and_eq_true, decide_eq_true_iff, decide_eq_true_iff] at h
  have := few_tt (by omega) h.2 ht
  exact ⟨h.1, by omega⟩
theorem few15_any (l : List Bk) (v : Value) (w : World) (ht : TrB w v l) (hf : Bt.fitAll reachBytes l) :
    Calls Tryd.prog 8 #[v] w (BoolA w (fewN l)) := by
  have H := Lib.hid (Bt.sizeB_any l v w ht hf)
  obtain ⟨ao, ca, rfl⟩ := ht.len
  unfold fewN
  clear ht hf
  generalize spAll 40 5000 0 l = z at *
  by_cases hl : l.length ≤ 20
  · have g1 : decide ((l.length : Int) ≤ 20) = true := decide_eq_true (by omega)
    rw [decide_eq_true hl, Bool.true_and]
    go_enter Tryd.func8, Tryd.ntmps8
    go_wp2_with fail
    refine H.out.mono ?_
    rintro e w1 ⟨rfl, n, rfl⟩
    clear H
    go_wp2_with fail
    go_ret
    exact ⟨rfl, below_drewN (Below.refl _ _) n⟩
  · have g1 : decide ((l.length : Int) ≤ 20) = false := decide_eq_false (by omega)
    rw [decide_eq_false hl, Bool.false_and]
    clear H
    go_enter Tryd.func8, Tryd.ntmps8
    go_wp2_with fail
    go_ret
    exact ⟨rfl, Below.refl _ _⟩
theorem bkv_lit (w : World) (k : Int) : BkV w (.mk k 0 [] [] [] []) (.agg #[.int .i64 k, .int .i64 0, .string ⟨#[]⟩, .slice none 0 0, .slice none 0 0, .slice none 0 0]) :=
  ⟨none, none, none, 0, 0, 0, rfl, ⟨none, 0, rfl, Nat.le_refl _, Or.inl rfl⟩, Nat.zero_le _, ⟨none, 0, rfl, ⟨Nat.le_refl _, by omega⟩, Or.inl rfl⟩, ⟨none, 0, rfl, ⟨Nat.le_refl _, by omega⟩, Or.inl rfl⟩⟩
theorem fit_lit (k : Int) (hk : -9223372036854775808 ≤ k ∧ k ≤ 9223372036854775807) : Bt.fitOne 140737488355328 (.mk k 0 [] [] [] []) := by
  rw [Bt.fitOne]
  exact ⟨hk, by omega, by simp, fun s hs => (by cases hs), by unfold Sp.fitAll; trivial, by unfold Bt.fitAll; trivial⟩
set_option maxHeartbeats 1600000 in
theorem awake15_any (K : Told15) (w : World) (hT : Tab w) : Calls Tryd.prog 7 #[] w (BoolA w true) := by
  have HK := Lib.hid (K.key _ _ w (bkv_lit w 3) hT (by decide) (fit_lit 3 (by omega)))
  have e1 : bk1 (.mk 3 0 [] [] [] []) = [51, 59, 48, 59, 48, 58, 48, 59, 48, 59, 48, 59] := by
    have d0 : dgN 0 = [48] := by rw [dgN_small (by omega)]; rfl
    have d3 : dgN 3 = [51] := by rw [dgN_small (by omega)]; rfl
    have i0 : dgI 0 = [48] := by unfold dgI; rw [if_neg (by omega)]; exact d0
    have i3 : dgI 3 = [51] := by unfold dgI; rw [if_neg (by omega)]; exact d3
    rw [bk1]
    unfold spK tx
    simp [d0, i0, i3, txs, spR, bkR]
  rw [e1] at HK
  have HA := Lib.hid (fun w' (b : Below w.heap.size w w') => K.alike _ _ _ _ w' (bkv_lit w' 0) (bkv_lit w' 0) (hT.below b) (by decide) (by decide) (fit_lit 0 (by omega)) (fit_lit 0 (by omega)))
  have e2 : al (.mk 0 0 [] [] [] []) (.mk 0 0 [] [] [] []) = 1000 := by unfold al; rw [if_pos ((Bt.smB_iff _ _).2 rfl)]
  rw [e2] at HA
  have eS : (S [51, 59, 48, 59, 48, 58, 48, 59, 48, 59, 48, 59]).toList == [51, 59, 48, 59, 48, 58, 48, 59, 48, 59, 48, 59] := by rw [S_toList]; rfl
  unfold StrA at HK
  unfold IntA at HA
  generalize S [51, 59, 48, 59, 48, 58, 48, 59, 48, 59, 48, 59] = y at *
  clear e1 e2
  go_enter Tryd.func7, Tryd.ntmps7
  go_wp2_with fail
  refine HK.out.mono ?_
  rintro e w2 ⟨rfl, b2⟩
  have B2 := Lib.hid b2
  clear b2 HK
  go_wp2_with fail
  refine (HA.out _ B2.out).mono ?_
  rintro e w3 ⟨rfl, b3⟩
  have B3 := Lib.hid (B2.out.trans (b3.mono B2.out.size))
  clear b3 HA B2
  go_wp2_with fail
  go_ret
  exact ⟨rfl, B3.out⟩
end Go.Proofs.YtldllbmbcnipoaaDoor.Nm
