import Derived.Test.YthpnbialpkkpgaaGreatDoorPkV
import Derived.Test.YthpnbialpkkpgaaGreatDoorWrProg
namespace Go.Proofs.YthpnbialpkkpgaaGreatDoor.Wr
open Go.RowKit
open Go.Proofs.YthpnbialpkkpgaaGreatDoor.Tk (S S_of S_list S_size S_toList ret_int Rd)
open Go.Proofs.YthpnbialpkkpgaaGreatDoor.Sp (Sp Tr ret_bool OkAns totAll totOne totAll_cons)
open Go.Proofs.YthpnbialpkkpgaaGreatDoor.Bt (TrB fitAll ttAll ttOne lnTot spAll spOne lnW hdW rgB)
open Go.Proofs.YthpnbialpkkpgaaGreatDoor.Bk (Bk Tx)
set_option linter.unusedVariables false
mutual
theorem sp1_up (deep : Nat) (left n : Int) : ∀ x : Sp, Sp.spOne deep left n x ≤ n + 1000001 * totOne x
  | .mk k s l => by
    have := spA_up (deep - 1) (left - (n + 1 + s.length)) 0 l
    unfold Sp.spOne
    rw [totOne]
    omega
theorem spA_up (deep : Nat) (left n : Int) : ∀ l : List Sp, Sp.spAll deep left n l ≤ n + 1000001 * totAll l
  | [] => by unfold Sp.spAll totAll; omega
  | x :: r => by
    have h1 := sp1_up deep left n x
    have h2 := spA_up deep left (Sp.spOne deep left n x) r
    have h3 : 1 ≤ totOne x := by rw [Sp.totOne_eq]; omega
    rw [Sp.spAll_cons, totAll_cons]
    split <;> omega
end
theorem lnW_is : ∀ (l : List Tx) (n : Int), 0 ≤ n → n + lnTot l ≤ 4000000000000000000 → lnW n l = n + lnTot l
  | [], n, _, _ => by rw [lnW, lnTot]; omega
  | s :: r, n, h0, h => by
    rw [lnTot] at h
    have e : IntKind.i64.wrap (IntKind.i64.wrap (n + 1) + s.length) = n + 1 + s.length := by simp only [IntKind.wrap_i64]; omega
    rw [lnW, e, lnW_is r _ (by omega) (by omega), lnTot]
    omega
mutual
theorem bk1_up (deep : Nat) (left n : Int) (h0 : 0 ≤ n) : ∀ x : Bk, n + 1000001 * ttOne x ≤ 4000000000000000000 → n + 1 ≤ spOne deep left n x ∧ spOne deep left n x ≤ n + 1000001 * ttOne x ∧ (spOne deep left n x < 1000000 → spOne deep left n x = n + ttOne x)
  | .mk k lv i ls ss l, h => by
    rw [ttOne] at h ⊢
    have hs1 := Sp.spAll_ge 30 5000 0 ss
    have hs2 := spA_up 30 5000 0 ss
    have hs3 := Sp.spAll_small 30 5000 0 (Int.le_refl _) ss
    have hw : IntKind.i64.wrap (IntKind.i64.wrap (IntKind.i64.wrap (n + 1) + i.length) + Sp.spAll 30 5000 0 ss) = n + 1 + i.length + Sp.spAll 30 5000 0 ss := by simp only [IntKind.wrap_i64]; omega
    rw [spOne, hw, lnW_is ls _ (by omega) (by omega)]
    obtain ⟨k1, k2, k3⟩ := bkA_up (deep - 1) (IntKind.i64.wrap (left - (n + 1 + i.length + Sp.spAll 30 5000 0 ss + lnTot ls))) 0 (Int.le_refl _) l (by omega)
    generalize spAll (deep - 1) (IntKind.i64.wrap (left - (n + 1 + i.length + Sp.spAll 30 5000 0 ss + lnTot ls))) 0 l = z at *
    generalize Sp.spAll 30 5000 0 ss = y at *
    have e : IntKind.i64.wrap (n + 1 + i.length + y + lnTot ls + z) = n + 1 + i.length + y + lnTot ls + z := by simp only [IntKind.wrap_i64]; omega
    rw [e]
    refine ⟨by omega, by omega, fun hlt => ?_⟩
    have := (hs3 (by omega)).1
    have := k3 (by omega)
    omega
theorem bkA_up (deep : Nat) (left n : Int) (h0 : 0 ≤ n) : ∀ l : List Bk, n + 1000001 * ttAll l ≤ 4000000000000000000 → n ≤ spAll deep left n l ∧ spAll deep left n l ≤ n + 1000001 * ttAll l ∧ (spAll deep left n l < 1000000 → spAll deep left n l = n + ttAll l)
  | [], h => by rw [spAll, ttAll]; exact ⟨by omega, by omega, fun _ => by omega⟩
  | x :: r, h => by
    rw [Bt.ttAll_cons] at h ⊢
    obtain ⟨h1, h2, h3⟩ := bk1_up deep left n h0 x (by omega)
    have h4 : 1 ≤ ttOne x := by rw [Bt.ttOne_eq]; omega
    obtain ⟨h5, h6, h7⟩ := bkA_up deep left (spOne deep left n x) (by omega) r (by omega)
    rw [Bt.spAll_cons]
    split
    · have e : IntKind.i64.wrap (n + 1000000) = n + 1000000 := by simp only [IntKind.wrap_i64]; omega
      rw [e]
      exact ⟨by omega, by omega, fun h => by omega⟩
    · exact ⟨by omega, by omega, fun hlt => by have := h7 hlt; have := h3 (by omega); omega⟩
end
def smallB (l : List Bk) : Bool := decide (spAll 40 5000 0 l < 700)
theorem small_tt {l : List Bk} (h : smallB l = true) (ht : ttAll l ≤ 1048576) : ttAll l < 700 := by
  have h1 : spAll 40 5000 0 l < 700 := of_decide_eq_true h
  have := (bkA_up 40 5000 0 (Int.le_refl _) l (by omega)).2.2 (by omega)
  omega
theorem small_any (l : List Bk) (v : Value) (w : World) (ht : TrB w v l) (hf : fitAll reachBytes l) :
    Calls Tryz.prog 12 #[v] w (OkAns w (smallB l)) := by
  have H := Lib.hid (Bt.sizeB_any l v w ht hf)
  have HB : Hid (smallB l = decide (spAll 40 5000 0 l < 700)) := Lib.hid rfl
  clear ht hf
  generalize spAll 40 5000 0 l = z at *
  go_enter Tryz.func12, Tryz.ntmps12
  go_wp2_with fail
  refine H.out.mono ?_
  rintro e w1 ⟨rfl, n, rfl⟩
  clear H
  go_wp2_with fail
  go_ret
  exact ⟨ret_bool (by rw [HB.out]), below_drewN (Below.refl _ _) n⟩
def awk13 : List Bk := [.mk 3 0 [] [] [] [], .mk 5 0 [] [] [] []]
theorem awk_rg13 : rgB awk13 = true := by decide +kernel
theorem awk_w13 : Ln.jn (Bk.wl awk13) true = [45, 45, 45, 10, 10, 62, 10] := by decide +kernel
theorem awk_fit13 : fitAll 1048576 awk13 := by
  unfold awk13
  simp only [fitAll, Bt.fitOne, Sp.fitAll, List.length_nil]
  simp
theorem awk_tr13 (w : World) : TrB (w.alloc (.cells #[.int .i64 3, .int .i64 0, .string ⟨#[]⟩, .slice none 0 0, .slice none 0 0, .slice none 0 0, .int .i64 5, .int .i64 0, .string ⟨#[]⟩, .slice none 0 0, .slice none 0 0, .slice none 0 0] 46)) (.slice (some ⟨w.heap.size, 0, none⟩) 2 2) awk13 := by
  refine ⟨_, 2, rfl, ⟨Nat.le_refl _, by omega⟩, Or.inr ⟨w.heap.size, 0, rfl, by simp, ?_⟩⟩
  unfold awk13 Bt.trAll
  refine ⟨Bt.trOne_of (vl := .slice none 0 0) (vs := .slice none 0 0) (ao := none) (cap := 0) ⟨?_, ?_, ?_, ?_, ?_, ?_, Bt.nilR _, Nat.zero_le _, Bt.nilS _, Bt.nilB _⟩, ?_⟩
  · rw [World.cell?_alloc_new]; rfl
  · rw [World.cell?_alloc_new]; rfl
  · rw [World.cell?_alloc_new]; rfl
  · rw [World.cell?_alloc_new]; rfl
  · rw [World.cell?_alloc_new]; rfl
  · rw [World.cell?_alloc_new]; rfl
  unfold Bt.trAll
  refine ⟨Bt.trOne_of (vl := .slice none 0 0) (vs := .slice none 0 0) (ao := none) (cap := 0) ⟨?_, ?_, ?_, ?_, ?_, ?_, Bt.nilR _, Nat.zero_le _, Bt.nilS _, Bt.nilB _⟩, by unfold Bt.trAll; trivial⟩
  · rw [World.cell?_alloc_new]; rfl
  · rw [World.cell?_alloc_new]; rfl
  · rw [World.cell?_alloc_new]; rfl
  · rw [World.cell?_alloc_new]; rfl
  · rw [World.cell?_alloc_new]; rfl
  · rw [World.cell?_alloc_new]; rfl
set_option maxHeartbeats 1600000 in
theorem awake13_any (w : World) : Calls Tryz.prog 11 #[] w (OkAns w true) := by
  have HD := Lib.hid (documentW_any _ awk13 _ (awk_tr13 w) awk_fit13 (by decide +kernel))
  have HT := Lib.hid (fun w' => ticks_any (.slice none 0 0) [] w' (Bt.nilR _) (by simp) (fun x hx => by cases hx))
  have HB := Lib.hid ((Below.refl w.heap.size w).alloc (Nat.le_refl _) (.cells #[.int .i64 3, .int .i64 0, .string ⟨#[]⟩, .slice none 0 0, .slice none 0 0, .slice none 0 0, .int .i64 5, .int .i64 0, .string ⟨#[]⟩, .slice none 0 0, .slice none 0 0, .slice none 0 0] 46))
  unfold WrDoc wrL wrE at HD
  rw [awk_rg13, if_pos rfl, if_pos rfl, awk_w13] at HD
  have e3 : ((Bk.ticksL [] : Nat) : Int) = 3 := rfl
  simp only [e3] at HT
  have eS : (S [45, 45, 45, 10, 10, 62, 10]).toList == [45, 45, 45, 10, 10, 62, 10] := by rw [S_toList]; rfl
  generalize S [45, 45, 45, 10, 10, 62, 10] = y at *
  clear e3
  go_enter Tryz.func11, Tryz.ntmps11
  go_wp2_with fail
  refine HD.out.mono ?_
  rintro e w2 ⟨rfl, b2⟩
  have B2 := Lib.hid (HB.out.trans (b2.mono HB.out.size))
  clear b2 HD HB
  go_wp2_with fail
  refine (HT.out _).mono ?_
  rintro e w3 ⟨rfl, rfl⟩
  clear HT
  go_wp2_with fail
  go_ret
  exact ⟨rfl, B2.out⟩
end Go.Proofs.YthpnbialpkkpgaaGreatDoor.Wr
