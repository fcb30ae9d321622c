/-
  WHAT IS ASKED OF THE PROGRAM (tree), over any world; the statements' own awake.
-/
import Derived.Test.YtldllbmbcnipoaaGreatDoorPkTH
import Derived.Test.YtldllbmbcnipoaaGreatDoorBtSame
namespace Go.Proofs.YtldllbmbcnipoaaGreatDoor.Bt
open Go.RowKit
open Go.Proofs.YtldllbmbcnipoaaGreatDoor.Tk (S S_of S_list S_size S_toList ret_int Rd)
open Go.Proofs.YtldllbmbcnipoaaGreatDoor.Cm (calls_at)
open Go.Proofs.YtldllbmbcnipoaaGreatDoor.Sp (Sp Tr ret_bool OkAns)
open Go.Proofs.YtldllbmbcnipoaaGreatDoor.Bk (Bk)
set_option linter.unusedVariables false

def NumAns (w : World) (n : Int) (e : Ending) (w' : World) : Prop := e = .returned (.int .i64 n) ∧ Below w.heap.size w w'
mutual
theorem sp1W {R R' : Nat} (h : R ≤ R') : ∀ x : Sp, Sp.fitOne R x → Sp.fitOne R' x
  | .mk k s l, hf => by
    unfold Sp.fitOne at hf ⊢
    exact ⟨hf.1, Nat.le_trans hf.2.1 h, spW h l hf.2.2⟩
theorem spW {R R' : Nat} (h : R ≤ R') : ∀ l : List Sp, Sp.fitAll R l → Sp.fitAll R' l
  | [], _ => by unfold Sp.fitAll; trivial
  | x :: r, hf => by
    unfold Sp.fitAll at hf ⊢
    exact ⟨sp1W h x hf.1, spW h r hf.2⟩
end
mutual
theorem fitOne_wide {R R' : Nat} (h : R ≤ R') : ∀ x : Bk, fitOne R x → fitOne R' x
  | .mk k lv i ls ss l, hf => by
    rw [fitOne] at hf ⊢
    exact ⟨hf.1, hf.2.1, Nat.le_trans hf.2.2.1 h, fun s hs => Nat.le_trans (hf.2.2.2.1 s hs) h, spW h ss hf.2.2.2.2.1, fitAll_wide h l hf.2.2.2.2.2⟩
theorem fitAll_wide {R R' : Nat} (h : R ≤ R') : ∀ l : List Bk, fitAll R l → fitAll R' l
  | [], _ => by unfold fitAll; trivial
  | x :: r, hf => by
    unfold fitAll at hf ⊢
    exact ⟨fitOne_wide h x hf.1, fitAll_wide h r hf.2⟩
end
theorem fit47 {l : List Bk} (h : fitAll reachBytes l) : fitAll 140737488355328 l := fitAll_wide (by decide) l h

/-- How long texts are, by how much there is. -/
theorem ln_mem : ∀ {ls : List (List UInt8)} {s : List UInt8}, s ∈ ls → s.length ≤ lnTot ls
  | [], _, h => by cases h
  | x :: r, s, h => by
    rw [lnTot]
    rcases List.mem_cons.1 h with rfl | h
    · omega
    · have := ln_mem h; omega
mutual
theorem sp1T {R N : Nat} : ∀ x : Sp, Sp.fitOne R x → Sp.totOne x ≤ N → Sp.fitOne N x
  | .mk k s l, hf, ht => by
    rw [Sp.totOne_eq] at ht
    simp only [Sp.s, Sp.kids] at ht
    unfold Sp.fitOne at hf ⊢
    exact ⟨hf.1, by omega, spT l hf.2.2 (by omega)⟩
theorem spT {R N : Nat} : ∀ l : List Sp, Sp.fitAll R l → Sp.totAll l ≤ N → Sp.fitAll N l
  | [], _, _ => by unfold Sp.fitAll; trivial
  | x :: r, hf, ht => by
    rw [Sp.totAll_cons] at ht
    unfold Sp.fitAll at hf ⊢
    exact ⟨sp1T x hf.1 (by omega), spT r hf.2 (by omega)⟩
end
mutual
theorem fitOne_tt {R N : Nat} : ∀ x : Bk, fitOne R x → ttOne x ≤ N → fitOne N x
  | .mk k lv i ls ss l, hf, ht => by
    rw [ttOne] at ht
    rw [fitOne] at hf ⊢
    exact ⟨hf.1, hf.2.1, by omega, fun s hs => by have := ln_mem hs; omega, spT ss hf.2.2.2.2.1 (by omega), fitAll_tt l hf.2.2.2.2.2 (by omega)⟩
theorem fitAll_tt {R N : Nat} : ∀ l : List Bk, fitAll R l → ttAll l ≤ N → fitAll N l
  | [], _, _ => by unfold fitAll; trivial
  | x :: r, hf, ht => by
    rw [ttAll_cons] at ht
    unfold fitAll at hf ⊢
    exact ⟨fitOne_tt x hf.1 (by omega), fitAll_tt r hf.2 (by omega)⟩
end

theorem nilB (w : World) : TrB w (.slice none 0 0) [] := ⟨none, 0, rfl, ⟨Nat.le_refl _, by omega⟩, Or.inl rfl⟩
theorem nilS (w : World) : Tr w (.slice none 0 0) [] := ⟨none, 0, rfl, ⟨Nat.le_refl _, by omega⟩, Or.inl rfl⟩
theorem nilR (w : World) : Rd w (.slice none 0 0) [] := ⟨none, 0, rfl, Nat.le_refl _, Or.inl rfl⟩
/-- A literal of one block. -/
theorem litB {w : World} {k lv : Int} {i : List UInt8} {vl vs : Value} {ao : Option Addr} {n c : Nat} {ls : List (List UInt8)} {ss : List Sp} {ks : List Bk} (hrd : Rd w vl ls) (hsh : ls.length ≤ 9223372036854775807) (hsp : Tr w vs ss) (htr : TrB w (.slice ao n c) ks) (T : TypeId) :
    TrB (w.alloc (.cells #[.int .i64 k, .int .i64 lv, .string (S i), vl, vs, .slice ao n c] T)) (.slice (some ⟨w.heap.size, 0, none⟩) 1 1) [.mk k lv i ls ss ks] := by
  have hb : Below w.heap.size w (w.alloc (.cells #[.int .i64 k, .int .i64 lv, .string (S i), vl, vs, .slice ao n c] T)) := (Below.refl _ _).alloc (Nat.le_refl _) _
  have hn : n = ks.length := by obtain ⟨_, _, hv, _⟩ := htr; simp only [Value.slice.injEq] at hv; exact hv.2.1
  subst hn
  refine ⟨_, 1, rfl, ⟨Nat.le_refl _, by omega⟩, Or.inr ⟨w.heap.size, 0, rfl, by simp, ?_⟩⟩
  unfold trAll
  refine ⟨trOne_of (vl := vl) (vs := vs) (ao := ao) (cap := c) ⟨?_, ?_, ?_, ?_, ?_, ?_, hrd.below hb, hsh, hsp.below hb, htr.below hb⟩, by unfold trAll; trivial⟩
  · rw [World.cell?_alloc_new]; rfl
  · rw [World.cell?_alloc_new]; rfl
  · rw [World.cell?_alloc_new]; rfl
  · rw [World.cell?_alloc_new]; rfl
  · rw [World.cell?_alloc_new]; rfl
  · rw [World.cell?_alloc_new]; rfl

def awk : List Bk := [.mk 5 0 [] [] [] [.mk 3 0 [] [] [] []]]
theorem awk_rg : rgB awk = true := by decide +kernel
theorem awk_dp : dp awk = 1 := by decide +kernel
theorem awk_cnt : cnt awk = 2 := by decide +kernel
theorem awk_fit : fitAll 1048576 awk := by
  unfold awk
  simp only [fitAll, fitOne, Sp.fitAll, List.length_nil]
  simp
theorem awk_tt : ttAll awk ≤ 9000000 := by decide +kernel
def lst0 : List Bk := [.mk 6 0 [] [] [] []]
theorem lst0_rg : rgB lst0 = false := by decide +kernel
theorem lst0_fit : fitAll 1048576 lst0 := by
  unfold lst0
  simp only [fitAll, fitOne, Sp.fitAll, List.length_nil]
  simp
theorem lst0_tt : ttAll lst0 ≤ 9000000 := by decide +kernel

end Go.Proofs.YtldllbmbcnipoaaGreatDoor.Bt
