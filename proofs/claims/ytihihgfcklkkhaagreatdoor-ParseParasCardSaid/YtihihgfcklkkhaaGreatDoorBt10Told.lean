import Derived.Test.YtihihgfcklkkhaaGreatDoorPkAC
namespace Go.Proofs.YtihihgfcklkkhaaGreatDoor.Bt
open Go.RowKit
open Go.Proofs.YtihihgfcklkkhaaGreatDoor.Tk (S S_of S_list S_size S_toList ret_int Rd)
open Go.Proofs.YtihihgfcklkkhaaGreatDoor.Cm (calls_at)
open Go.Proofs.YtihihgfcklkkhaaGreatDoor.Sp (Sp Tr ret_bool OkAns)
open Go.Proofs.YtihihgfcklkkhaaGreatDoor.Bk (Bk)
set_option linter.unusedVariables false
mutual
theorem sp1W {R R' : Nat} (h : R ≤ R') : ∀ x : Sp, Sp.fitOne R x → Sp.fitOne R' x
  | .mk k s l, hf => by
    unfold Sp.fitOne at hf ⊢
    exact ⟨hf.1, Nat.le_trans hf.2.1 h, spW h l hf.2.2⟩
theorem spW {R R' : Nat} (h : R ≤ R') : ∀ l : List Sp, Sp.fitAll R l → Sp.fitAll R' l
  | [], _ => by unfold Sp.fitAll; trivial
  | x :: r, hf => by
    unfold Sp.fitAll at hf ⊢
    exact ⟨sp1W h x hf.1, spW h r hf.2⟩
end
mutual
theorem fitOne_wide {R R' : Nat} (h : R ≤ R') : ∀ x : Bk, fitOne R x → fitOne R' x
  | .mk k lv i ls ss l, hf => by
    rw [fitOne] at hf ⊢
    exact ⟨hf.1, hf.2.1, Nat.le_trans hf.2.2.1 h, fun s hs => Nat.le_trans (hf.2.2.2.1 s hs) h, spW h ss hf.2.2.2.2.1, fitAll_wide h l hf.2.2.2.2.2⟩
theorem fitAll_wide {R R' : Nat} (h : R ≤ R') : ∀ l : List Bk, fitAll R l → fitAll R' l
  | [], _ => by unfold fitAll; trivial
  | x :: r, hf => by
    unfold fitAll at hf ⊢
    exact ⟨fitOne_wide h x hf.1, fitAll_wide h r hf.2⟩
end
theorem litB {w : World} {k lv : Int} {i : List UInt8} {vl vs : Value} {ao : Option Addr} {n c : Nat} {ls : List (List UInt8)} {ss : List Sp} {ks : List Bk} (hrd : Rd w vl ls) (hsh : ls.length ≤ 9223372036854775807) (hsp : Tr w vs ss) (htr : TrB w (.slice ao n c) ks) (T : TypeId) :
    TrB (w.alloc (.cells #[.int .i64 k, .int .i64 lv, .string (S i), vl, vs, .slice ao n c] T)) (.slice (some ⟨w.heap.size, 0, none⟩) 1 1) [.mk k lv i ls ss ks] := by
  have hb : Below w.heap.size w (w.alloc (.cells #[.int .i64 k, .int .i64 lv, .string (S i), vl, vs, .slice ao n c] T)) := (Below.refl _ _).alloc (Nat.le_refl _) _
  have hn : n = ks.length := by obtain ⟨_, _, hv, _⟩ := htr; simp only [Value.slice.injEq] at hv; exact hv.2.1
  subst hn
  refine ⟨_, 1, rfl, ⟨Nat.le_refl _, by omega⟩, Or.inr ⟨w.heap.size, 0, rfl, by simp, ?_⟩⟩
  unfold trAll
  refine ⟨trOne_of (vl := vl) (vs := vs) (ao := ao) (cap := c) ⟨?_, ?_, ?_, ?_, ?_, ?_, hrd.below hb, hsh, hsp.below hb, htr.below hb⟩, by unfold trAll; trivial⟩
  · rw [World.cell?_alloc_new]; rfl
  · rw [World.cell?_alloc_new]; rfl
  · rw [World.cell?_alloc_new]; rfl
  · rw [World.cell?_alloc_new]; rfl
  · rw [World.cell?_alloc_new]; rfl
  · rw [World.cell?_alloc_new]; rfl
end Go.Proofs.YtihihgfcklkkhaaGreatDoor.Bt
