import Derived.Test.YthpnbialpkkpgaaGreatDoorPkAD
import Derived.Test.YthpnbialpkkpgaaGreatDoorPkAC
namespace Go.Proofs.YthpnbialpkkpgaaGreatDoor.Bt
open Go.RowKit
open Go.Proofs.YthpnbialpkkpgaaGreatDoor.Tk (S Rd)
open Go.Proofs.YthpnbialpkkpgaaGreatDoor.Sp (Sp Tr)
open Go.Proofs.YthpnbialpkkpgaaGreatDoor.Bk (Bk)
set_option linter.unusedVariables false
theorem allB_mem {li : Bool} : ∀ {l : List Bk} {p : Int}, allB li p l = true → ∀ x ∈ l, oneB li x = true
  | [], _, _, x, hx => by cases hx
  | y :: r, p, h, x, hx => by
    rw [allB_cons, Bool.and_eq_true, Bool.and_eq_true] at h
    rcases List.mem_cons.1 hx with rfl | hx
    · exact h.1.1
    · exact allB_mem h.2 x hx
theorem dp_mem {l : List Bk} {x : Bk} (h : x ∈ l) : dp [x] ≤ dp l := by
  obtain ⟨s, t, rfl⟩ := List.append_of_mem h
  rw [show s ++ x :: t = s ++ ([x] ++ t) by simp, dp_app, dp_app]
  omega
theorem one_rg {l : List Bk} {x : Bk} (h : rgB l = true) (hx : x ∈ l) : rgB [x] = true := by
  obtain ⟨h1, h2⟩ := rg_parts h
  have h3 := dp_mem hx
  unfold rgB
  rw [allB_cons, allB_mem h1 x hx, decide_eq_true (show dp [x] ≤ 16 by omega)]
  simp [allB]
theorem sliceB {w : World} {b o n c : Nat} {l : List Bk} (h : TrB w (.slice (some ⟨b, o, none⟩) n c) l) (k : Nat) (hk : k < l.length) : TrB w (.slice (some ⟨b, o + k * 6, none⟩) 1 (c - k)) [l[k]] ∧ l.length ≤ c := by
  obtain ⟨ao, cap, hv, hc, hx⟩ := h
  simp only [Value.slice.injEq] at hv
  obtain ⟨rfl, rfl, rfl⟩ := hv
  rcases hx with hx | ⟨b', o', hao, hb, hx⟩
  · subst hx; exact absurd hk (Nat.not_lt_zero _)
  · simp only [Option.some.injEq, Addr.mk.injEq, and_true] at hao
    obtain ⟨rfl, rfl⟩ := hao
    refine ⟨⟨_, c - k, rfl, ⟨by simp only [List.length_cons, List.length_nil]; omega, by omega⟩, Or.inr ⟨b, o + k * 6, rfl, hb, ?_⟩⟩, hc.1⟩
    unfold trAll
    exact ⟨trAll_at l o hx k hk, by unfold trAll; trivial⟩
end Go.Proofs.YthpnbialpkkpgaaGreatDoor.Bt
