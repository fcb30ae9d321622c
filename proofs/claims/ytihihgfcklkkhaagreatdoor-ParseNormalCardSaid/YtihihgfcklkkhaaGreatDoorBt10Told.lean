import Derived.Test.YtihihgfcklkkhaaGreatDoorPkAC
namespace Go.Proofs.YtihihgfcklkkhaaGreatDoor.Bt
open Go.RowKit
open Go.Proofs.YtihihgfcklkkhaaGreatDoor.Tk (S S_of S_list S_size S_toList ret_int Rd)
open Go.Proofs.YtihihgfcklkkhaaGreatDoor.Sp (Sp Tr ret_bool OkAns)
open Go.Proofs.YtihihgfcklkkhaaGreatDoor.Bk (Bk)
set_option linter.unusedVariables false
mutual
theorem sp1W {R R' : Nat} (h : R ≤ R') : ∀ x : Sp, Sp.fitOne R x → Sp.fitOne R' x
  | .mk k s l, hf => by
    unfold Sp.fitOne at hf ⊢
    exact ⟨hf.1, Nat.le_trans hf.2.1 h, spW h l hf.2.2⟩
theorem spW {R R' : Nat} (h : R ≤ R') : ∀ l : List Sp, Sp.fitAll R l → Sp.fitAll R' l
  | [], _ => by unfold Sp.fitAll; trivial
  | x :: r, hf => by
    unfold Sp.fitAll at hf ⊢
    exact ⟨sp1W h x hf.1, spW h r hf.2⟩
end
mutual
theorem fitOne_wide {R R' : Nat} (h : R ≤ R') : ∀ x : Bk, fitOne R x → fitOne R' x
  | .mk k lv i ls ss l, hf => by
    rw [fitOne] at hf ⊢
    exact ⟨hf.1, hf.2.1, Nat.le_trans hf.2.2.1 h, fun s hs => Nat.le_trans (hf.2.2.2.1 s hs) h, spW h ss hf.2.2.2.2.1, fitAll_wide h l hf.2.2.2.2.2⟩
theorem fitAll_wide {R R' : Nat} (h : R ≤ R') : ∀ l : List Bk, fitAll R l → fitAll R' l
  | [], _ => by unfold fitAll; trivial
  | x :: r, hf => by
    unfold fitAll at hf ⊢
    exact ⟨fitOne_wide h x hf.1, fitAll_wide h r hf.2⟩
end
end Go.Proofs.YtihihgfcklkkhaaGreatDoor.Bt
