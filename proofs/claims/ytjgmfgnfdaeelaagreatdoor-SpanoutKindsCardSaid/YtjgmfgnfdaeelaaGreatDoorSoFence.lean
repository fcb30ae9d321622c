/-
  CONTRACTS of the document's run, Fence (emendationref09).
-/
import Derived.Test.YtjgmfgnfdaeelaaGreatDoorPkD
import Derived.Test.YtjgmfgnfdaeelaaGreatDoorPkA
namespace Go.Proofs.YtjgmfgnfdaeelaaGreatDoor.Sp
open Go.RowKit
open Go.Proofs.YtjgmfgnfdaeelaaGreatDoor.Tk (S S_of S_list S_size S_toList S_app ret_int eq8 ne8 at_data len_data)
open Go.Proofs.YtjgmfgnfdaeelaaGreatDoor.Cm (calls_at)
set_option linter.unusedVariables false

theorem hasRun_fuel (n : Nat) : ∀ (m f f' : Nat) (t : List UInt8), t.length ≤ m → t.length ≤ f → t.length ≤ f' → hasRun n f t = hasRun n f' t
  | m, f, f', [], _, _, _ => by rw [hasRun_nil, hasRun_nil]
  | 0, f, f', b :: r, h, _, _ => by simp at h
  | m + 1, f, f', b :: r, h, h1, h2 => by
    obtain ⟨g, rfl⟩ : ∃ g, f = g + 1 := ⟨f - 1, by simp at h1; omega⟩
    obtain ⟨g', rfl⟩ : ∃ g, f' = g + 1 := ⟨f' - 1, by simp at h2; omega⟩
    have hd := drop_lt (b := b) (r := r)
    have hl : (b :: r).length = r.length + 1 := rfl
    rw [hl] at h h1 h2 hd
    rw [hasRun_cons, hasRun_cons, hasRun_fuel n m g g' _ (by omega) (by omega) (by omega)]
def hrAt (l : List UInt8) (k n : Nat) : Bool := hasRun n (l.drop k).length (l.drop k)
theorem hrAt_step (s : ByteArray) (n k : Nat) (h : k < s.size) : hrAt s.data.toList k n = if ticks (s.data.toList.drop k) = n then true else hrAt s.data.toList (k + max (ticks (s.data.toList.drop k)) 1) n := by
  have hdd : s.data.toList.drop (k + max (ticks (s.data.toList.drop k)) 1) = (s.data.toList.drop k).drop (max (ticks (s.data.toList.drop k)) 1) := by rw [List.drop_drop]
  unfold hrAt
  rw [hdd]
  cases ht : s.data.toList.drop k with
  | nil => exfalso; rw [at_data s k h] at ht; cases ht
  | cons b r =>
    have hd := drop_lt (b := b) (r := r)
    have hl : (b :: r).length = r.length + 1 := rfl
    rw [hl] at hd ⊢
    rw [hasRun_cons, hasRun_fuel n r.length r.length _ _ (by omega) (by omega) (Nat.le_refl _)]

end Go.Proofs.YtjgmfgnfdaeelaaGreatDoor.Sp
