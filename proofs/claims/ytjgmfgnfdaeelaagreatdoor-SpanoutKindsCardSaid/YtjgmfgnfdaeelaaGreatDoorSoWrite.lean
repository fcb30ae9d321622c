/-
  CONTRACTS of the document's Write, Checked (emendationref09).
-/
import Derived.Test.YtjgmfgnfdaeelaaGreatDoorPkE
import Derived.Test.YtjgmfgnfdaeelaaGreatDoorSoEsc
import Derived.Test.YtjgmfgnfdaeelaaGreatDoorSoFence
import Derived.Test.YtjgmfgnfdaeelaaGreatDoorSoPad
import Derived.Lib.QuietBelow
import Derived.BigQuiet
namespace Go.Proofs.YtjgmfgnfdaeelaaGreatDoor.Sp
open Go.RowKit
open Go.Proofs.YtjgmfgnfdaeelaaGreatDoor.Tk (S S_of S_list S_size S_toList S_app ret_int eq8 ne8 at_data len_data)
open Go.Proofs.YtjgmfgnfdaeelaaGreatDoor.Cm (calls_at Keep alloc_new alloc_at cell_at lt_of_at)
set_option linter.unusedVariables false

theorem fence_le (s : List UInt8) : ∀ f n, fence s f n ≤ n + f
  | 0, n => Nat.le_refl _
  | f + 1, n => by
    have := fence_le s f (n + 1)
    show (if hasRun n s.length s = true then fence s f (n + 1) else n) ≤ _
    split <;> omega
theorem ticksOf_le (s : List UInt8) : ticksOf s ≤ s.length + 2 := by
  have := fence_le s (s.length + 1) 1
  unfold ticksOf
  omega
theorem padded_le (s : List UInt8) : (padded s).length ≤ s.length + 2 := by
  unfold padded
  split <;> simp
theorem wr1_eq (x : Sp) : wr1 x = if x.kind = 1 then esc x.s else if x.kind = 2 then List.replicate (ticksOf x.s) 96 ++ (padded x.s ++ List.replicate (ticksOf x.s) 96)
    else if x.kind = 3 then 42 :: (wrs x.kids ++ [42]) else if x.kind = 4 then 91 :: (wrs x.kids ++ (93 :: 40 :: (x.s ++ [41]))) else [] := by
  obtain ⟨k, s, kids⟩ := x
  rw [wr1]
  rfl
theorem wrs_cons (x : Sp) (r : List Sp) : wrs (x :: r) = wr1 x ++ wrs r := by rw [wrs]
mutual
theorem wr1_le : ∀ x : Sp, (wr1 x).length ≤ 6 * totOne x
  | .mk q s l => by
    have h := wrs_le l
    have h1 := esc_le s
    have h2 := ticksOf_le s
    have h3 := padded_le s
    rw [totOne_eq, wr1_eq]
    show (if q = 1 then esc s else if q = 2 then List.replicate (ticksOf s) 96 ++ (padded s ++ List.replicate (ticksOf s) 96)
      else if q = 3 then 42 :: (wrs l ++ [42]) else if q = 4 then 91 :: (wrs l ++ (93 :: 40 :: (s ++ [41]))) else []).length ≤ 6 * (1 + s.length + totAll l)
    split
    · omega
    · split
      · simp only [List.length_append, List.length_replicate]; omega
      · split
        · simp only [List.length_append, List.length_cons, List.length_nil]; omega
        · split
          · simp only [List.length_append, List.length_cons, List.length_nil]; omega
          · simp
theorem wrs_le : ∀ l : List Sp, (wrs l).length ≤ 6 * totAll l
  | [] => by simp [wrs]
  | x :: r => by
    have h1 := wr1_le x
    have h2 := wrs_le r
    rw [wrs_cons, totAll_cons, List.length_append]
    omega
end
def WrAns (w : World) (x : ByteArray) (e : Ending) (w' : World) : Prop := e = .returned (.string x) ∧ Below w.heap.size w w'

end Go.Proofs.YtjgmfgnfdaeelaaGreatDoor.Sp
