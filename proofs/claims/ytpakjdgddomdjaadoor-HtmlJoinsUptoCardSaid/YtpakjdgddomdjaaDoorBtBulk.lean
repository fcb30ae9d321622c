/-
  THE SECOND FORM's BULK, as the rows reckon it, is a reckoning of what a reading holds.
-/
import Derived.Test.YtpakjdgddomdjaaDoorRows
import Derived.Test.YtpakjdgddomdjaaDoorBtTree
namespace Go.Proofs.YtpakjdgddomdjaaDoor.Bt
open Go.RowKit
set_option linter.unusedVariables false

theorem rowsBulk (H : Type) : Bulk (Rows.uptoBulk (H := H)) Rows.uptoBulkAll where
  str := fun b => by rw [Rows.uptoBulk]; omega
  strp := fun b => by rw [Rows.uptoBulk]; omega
  slice := fun e s => by rw [Rows.uptoBulk]; omega
  agg := fun p => by rw [Rows.uptoBulk]; omega
  cons := fun d r => by rw [Rows.uptoBulkAll]
  nil := by rw [Rows.uptoBulkAll]
theorem small_one {H : Type} {d : DataW H} {r : List (DataW H)} (hk : Rows.uptoSmall H (d :: r) = true) : Rows.uptoBulk d ≤ 1048576 := by
  have h : Rows.uptoBulkAll (d :: r) ≤ 1048576 := of_decide_eq_true hk
  rw [Rows.uptoBulkAll] at h
  omega
theorem small_two {H : Type} {d e : DataW H} {r : List (DataW H)} (hk : Rows.uptoSmall H (d :: e :: r) = true) : Rows.uptoBulk d + Rows.uptoBulk e ≤ 1048576 := by
  have h : Rows.uptoBulkAll (d :: e :: r) ≤ 1048576 := of_decide_eq_true hk
  rw [Rows.uptoBulkAll, Rows.uptoBulkAll] at h
  omega
end Go.Proofs.YtpakjdgddomdjaaDoor.Bt
