import Derived.Test.YtihihgfcklkkhaaGreatDoorPkAQ
namespace Go.Proofs.YtihihgfcklkkhaaGreatDoor.Cm
open Go.RowKit
theorem u8_of {a : Int} (h : (Lit.int .u8 a).wf = true) : ∃ c : UInt8, a = (c.toNat : Int) := by
  have h' : 0 ≤ a ∧ a ≤ 255 := by simpa [Lit.wf, IntKind.min, IntKind.max, IntKind.signed, IntKind.bits] using h
  exact ⟨UInt8.ofNat a.toNat, by rw [UInt8.toNat_ofNat']; omega⟩
end Go.Proofs.YtihihgfcklkkhaaGreatDoor.Cm
