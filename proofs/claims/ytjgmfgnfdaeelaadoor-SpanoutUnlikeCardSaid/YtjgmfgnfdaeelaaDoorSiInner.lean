/-
  CONTRACTS of inner and tailLength (spanin).
-/
import Derived.Test.YtjgmfgnfdaeelaaDoorSiSmall
import Derived.Test.YtjgmfgnfdaeelaaDoorSpChars
namespace Go.Proofs.YtjgmfgnfdaeelaaDoor.Sp
open Go.RowKit
open Go.Proofs.YtjgmfgnfdaeelaaDoor.Tk (S S_of S_list S_size S_toList S_app ret_int eq8 ne8 at_data len_data drop_all)
set_option linter.unusedVariables false

theorem dw_nil_iff {α : Type} (p : α → Bool) : ∀ l : List α, l.dropWhile p = [] ↔ ∀ x ∈ l, p x = true
  | [] => by simp
  | x :: r => by
    rw [List.dropWhile_cons]
    by_cases h : p x = true
    · rw [if_pos h, dw_nil_iff p r]
      simp [h]
    · rw [if_neg h]
      simp [h]
theorem trimB_nil (l : List UInt8) : (Lib.trimB l 32 = []) ↔ onlySp l = true := by
  unfold Lib.trimB Lib.trimLeftB Lib.trimRightB onlySp
  rw [dw_nil_iff, List.all_eq_true]
  constructor
  · intro h
    by_cases hn : l.reverse.dropWhile (· == 32) = []
    · rw [dw_nil_iff] at hn
      intro x hx
      exact hn x (List.mem_reverse.2 hx)
    · exfalso
      have := List.head_dropWhile_not (p := (· == (32 : UInt8))) (l := l.reverse) hn
      have hm := h _ (List.mem_reverse.2 (List.head_mem hn))
      rw [hm] at this
      cases this
  · intro h x hx
    have hx := List.mem_reverse.1 hx
    exact h x (List.mem_reverse.1 ((List.dropWhile_sublist _).subset hx))
theorem trim_bne (s : ByteArray) : ((⟨(Lib.trimB s.data.toList 32).toArray⟩ : ByteArray).toList != ([] : List UInt8)) = !onlySp s.data.toList := by
  rw [Lib.toList_data]
  have e : (⟨(Lib.trimB s.data.toList 32).toArray⟩ : ByteArray).data.toList = Lib.trimB s.data.toList 32 := rfl
  rw [e, Bool.eq_iff_iff, bne_iff_ne, ne_eq, trimB_nil]
  simp

end Go.Proofs.YtjgmfgnfdaeelaaDoor.Sp
