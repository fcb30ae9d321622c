/-
  CONTRACTS of the program's Plain, Lines (span).
-/
import Derived.Test.YtjgaggikgjibiaaSpRead
import Derived.Test.YtjgaggikgjibiaaSpBuild
import Derived.Test.YtjgaggikgjibiaaShelf
import Derived.Deep.RegionHeld3
namespace Go.Proofs.Ytjgaggikgjibiaa.Sp
open Go.RowKit
open Go.Proofs.Ytjgaggikgjibiaa.Tk (S S_of S_list S_size S_toList S_app ret_int)
open Go.Proofs.Ytjgaggikgjibiaa.Cm (calls_at alloc_new alloc_at cell_at lt_of_at set_at)
set_option linter.unusedVariables false

theorem bc_app (p s : List UInt8) : Lib.byteCells p ++ Lib.strCells (S s) = Lib.byteCells (p ++ s) := by
  unfold Lib.byteCells Lib.strCells
  rw [S_list, List.map_append]
theorem bc_len (p : List UInt8) : (Lib.byteCells p).length = p.length := by unfold Lib.byteCells; simp
theorem builder_alloc {B b : Nat} {bs : List Value} {w : World} (o : Obj) (h : Lib.IsBuilder 44 5 B b bs w) : Lib.IsBuilder 44 5 B b bs (w.alloc o) := by
  rcases h with h | h
  · obtain ⟨hB, v, hb, hown, hne⟩ := h
    exact Or.inl ⟨hB, v, by rw [Lib.alloc_old w o b (lt_of_at hb)]; exact hb, hown.alloc _, hne⟩
  · obtain ⟨hB, v, hb, hown, hne⟩ := h
    exact Or.inr ⟨hB, v, by rw [Lib.alloc_old w o b (lt_of_at hb)]; exact hb, hown.alloc _, hne⟩
theorem builder_not_span {B b : Nat} {bs : List Value} {w : World} (h : Lib.IsBuilder 44 5 B b bs w) {k : Nat} {c : Array Value} (hk : w.heap[k]? = some (Obj.cells c 31 (0, 0))) : some k ≠ some b := by
  intro e
  simp only [Option.some.injEq] at e
  subst e
  rcases h with ⟨_, v, hb, _⟩ | ⟨_, v, hb, _⟩ <;> rw [hb] at hk <;> simp at hk

theorem plain1_any (B b : Nat) (p s : List UInt8) (w : World) (h : Lib.IsBuilder 44 5 B b (Lib.byteCells p) w) (hBw : B ≤ w.heap.size) (hlen : p.length + s.length ≤ 20000) :
    Calls Try.prog 27 #[.string (S s), .pointer (some ⟨b, 0, none⟩)] w fun e w' => e = .returned (.tuple #[]) ∧ Below B w w' ∧ Lib.IsBuilder 44 5 B b (Lib.byteCells (p ++ s)) w' ∧ ∀ (k : Nat) (c : Array Value), w.heap[k]? = some (Obj.cells c 31 (0, 0)) → w'.heap[k]? = some (Obj.cells c 31 (0, 0)) := by
  have HW := Lib.hid (writeS_any B b (Lib.byteCells p) (S s) w h (by rw [bc_len, S_size]; omega) hBw)
  have HN := Lib.hid (fun (k : Nat) (c : Array Value) (hk : w.heap[k]? = some (Obj.cells c 31 (0, 0))) => builder_not_span h hk)
  rw [bc_app] at HW
  clear h
  generalize S s = t at *
  generalize Lib.byteCells (p ++ s) = q at *
  go_enter Try.func27, Try.ntmps27
  go_wp2_with fail
  refine HW.out.mono ?_
  rintro e w2 ⟨rfl, h2, b2, k2⟩
  have H2 := Lib.hid h2
  have B2 := Lib.hid b2
  have K2 := Lib.hid k2
  clear h2 b2 k2 HW
  go_wp2_with fail
  go_end0
  refine ⟨rfl, B2.out, Or.inr H2.out, fun k c hk => K2.out k _ hk (HN.out k c hk) (fun c' fz e => ?_)⟩
  simp at e

theorem plainP_any (l : List Sp) (v : Value) (w : World) (ht : Tr w v l) (hn : totAll l ≤ 20000) :
    Calls Try.prog 14 #[v] w (StrAns w (plAll l)) := by
  have hK : Sink 27 (.pointer (some ⟨w.heap.size, 0, none⟩)) w.heap.size 20000 (fun p w' => Lib.IsBuilder 44 5 w.heap.size w.heap.size (Lib.byteCells p) w') :=
    ⟨enters_of Try.func27 (by kernel_rfl) rfl, fun p w' o h => builder_alloc o h, fun p s w' h hB hl => plain1_any _ _ p s w' h hB hl⟩
  have hp := plAll_len l
  have hb1 : Below w.heap.size w (w.alloc (.cells #[.pointer none, .slice none 0 0] 44)) := (Below.refl _ _).alloc (Nat.le_refl _) _
  have hf := Lib.fresh_isBuilder 44 5 w
  have HR := Lib.hid (read_any _ _ 20000 _ w hK (totAll l) l v (w.alloc (.cells #[.pointer none, .slice none 0 0] 44)) [] (Nat.le_refl _) ht hb1 hf (by simp; omega))
  obtain ⟨ao, ca, rfl⟩ := ht.len
  rw [List.nil_append] at HR
  clear hK hp hb1 hf ht hn
  generalize plAll l = p at *
  go_enter Try.func14, Try.ntmps14
  go_wp2_with fail
  refine HR.out.mono ?_
  rintro e w2 ⟨rfl, hb2, hi2⟩
  have HB2 := Lib.hid hb2
  have HS := Lib.hid (Try.Builder_String_any w.heap.size w.heap.size p w2 hi2 hb2.size)
  clear hb2 hi2 HR
  go_wp2_with fail
  refine HS.out.mono ?_
  rintro e w3 ⟨rfl, hb3⟩
  have HB3 := Lib.hid (HB2.out.trans hb3)
  clear hb3 HS
  go_wp2_with fail
  go_ret
  exact ⟨rfl, HB3.out⟩

end Go.Proofs.Ytjgaggikgjibiaa.Sp
