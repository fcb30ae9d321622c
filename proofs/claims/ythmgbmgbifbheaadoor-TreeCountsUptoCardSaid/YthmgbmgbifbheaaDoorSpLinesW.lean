/-
  CONTRACT of the program's Lines (span), for spans of whatever size: it counts as the machine does.
-/
import Derived.Test.YthmgbmgbifbheaaDoorSpRead
import Derived.Test.YthmgbmgbifbheaaDoorShelf
namespace Go.Proofs.YthmgbmgbifbheaaDoor.Sp
open Go.RowKit
open Go.Proofs.YthmgbmgbifbheaaDoor.Tk (S S_of S_list S_size S_toList S_app ret_int len_data)
open Go.Proofs.YthmgbmgbifbheaaDoor.Cm (calls_at alloc_new alloc_at cell_at lt_of_at set_at frozen_at)
set_option linter.unusedVariables false

/-- How many lines, as the machine counts. -/
def lnC (l : List Sp) : Int := IntKind.i64.wrap (1 + ((plAll l).count 10 : Nat))
theorem wrap_wrap (a b : Int) : IntKind.i64.wrap (IntKind.i64.wrap a + b) = IntKind.i64.wrap (a + b) := by
  rw [IntKind.wrap_i64, IntKind.wrap_i64, IntKind.wrap_i64]
  omega
/-- A counter of lines. -/
def CntW (b : Nat) (p : List UInt8) (w : World) : Prop := w.heap[b]? = some (Obj.cells #[.int .i64 (IntKind.i64.wrap (1 + (p.count 10 : Nat)))] 3 (0, 0))

theorem linesW1_any (B b : Nat) (p s : List UInt8) (w : World) (h : CntW b p w) (hB : B ≤ b) :
    Calls Tryd.prog 91 #[.string (S s), .pointer (some ⟨b, 0, none⟩)] w fun e w' => e = .returned (.tuple #[]) ∧ Below B w w' ∧ CntW b (p ++ s) w' ∧ ∀ (k : Nat) (c : Array Value), w.heap[k]? = some (Obj.cells c 34 (0, 0)) → w'.heap[k]? = some (Obj.cells c 34 (0, 0)) := by
  have HC := Lib.hid (fun w => Tryd.strings_Count_one (S s) 10 w)
  have HS : Hid (IntKind.i64.wrap (IntKind.i64.wrap (1 + (p.count 10 : Nat)) + (Lib.countByte (S s).data.toList 10 : Nat)) = IntKind.i64.wrap (1 + ((p ++ s).count 10 : Nat))) := Lib.hid (by
    unfold Lib.countByte
    rw [wrap_wrap, S_list, List.count_append]
    push_cast
    congr 1
    omega)
  have c0 : w.cell? ⟨b, 0, none⟩ = some (.int .i64 (IntKind.i64.wrap (1 + (p.count 10 : Nat)))) := cell_at h 0
  have f0 : w.frozen? ⟨b, 0, none⟩ = false := frozen_at h 0
  have HH := Lib.hid h
  unfold CntW at HH
  have HG : Hid (CntW b (p ++ s) (w.setCell ⟨b, 0, none⟩ (.int .i64 (IntKind.i64.wrap (1 + ((p ++ s).count 10 : Nat)))))) := Lib.hid (by unfold CntW; exact set_at HH.out 0 _)
  clear h
  generalize Lib.countByte (S s).data.toList 10 = n at *
  generalize S s = t at *
  obtain ⟨m, hm⟩ : ∃ m, IntKind.i64.wrap (1 + (p.count 10 : Nat)) = m := ⟨_, rfl⟩
  rw [hm] at c0 HH HS
  obtain ⟨mn, hmn⟩ : ∃ m, IntKind.i64.wrap (1 + ((p ++ s).count 10 : Nat)) = m := ⟨_, rfl⟩
  rw [hmn] at HG HS
  clear hm hmn
  have hw := HS.out
  have HK : Hid (∀ (v : Value) (k : Nat) (c : Array Value), w.heap[k]? = some (Obj.cells c 34 (0, 0)) → (w.setCell ⟨b, 0, none⟩ v).heap[k]? = some (Obj.cells c 34 (0, 0))) := Lib.hid (fun v k c hk => by
    rw [Below.heap_setCell _ _ _ _ (fun e => by
      have e : k = b := e
      subst e
      rw [HH.out] at hk
      simp at hk)]
    exact hk)
  have HBl : Hid (∀ v, Below B w (w.setCell ⟨b, 0, none⟩ v)) := Lib.hid (fun v => (Below.refl B w).setCell (p := ⟨b, 0, none⟩) hB v)
  go_enter Tryd.func91, Tryd.ntmps91
  go_region_with (go_at_call 92; refine (HC.out _).mono ?_; rintro e w' ⟨rfl, hw⟩; subst hw)
  all_goals go_end0
  all_goals exact ⟨rfl, (HBl.out _).drew, HG.out, fun k c hk => HK.out _ k c hk⟩

def IntW (w : World) (n : Int) (e : Ending) (w' : World) : Prop := e = .returned (.int .i64 n) ∧ Below w.heap.size w w'
theorem linesWP_any (l : List Sp) (v : Value) (w : World) (ht : Tr w v l) :
    Calls Tryd.prog 68 #[v] w (IntW w (lnC l)) := by
  have hK : Sink 91 (.pointer (some ⟨w.heap.size, 0, none⟩)) w.heap.size (plAll l).length (fun p w' => CntW w.heap.size p w') :=
    ⟨enters_of Tryd.func91 (by kernel_rfl) rfl, fun p w' o h => alloc_at h o, fun p s w' h hB hl => linesW1_any _ _ p s w' h (Nat.le_refl _)⟩
  have hb1 : Below w.heap.size w (w.alloc (.cells #[.int .i64 1] 3)) := (Below.refl _ _).alloc (Nat.le_refl _) _
  have hf : CntW w.heap.size [] (w.alloc (.cells #[.int .i64 1] 3)) := alloc_new w _
  have HR := Lib.hid (read_any _ _ (plAll l).length _ w hK (totAll l) l v (w.alloc (.cells #[.int .i64 1] 3)) [] (Nat.le_refl _) ht hb1 hf (by simp))
  obtain ⟨ao, ca, rfl⟩ := ht.len
  rw [List.nil_append] at HR
  have HX : Hid (lnC l = IntKind.i64.wrap (1 + ((plAll l).count 10 : Nat))) := Lib.hid rfl
  obtain ⟨X, hX⟩ : ∃ X, lnC l = X := ⟨_, rfl⟩
  rw [hX] at HX
  rw [hX]
  clear hK hb1 hf ht hX
  generalize plAll l = p at *
  go_enter Tryd.func68, Tryd.ntmps68
  go_wp2_with fail
  refine HR.out.mono ?_
  rintro e w2 ⟨rfl, hb2, hi2⟩
  have HB2 := Lib.hid hb2
  unfold CntW at hi2
  rw [← HX.out] at hi2
  have c0 : w2.cell? ⟨w.heap.size, 0, none⟩ = some (.int .i64 X) := cell_at hi2 0
  clear hb2 hi2 HR HX
  go_wp2_with fail
  go_ret
  exact ⟨rfl, HB2.out⟩

end Go.Proofs.YthmgbmgbifbheaaDoor.Sp
