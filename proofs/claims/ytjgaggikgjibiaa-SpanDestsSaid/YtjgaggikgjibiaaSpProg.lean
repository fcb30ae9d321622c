/-
  CONTRACT of the program's Lines (span); WHAT IS ASKED OF THE PROGRAM (span) holds.
-/
import Derived.Test.YtjgaggikgjibiaaSpPlainP
import Derived.Test.YtjgaggikgjibiaaSpRtP
import Derived.Test.YtjgaggikgjibiaaSpSameP
namespace Go.Proofs.Ytjgaggikgjibiaa.Sp
open Go.RowKit
open Go.Proofs.Ytjgaggikgjibiaa.Tk (S S_of S_list S_size S_toList S_app ret_int len_data)
open Go.Proofs.Ytjgaggikgjibiaa.Cm (calls_at alloc_new alloc_at cell_at lt_of_at set_at frozen_at)
set_option linter.unusedVariables false

/-- A counter of lines. -/
def Cnt (b : Nat) (p : List UInt8) (w : World) : Prop := w.heap[b]? = some (Obj.cells #[.int .i64 (1 + (p.count 10 : Nat))] 3 (0, 0))

theorem lines1_any (B b : Nat) (p s : List UInt8) (w : World) (h : Cnt b p w) (hB : B ≤ b) (hlen : p.length + s.length ≤ 20000) :
    Calls Try.prog 30 #[.string (S s), .pointer (some ⟨b, 0, none⟩)] w fun e w' => e = .returned (.tuple #[]) ∧ Below B w w' ∧ Cnt b (p ++ s) w' ∧ ∀ (k : Nat) (c : Array Value), w.heap[k]? = some (Obj.cells c 31 (0, 0)) → w'.heap[k]? = some (Obj.cells c 31 (0, 0)) := by
  have HC := Lib.hid (fun w => Try.strings_Count_one (S s) 10 w)
  have HS : Hid ((1 + (p.count 10 : Nat) : Int) + (Lib.countByte (S s).data.toList 10 : Nat) = 1 + ((p ++ s).count 10 : Nat)) := Lib.hid (by
    unfold Lib.countByte
    rw [S_list, List.count_append]
    push_cast
    omega)
  have h1 : p.count 10 ≤ 20000 := Nat.le_trans List.count_le_length (by omega)
  have h2 : Lib.countByte (S s).data.toList 10 ≤ 20000 := by unfold Lib.countByte; rw [S_list]; exact Nat.le_trans List.count_le_length (by omega)
  have c0 : w.cell? ⟨b, 0, none⟩ = some (.int .i64 (1 + (p.count 10 : Nat))) := cell_at h 0
  have f0 : w.frozen? ⟨b, 0, none⟩ = false := frozen_at h 0
  have HH := Lib.hid h
  unfold Cnt at HH
  have HG : Hid (Cnt b (p ++ s) (w.setCell ⟨b, 0, none⟩ (.int .i64 (1 + ((p ++ s).count 10 : Nat))))) := Lib.hid (by unfold Cnt; exact set_at HH.out 0 _)
  clear h
  generalize Lib.countByte (S s).data.toList 10 = n at *
  generalize S s = t at *
  generalize p.count 10 = m at *
  generalize (p ++ s).count 10 = mn at *
  have hw : IntKind.i64.wrap (1 + (m : Int) + (n : Int)) = 1 + (m : Int) + (n : Int) := by
    unfold IntKind.wrap
    simp [IntKind.bits, IntKind.signed]
    omega
  have HK : Hid (∀ (v : Value) (k : Nat) (c : Array Value), w.heap[k]? = some (Obj.cells c 31 (0, 0)) → (w.setCell ⟨b, 0, none⟩ v).heap[k]? = some (Obj.cells c 31 (0, 0))) := Lib.hid (fun v k c hk => by
    rw [Below.heap_setCell _ _ _ _ (fun e => by
      have e : k = b := e
      subst e
      rw [HH.out] at hk
      simp at hk)]
    exact hk)
  rw [HS.out] at hw
  have HBl : Hid (∀ v, Below B w (w.setCell ⟨b, 0, none⟩ v)) := Lib.hid (fun v => (Below.refl B w).setCell (p := ⟨b, 0, none⟩) hB v)
  go_enter Try.func30, Try.ntmps30
  go_region_with (go_at_call 31; refine (HC.out _).mono ?_; rintro e w' ⟨rfl, hw⟩; subst hw)
  all_goals go_end0
  all_goals exact ⟨rfl, by rw [HS.out, hw]; exact (HBl.out _).drew, by rw [HS.out, hw]; exact HG.out, fun k c hk => by rw [HS.out, hw]; exact HK.out _ k c hk⟩

theorem linesP_any (l : List Sp) (v : Value) (w : World) (ht : Tr w v l) (hn : totAll l ≤ 20000) :
    Calls Try.prog 15 #[v] w (IntAns w (lnI l)) := by
  have hK : Sink 30 (.pointer (some ⟨w.heap.size, 0, none⟩)) w.heap.size 20000 (fun p w' => Cnt w.heap.size p w') :=
    ⟨enters_of Try.func30 (by kernel_rfl) rfl, fun p w' o h => alloc_at h o, fun p s w' h hB hl => lines1_any _ _ p s w' h (Nat.le_refl _) hl⟩
  have hp := plAll_len l
  have hb1 : Below w.heap.size w (w.alloc (.cells #[.int .i64 1] 3)) := (Below.refl _ _).alloc (Nat.le_refl _) _
  have hf : Cnt w.heap.size [] (w.alloc (.cells #[.int .i64 1] 3)) := alloc_new w _
  have HR := Lib.hid (read_any _ _ 20000 _ w hK (totAll l) l v (w.alloc (.cells #[.int .i64 1] 3)) [] (Nat.le_refl _) ht hb1 hf (by simp; omega))
  obtain ⟨ao, ca, rfl⟩ := ht.len
  rw [List.nil_append] at HR
  have HX : Hid (lnI l = 1 + ((plAll l).count 10 : Nat)) := Lib.hid (by unfold lnI; rfl)
  obtain ⟨X, hX⟩ : ∃ X, lnI l = X := ⟨_, rfl⟩
  rw [hX] at HX
  rw [hX]
  clear hK hp hb1 hf ht hn hX
  generalize plAll l = p at *
  go_enter Try.func15, Try.ntmps15
  go_wp2_with fail
  refine HR.out.mono ?_
  rintro e w2 ⟨rfl, hb2, hi2⟩
  have HB2 := Lib.hid hb2
  unfold Cnt at hi2
  have c0 : w2.cell? ⟨w.heap.size, 0, none⟩ = some (.int .i64 (1 + (p.count 10 : Nat))) := cell_at hi2 0
  clear hb2 hi2 HR
  generalize p.count 10 = n at *
  go_wp2_with fail
  go_ret
  exact ⟨ret_int HX.out.symm, HB2.out⟩

theorem told : Told where
  right := fun v l w ht hn hf => rightP_any l v w ht hf
  same := fun va vb a b w ta tb _ _ => sameP_any (totAll a) a b va vb w (Nat.le_refl _) ta tb
  plain := fun v l w ht hn => plainP_any l v w ht hn
  lines := fun v l w ht hn => linesP_any l v w ht hn
  dest := fun s w hs => destP_short s hs w

end Go.Proofs.Ytjgaggikgjibiaa.Sp
