/-
  CONTRACTS of marker and markersOf: a clash's markers.
-/
import Derived.Test.YtipgofglidmffaaMkRun
import Derived.Test.YtipgofglidmffaaCmKeep
namespace Go.Proofs.Ytipgofglidmffaa.Mk
open Go.RowKit Go.Proofs.Ytipgofglidmffaa.Tk Go.Proofs.Ytipgofglidmffaa.Cm
set_option linter.unusedVariables false

theorem repeat_rep (c : UInt8) : ∀ h, Lib.repeatL [c] h = List.replicate h c
  | 0 => rfl
  | h + 1 => by
    show [c] ++ Lib.repeatL [c] h = _
    rw [repeat_rep c h, List.replicate_succ]
    rfl
theorem ret_str {x y : ByteArray} (h : x = y) : Ending.returned (.string x) = Ending.returned (.string y) := by rw [h]

theorem marker_any (c : UInt8) (h : Nat) (h1 : h ≤ 1000) (name : Tx) (h2 : name.length ≤ 1000000) (w : World) :
    Calls Try.prog 26 #[.string (S [c]), .int .i64 h, .string (S name)] w fun e w' => e = .returned (.string (S (mkr c h name))) ∧ Below w.heap.size w w' := by
  have HR := Lib.hid (Try.strings_Repeat (S [c]) h w (by omega) (by rw [S_size]; show 1 * h ≤ _; omega))
  rw [S_list, repeat_rep] at HR
  have HR2 : Hid (Calls Try.prog 42 #[.string (S [c]), .int .i64 h] w fun e w' => e = .returned (.string (S (List.replicate h c))) ∧ Below w.heap.size w w') := HR
  clear HR
  by_cases hn : name = []
  · have hm : Hid (mkr c h name = List.replicate h c) := Lib.hid (by unfold mkr; rw [if_pos hn, List.append_nil])
    have b1 : ((S name).toList == ([] : List UInt8)) = true := by rw [S_toList, hn]; rfl
    clear hn
    generalize S [c] = hs at *
    go_enter Try.func26, Try.ntmps26
    go_wp2_with fail
    refine HR2.out.mono ?_
    rintro e w1 ⟨rfl, B1⟩
    clear HR2
    go_wp2_with fail
    exact bodyPost_ret (v := .string (S (List.replicate h c))) (by simp [results, Try.results26, go_sem]) rfl ⟨ret_str (by rw [hm.out]), B1⟩
  · have hm : Hid (mkr c h name = List.replicate h c ++ ([32] ++ name)) := Lib.hid (by unfold mkr; rw [if_neg hn]; rfl)
    have b1 : ((S name).toList == ([] : List UInt8)) = false := by rw [beq_eq_false_iff_ne, S_toList]; exact hn
    have z1 : (S (List.replicate h c)).size ≤ 1000 := by rw [S_size, List.length_replicate]; exact h1
    have z2 : (S name).size ≤ 1000000 := by rw [S_size]; exact h2
    have z3 : ¬ 9223372036854775807 < (S (List.replicate h c)).size + 1 := by omega
    have z4 : ¬ 9223372036854775807 < (S (List.replicate h c)).size + 1 + (S name).size := by omega
    clear hn
    generalize S [c] = hs at *
    go_enter Try.func26, Try.ntmps26
    go_wp2_with fail
    refine HR2.out.mono ?_
    rintro e w1 ⟨rfl, B1⟩
    clear HR2
    go_wp2_with fail
    go_ret
    exact ⟨ret_str (by rw [hm.out, ← S_app, ← S_app, ByteArray.append_assoc]; rfl), B1⟩

/-- The four markers, as they lie. -/
def vSides (no nb nt : Tx) : Value := .agg #[.string (S no), .string (S nb), .string (S nt)]
def vMks (h : Nat) (no nb nt : Tx) : Value := .agg #[.string (S (mkr 60 h no)), .string (S (mkr 124 h nb)), .string (S (mkr 61 h [])), .string (S (mkr 62 h nt))]
theorem hold_le (n : Int) : hold n ≤ 1000 ∧ 1 ≤ hold n := by unfold hold; omega
theorem set4_other {w : World} {b C : Nat} {o : Obj} (u0 u1 u2 u3 : Value) (h : w.heap[b]? = some o) (hne : b ≠ C) :
    ((((w.setCell ⟨C, 0, none⟩ u0).setCell ⟨C, 1, none⟩ u1).setCell ⟨C, 2, none⟩ u2).setCell ⟨C, 3, none⟩ u3).heap[b]? = some o :=
  set_other (set_other (set_other (set_other h hne) hne) hne) hne

set_option maxHeartbeats 3200000 in
set_option maxRecDepth 100000 in
theorem markersOf_any (n : Int) (no nb nt : Tx) (l1 : no.length ≤ 1000000) (l2 : nb.length ≤ 1000000) (l3 : nt.length ≤ 1000000) (w : World) :
    Calls Try.prog 18 #[.int .i64 n, vSides no nb nt] w fun e w' => e = .returned (vMks (hold n) no nb nt) ∧ Below w.heap.size w w' := by
  show Calls Try.prog 18 #[.int .i64 n, .agg #[.string (S no), .string (S nb), .string (S nt)]] w _
  have H1 := Lib.hid (fun w' => held_any n w')
  have hh := hold_le n
  have HV : Hid (vMks (hold n) no nb nt = .agg #[.string (S (mkr 60 (hold n) no)), .string (S (mkr 124 (hold n) nb)), .string (S (mkr 61 (hold n) [])), .string (S (mkr 62 (hold n) nt))]) := Lib.hid rfl
  have P1 := Lib.hid (fun w' => marker_any 60 (hold n) hh.1 no l1 w')
  have P2 := Lib.hid (fun w' => marker_any 124 (hold n) hh.1 nb l2 w')
  have P3 := Lib.hid (fun w' => marker_any 61 (hold n) hh.1 [] (by simp) w')
  have P4 := Lib.hid (fun w' => marker_any 62 (hold n) hh.1 nt l3 w')
  generalize hold n = h at *
  go_enter Try.func18, Try.ntmps18
  go_wp2_with fail
  refine (H1.out _).mono ?_
  rintro e w1 ⟨rfl, rfl⟩
  go_upto_region 2 with fail
  have HA := Lib.hid (alloc_at (alloc_new w (.cells #[.string (S no), .string (S nb), .string (S nt)] 31)) (.cells #[.string ⟨#[]⟩, .string ⟨#[]⟩, .string ⟨#[]⟩, .string ⟨#[]⟩] 47))
  have HD := Lib.hid (alloc_new (w.alloc (.cells #[.string (S no), .string (S nb), .string (S nt)] 31)) (.cells #[.string ⟨#[]⟩, .string ⟨#[]⟩, .string ⟨#[]⟩, .string ⟨#[]⟩] 47))
  have HK := Lib.hid (((Keep.refl (fun _ => False) w).alloc (.cells #[.string (S no), .string (S nb), .string (S nt)] 31)).alloc (.cells #[.string ⟨#[]⟩, .string ⟨#[]⟩, .string ⟨#[]⟩, .string ⟨#[]⟩] 47))
  have hD : (w.alloc (.cells #[.string (S no), .string (S nb), .string (S nt)] 31)).heap.size = w.heap.size + 1 := by simp
  rw [hD] at HD
  clear hD
  generalize (w.alloc (.cells #[.string (S no), .string (S nb), .string (S nt)] 31)).alloc (.cells #[.string ⟨#[]⟩, .string ⟨#[]⟩, .string ⟨#[]⟩, .string ⟨#[]⟩] 47) = w1 at *
  have HBl : Hid (∀ w', Keep (fun _ => False) w1 w' → Keep (fun _ => False) w w') := Lib.hid (fun w' h => HK.out.trans h)
  have HS : Hid (∀ w', Keep (fun _ => False) w1 w' → w'.cell? ⟨w.heap.size, 0, none⟩ = some (.string (S no)) ∧ w'.cell? ⟨w.heap.size, 1, none⟩ = some (.string (S nb)) ∧ w'.cell? ⟨w.heap.size, 2, none⟩ = some (.string (S nt))) := Lib.hid (fun w' h => by
    have h2 := h.at HA.out (fun e => e)
    exact ⟨cell_at h2 0, cell_at h2 1, cell_at h2 2⟩)
  generalize hC : w.heap.size = C at *
  have HCe := Lib.hid hC
  clear hC
  go_region_held3 (fun w' => w'.cell? ⟨C, 0, none⟩ = some (.string (S no)) ∧ w'.cell? ⟨C, 1, none⟩ = some (.string (S nb)) ∧ w'.cell? ⟨C, 2, none⟩ = some (.string (S nt)))
    (first
      | (with_reducible exact HX7.out)
      | (exact HS.out _ (Keep.refl _ _))
      | (exact HS.out _ (Keep.refl _ _).drew)
      | (exact HS.out _ ((Keep.refl _ _).drewN _))
      | (exact HS.out _ HK4.out)
      | (exact HS.out _ HK4.out.drew)
      | (exact HS.out _ HK5.out)
      | (exact HS.out _ HK5.out.drew)
      | (exact HS.out _ HK6.out)
      | (exact HS.out _ HK6.out.drew)
      | (exact HS.out _ HK7.out)
      | (exact HS.out _ HK7.out.drew))
    (first
      | (go_at_call 26
         refine calls_at (args := #[.string (S [60]), .int .i64 h, .string (S no)]) rfl (P1.out _) ?_
         rintro e w4 ⟨rfl, b4⟩
         have HK4 := Lib.hid (Keep.trans (a := w1) (S := fun _ => False) (by first | exact (Keep.refl _ _) | exact (Keep.refl _ _).drew | exact (Keep.refl _ _).drewN _) (Keep.of_below b4))
         clear b4)
      | (go_at_call 26
         refine calls_at (args := #[.string (S [124]), .int .i64 h, .string (S nb)]) rfl (P2.out _) ?_
         rintro e w5 ⟨rfl, b5⟩
         have HK5 := Lib.hid (HK4.out.trans (Keep.trans (a := w4) (S := fun _ => False) (by first | exact (Keep.refl _ _) | exact (Keep.refl _ _).drew | exact (Keep.refl _ _).drewN _) (Keep.of_below b5)))
         clear b5)
      | (go_at_call 26
         refine calls_at (args := #[.string (S [61]), .int .i64 h, .string (S [])]) rfl (P3.out _) ?_
         rintro e w6 ⟨rfl, b6⟩
         have HK6 := Lib.hid (HK5.out.trans (Keep.trans (a := w5) (S := fun _ => False) (by first | exact (Keep.refl _ _) | exact (Keep.refl _ _).drew | exact (Keep.refl _ _).drewN _) (Keep.of_below b6)))
         clear b6)
      | (go_at_call 26
         refine calls_at (args := #[.string (S [62]), .int .i64 h, .string (S nt)]) rfl (P4.out _) ?_
         rintro e w7 ⟨rfl, b7⟩
         have HK7 := Lib.hid (HK6.out.trans (Keep.trans (a := w6) (S := fun _ => False) (by first | exact (Keep.refl _ _) | exact (Keep.refl _ _).drew | exact (Keep.refl _ _).drewN _) (Keep.of_below b7)))
         have hd7 := HK7.out.at HD.out (fun e => e)
         have f0 := frozen_at hd7 0
         have f1 := frozen_at hd7 1
         have f2 := frozen_at hd7 2
         have f3 := frozen_at hd7 3
         have d0 : w7.cell? ⟨C + 1, 0, none⟩ = some (.string ⟨#[]⟩) := cell_at hd7 0
         have d1 : w7.cell? ⟨C + 1, 1, none⟩ = some (.string ⟨#[]⟩) := cell_at hd7 1
         have d2 : w7.cell? ⟨C + 1, 2, none⟩ = some (.string ⟨#[]⟩) := cell_at hd7 2
         have d3 : w7.cell? ⟨C + 1, 3, none⟩ = some (.string ⟨#[]⟩) := cell_at hd7 3
         have ha7 := set4_other (C := C + 1) (.string (S (mkr 60 h no))) (.string (S (mkr 124 h nb))) (.string (S (mkr 61 h []))) (.string (S (mkr 62 h nt))) (HK7.out.at HA.out (fun e => e)) (by omega)
         have HX7 : Hid (((((w7.setCell ⟨C + 1, 0, none⟩ (.string (S (mkr 60 h no)))).setCell ⟨C + 1, 1, none⟩ (.string (S (mkr 124 h nb)))).setCell ⟨C + 1, 2, none⟩ (.string (S (mkr 61 h [])))).setCell ⟨C + 1, 3, none⟩ (.string (S (mkr 62 h nt)))).cell? ⟨C, 0, none⟩ = some (.string (S no)) ∧ ((((w7.setCell ⟨C + 1, 0, none⟩ (.string (S (mkr 60 h no)))).setCell ⟨C + 1, 1, none⟩ (.string (S (mkr 124 h nb)))).setCell ⟨C + 1, 2, none⟩ (.string (S (mkr 61 h [])))).setCell ⟨C + 1, 3, none⟩ (.string (S (mkr 62 h nt)))).cell? ⟨C, 1, none⟩ = some (.string (S nb)) ∧ ((((w7.setCell ⟨C + 1, 0, none⟩ (.string (S (mkr 60 h no)))).setCell ⟨C + 1, 1, none⟩ (.string (S (mkr 124 h nb)))).setCell ⟨C + 1, 2, none⟩ (.string (S (mkr 61 h [])))).setCell ⟨C + 1, 3, none⟩ (.string (S (mkr 62 h nt)))).cell? ⟨C, 2, none⟩ = some (.string (S nt))) := Lib.hid ⟨cell_at ha7 0, cell_at ha7 1, cell_at ha7 2⟩
         have HD7 := Lib.hid hd7
         clear b7 ha7 hd7))
  have hd8 := set_at (set_at (set_at (set_at HD7.out 0 (.string (S (mkr 60 h no)))) 1 (.string (S (mkr 124 h nb)))) 2 (.string (S (mkr 61 h [])))) 3 (.string (S (mkr 62 h nt)))
  have HK8 := Lib.hid ((HBl.out w7 HK7.out).setCell (p := ⟨C + 1, 0, none⟩) (Or.inr (by rw [HCe.out]; exact Nat.le_succ C)) (.string (S (mkr 60 h no))))
  have HK9 := Lib.hid (HK8.out.setCell (p := ⟨C + 1, 1, none⟩) (Or.inr (by rw [HCe.out]; exact Nat.le_succ C)) (.string (S (mkr 124 h nb))))
  have HK10 := Lib.hid (HK9.out.setCell (p := ⟨C + 1, 2, none⟩) (Or.inr (by rw [HCe.out]; exact Nat.le_succ C)) (.string (S (mkr 61 h []))))
  have HK11 := Lib.hid (HK10.out.setCell (p := ⟨C + 1, 3, none⟩) (Or.inr (by rw [HCe.out]; exact Nat.le_succ C)) (.string (S (mkr 62 h nt))))
  clear HX7 HK4 HK5 HK6 HK7 HK8 HK9 HK10 HS P1 P2 P3 P4
  generalize ((((w7.setCell ⟨C + 1, 0, none⟩ (.string (S (mkr 60 h no)))).setCell ⟨C + 1, 1, none⟩ (.string (S (mkr 124 h nb)))).setCell ⟨C + 1, 2, none⟩ (.string (S (mkr 61 h [])))).setCell ⟨C + 1, 3, none⟩ (.string (S (mkr 62 h nt)))) = w8 at *
  have c0 : w8.cell? ⟨C + 1, 0, none⟩ = some (.string (S (mkr 60 h no))) := cell_at hd8 0
  have c1 : w8.cell? ⟨C + 1, 1, none⟩ = some (.string (S (mkr 124 h nb))) := cell_at hd8 1
  have c2 : w8.cell? ⟨C + 1, 2, none⟩ = some (.string (S (mkr 61 h []))) := cell_at hd8 2
  have c3 : w8.cell? ⟨C + 1, 3, none⟩ = some (.string (S (mkr 62 h nt))) := cell_at hd8 3
  go_wp2_with fail
  exact bodyPost_ret (v := .agg #[.string (S (mkr 60 h no)), .string (S (mkr 124 h nb)), .string (S (mkr 61 h [])), .string (S (mkr 62 h nt))]) (by simp [results, Try.results18, go_sem, c0, c1, c2, c3]) rfl ⟨by rw [HV.out], HK11.out.below (fun _ e => e.elim) (by rw [HCe.out]; exact Nat.le_refl _)⟩

end Go.Proofs.Ytipgofglidmffaa.Mk
