/-
  CONTRACTS of the program's endsRight, Right (span).
-/
import Derived.Test.YthmgbmgbifbheaaDoorSpAllP
namespace Go.Proofs.YthmgbmgbifbheaaDoor.Sp
open Go.RowKit
open Go.Proofs.YthmgbmgbifbheaaDoor.Tk (S S_of S_list S_size S_toList S_app ret_int eq8 ne8 at_data len_data)
open Go.Proofs.YthmgbmgbifbheaaDoor.Cm (calls_at alloc_new alloc_at cell_at lt_of_at)
set_option linter.unusedVariables false

theorem ed_zero : edB 0 = false := by decide
theorem nil_of_zero {s : ByteArray} (h : s.size = 0) : s.data.toList = [] := List.eq_nil_of_length_eq_zero (by rw [len_data]; exact h)
theorem pos_of {s : ByteArray} (h : s.size ≠ 0) : 0 < s.size := Nat.pos_of_ne_zero h

set_option maxHeartbeats 6400000 in
set_option maxRecDepth 100000 in
theorem endsP_any (l : List Sp) (v : Value) (w : World) (hf : fitAll 140737488355328 l) (ht : Tr w v l) :
    Calls Tryd.prog 66 #[v] w (OkAns w (endB l)) := by
  obtain ⟨ao, ca, rfl⟩ := ht.len
  have HTr := Lib.hid ht
  have hlen := ht.short
  have HFt := Lib.hid (fitAll_at hf)
  obtain ⟨X, hX⟩ : ∃ X, endB l = X := ⟨_, rfl⟩
  have HX1 : Hid (X = endB l) := Lib.hid hX.symm
  rw [hX]
  clear hX ht hf
  by_cases h0 : l.length = 0
  · have e0 : ((l.length : Int) == 0) = true := by rw [h0]; rfl
    have HR : Hid (X = true) := Lib.hid (by rw [HX1.out, List.eq_nil_of_length_eq_zero h0]; rfl)
    clear HX1 HFt HTr
    go_enter Tryd.func66, Tryd.ntmps66
    go_wp2_with fail
    go_ret
    exact ⟨ret_bool HR.out.symm, Below.refl _ _⟩
  · have e0 : ((l.length : Int) == 0) = false := by rw [beq_eq_false_iff_ne]; omega
    have hpos : 0 < l.length := by omega
    have hi0 : (0 : Int) < (l.length : Int) := by omega
    obtain ⟨b, o, ak, ck, rfl, hbl, hC⟩ := HTr.out.at 0 hpos
    obtain ⟨b', o', ak2, ck2, hao, _, hD⟩ := HTr.out.at (l.length - 1) (by omega)
    simp only [Option.some.injEq, Addr.mk.injEq, and_true] at hao
    obtain ⟨rfl, rfl⟩ := hao
    have HX : Hid (X = (hdB l[0] && ltB (l[l.length - 1]'(by omega)))) := Lib.hid (by
      rw [HX1.out]
      unfold endB
      rw [List.head?_eq_getElem?, List.getElem?_eq_getElem hpos, List.getLast?_eq_getElem?, List.getElem?_eq_getElem (by omega)]
      rfl)
    have HHd : Hid (l[0].kind = 1 → hdB l[0] = !edB (fstB (S l[0].s))) := Lib.hid (fun h1 => by
      unfold hdB
      rw [decide_eq_true h1, fst_S]
      rfl)
    have HHn : Hid (l[0].kind ≠ 1 → hdB l[0] = true) := Lib.hid (fun h1 => by unfold hdB; rw [decide_eq_false h1]; rfl)
    have HL : Hid ((l[l.length - 1]'(by omega)).kind = 1 → ltB (l[l.length - 1]'(by omega)) = !edB (lstB (S (l[l.length - 1]'(by omega)).s))) := Lib.hid (fun h1 => by
      unfold ltB
      rw [decide_eq_true h1, lst_S]
      rfl)
    have HLn : Hid ((l[l.length - 1]'(by omega)).kind ≠ 1 → ltB (l[l.length - 1]'(by omega)) = true) := Lib.hid (fun h1 => by unfold ltB; rw [decide_eq_false h1]; rfl)
    have hsz2 : (S (l[l.length - 1]'(by omega)).s).size ≤ 140737488355328 := by rw [S_size]; exact fitOne_s (HFt.out _ (List.getElem_mem (by omega)))
    have c0 := hC.kind
    have c1 := hC.s
    have c2 := hC.kids
    have d0 := hD.kind
    have d1 := hD.s
    have d2 := hD.kids
    simp only [Nat.zero_mul, Nat.add_zero] at c0 c1 c2
    clear hC hD HX1 HFt HTr
    generalize hdB l[0] = H1 at *
    generalize ltB (l[l.length - 1]'(by omega)) = L1 at *
    generalize l[0].kids.length = kn1 at *
    generalize (l[l.length - 1]'(by omega)).kids.length = kn2 at *
    generalize l[0].kind = z1 at *
    generalize (l[l.length - 1]'(by omega)).kind = z2 at *
    generalize S l[0].s = t1 at *
    generalize S (l[l.length - 1]'(by omega)).s = t2 at *
    go_enter Tryd.func66, Tryd.ntmps66
    go_upto_region 3 with fail
    go_cut [3, 4] from 8 (fun pa pb wx => ∃ PA PB : Nat, pa = .pointer (some ⟨PA, 0, none⟩) ∧ pb = .pointer (some ⟨PB, 0, none⟩) ∧ Hid (wx.heap[PA]? = some (.cells #[.int .i64 z1, .string t1, .slice ak kn1 ck] 34 (0, 0))) ∧ Hid (wx.heap[PB]? = some (.cells #[.int .i64 z2, .string t2, .slice ak2 kn2 ck2] 34 (0, 0))) ∧ Hid (Below w.heap.size w wx))
    case first =>
      clear HX HHd HHn HL HLn
      have sz : ∀ o : Obj, (w.alloc o).heap.size = w.heap.size + 1 := fun o => by simp
      have B1 := Below.refl w.heap.size w
      go_region
      · have hA := alloc_at (alloc_new w (.cells #[.int .i64 z1, .string t1, .slice ak kn1 ck] 34)) (.cells #[.int .i64 z2, .string t2, .slice ak2 kn2 ck2] 34)
        have hB := alloc_new (w.alloc (.cells #[.int .i64 z1, .string t1, .slice ak kn1 ck] 34)) (.cells #[.int .i64 z2, .string t2, .slice ak2 kn2 ck2] 34)
        rw [sz] at hB
        have hZ := Lib.hid (((B1.alloc B1.size (.cells #[.int .i64 z1, .string t1, .slice ak kn1 ck] 34)).alloc (by rw [sz]; have := B1.size; omega) (.cells #[.int .i64 z2, .string t2, .slice ak2 kn2 ck2] 34)).drew)
        have hA' := Lib.hid hA
        have hB' := Lib.hid hB
        clear hA hB sz B1
        go_wp2_with fail
        go_meet
        exact ⟨_, _, rfl, rfl, Lib.hid hA'.out, Lib.hid hB'.out, hZ⟩
      · have hA := alloc_at (alloc_new w (.cells #[.int .i64 z2, .string t2, .slice ak2 kn2 ck2] 34)) (.cells #[.int .i64 z1, .string t1, .slice ak kn1 ck] 34)
        have hB := alloc_new (w.alloc (.cells #[.int .i64 z2, .string t2, .slice ak2 kn2 ck2] 34)) (.cells #[.int .i64 z1, .string t1, .slice ak kn1 ck] 34)
        rw [sz] at hB
        have hZ := Lib.hid (((B1.alloc B1.size (.cells #[.int .i64 z2, .string t2, .slice ak2 kn2 ck2] 34)).alloc (by rw [sz]; have := B1.size; omega) (.cells #[.int .i64 z1, .string t1, .slice ak kn1 ck] 34)).drew)
        have hA' := Lib.hid hA
        have hB' := Lib.hid hB
        clear hA hB sz B1
        go_wp2_with fail
        go_meet
        exact ⟨_, _, rfl, rfl, Lib.hid hB'.out, Lib.hid hA'.out, hZ⟩
    case rest =>
      obtain ⟨PA, PB, rfl, rfl, HPA, HPB, HB5⟩ := hcut
      have a0 : wc.cell? ⟨PA, 0, none⟩ = some (.int .i64 z1) := cell_at HPA.out 0
      have a1 : wc.cell? ⟨PA, 1, none⟩ = some (.string t1) := cell_at HPA.out 1
      have b0 : wc.cell? ⟨PB, 0, none⟩ = some (.int .i64 z2) := cell_at HPB.out 0
      have b1 : wc.cell? ⟨PB, 1, none⟩ = some (.string t2) := cell_at HPB.out 1
      clear HPA HPB c0 c1 c2 d0 d1 d2
      by_cases y1 : z1 = 1
      · have f1 : (z1 == 1) = true := by rw [y1]; rfl
        have HH1 := Lib.hid (HHd.out y1)
        by_cases n1 : t1.size = 0
        · have g1 : (t1.toList != ([] : List UInt8)) = false := by rw [Lib.toList_data, nil_of_zero n1]; rfl
          have g1' : (t1.toList == ([] : List UInt8)) = true := by rw [Lib.toList_data, nil_of_zero n1]; rfl
          have HH3 : Hid (H1 = true) := Lib.hid (by rw [HH1.out]; unfold fstB; rw [nil_of_zero n1]; decide)
          clear n1
          by_cases y2 : z2 = 1
          · have f2 : (z2 != 1) = false := by rw [y2]; rfl
            have HL2 := Lib.hid (HL.out y2)
            by_cases n2 : t2.size = 0
            · have g2 : (t2.toList == ([] : List UInt8)) = true := by rw [Lib.toList_data, nil_of_zero n2]; rfl
              have HR : Hid (X = true) := Lib.hid (by rw [HX.out, HH3.out, Bool.true_and, HL2.out]; unfold lstB; rw [nil_of_zero n2]; decide)
              clear n2
              go_wp2_with fail
              go_ret
              exact ⟨ret_bool HR.out.symm, HB5.out⟩
            · have g2 : (t2.toList == ([] : List UInt8)) = false := by rw [Lib.toList_data]; cases hd : t2.data.toList with | nil => exact absurd (by rw [← len_data, hd]; rfl) n2 | cons _ _ => rfl
              have hs2 : 1 ≤ t2.size := by omega
              have hlt2 : t2.size - 1 < t2.size := by omega
              have HE2 := Lib.hid (gap_any (t2[t2.size - 1]'hlt2) wc)
              have HR : Hid (X = !edB (t2[t2.size - 1]'hlt2)) := Lib.hid (by rw [HX.out, HH3.out, Bool.true_and, HL2.out, lstB_eq t2 hlt2])
              generalize edB (t2[t2.size - 1]'hlt2) = y at *
              go_wp2_with fail
              refine HE2.out.mono ?_
              rintro e8 w8 ⟨rfl, rfl⟩
              go_wp2_with fail
              go_ret
              exact ⟨ret_bool HR.out.symm, HB5.out⟩
          · have f2 : (z2 != 1) = true := by rw [bne_iff_ne]; exact y2
            have HR : Hid (X = true) := Lib.hid (by rw [HX.out, HH3.out, Bool.true_and, HLn.out y2])
            go_wp2_with fail
            go_ret
            exact ⟨ret_bool HR.out.symm, HB5.out⟩
        · have g1 : (t1.toList != ([] : List UInt8)) = true := by rw [Lib.toList_data]; cases hd : t1.data.toList with | nil => exact absurd (by rw [← len_data, hd]; rfl) n1 | cons _ _ => rfl
          have g1' : (t1.toList == ([] : List UInt8)) = false := by rw [Lib.toList_data]; cases hd : t1.data.toList with | nil => exact absurd (by rw [← len_data, hd]; rfl) n1 | cons _ _ => rfl
          have hs1 : 0 < t1.size := by omega
          have HE1 := Lib.hid (gap_any (t1[0]'hs1) wc)
          have HH2 : Hid (H1 = !edB (t1[0]'hs1)) := Lib.hid (by rw [HH1.out, fstB_eq t1 hs1])
          cases hy1 : edB (t1[0]'hs1) with
          | true =>
            rw [hy1] at HE1 HH2
            have HR : Hid (X = false) := Lib.hid (by rw [HX.out, HH2.out]; rfl)
            clear hy1
            go_wp2_with fail
            refine HE1.out.mono ?_
            rintro e7 w7 ⟨rfl, rfl⟩
            go_wp2_with fail
            go_ret
            exact ⟨ret_bool HR.out.symm, HB5.out⟩
          | false =>
            rw [hy1] at HE1 HH2
            have HH3 : Hid (H1 = true) := Lib.hid (by rw [HH2.out]; rfl)
            clear hy1
            by_cases y2 : z2 = 1
            · have f2 : (z2 != 1) = false := by rw [y2]; rfl
              have HL2 := Lib.hid (HL.out y2)
              by_cases n2 : t2.size = 0
              · have g2 : (t2.toList == ([] : List UInt8)) = true := by rw [Lib.toList_data, nil_of_zero n2]; rfl
                have HR : Hid (X = true) := Lib.hid (by rw [HX.out, HH3.out, Bool.true_and, HL2.out]; unfold lstB; rw [nil_of_zero n2]; decide)
                clear n2
                go_wp2_with fail
                refine HE1.out.mono ?_
                rintro e7 w7 ⟨rfl, rfl⟩
                go_wp2_with fail
                go_ret
                exact ⟨ret_bool HR.out.symm, HB5.out⟩
              · have g2 : (t2.toList == ([] : List UInt8)) = false := by rw [Lib.toList_data]; cases hd : t2.data.toList with | nil => exact absurd (by rw [← len_data, hd]; rfl) n2 | cons _ _ => rfl
                have hs2 : 1 ≤ t2.size := by omega
                have hlt2 : t2.size - 1 < t2.size := by omega
                have HE2 := Lib.hid (gap_any (t2[t2.size - 1]'hlt2) wc)
                have HR : Hid (X = !edB (t2[t2.size - 1]'hlt2)) := Lib.hid (by rw [HX.out, HH3.out, Bool.true_and, HL2.out, lstB_eq t2 hlt2])
                generalize edB (t2[t2.size - 1]'hlt2) = y at *
                go_wp2_with fail
                refine HE1.out.mono ?_
                rintro e7 w7 ⟨rfl, rfl⟩
                go_wp2_with fail
                refine HE2.out.mono ?_
                rintro e8 w8 ⟨rfl, rfl⟩
                go_wp2_with fail
                go_ret
                exact ⟨ret_bool HR.out.symm, HB5.out⟩
            · have f2 : (z2 != 1) = true := by rw [bne_iff_ne]; exact y2
              have HR : Hid (X = true) := Lib.hid (by rw [HX.out, HH3.out, Bool.true_and, HLn.out y2])
              go_wp2_with fail
              refine HE1.out.mono ?_
              rintro e7 w7 ⟨rfl, rfl⟩
              go_wp2_with fail
              go_ret
              exact ⟨ret_bool HR.out.symm, HB5.out⟩
      · have f1 : (z1 == 1) = false := by rw [beq_eq_false_iff_ne]; exact y1
        have HH3 := Lib.hid (HHn.out y1)
        by_cases y2 : z2 = 1
        · have f2 : (z2 != 1) = false := by rw [y2]; rfl
          have HL2 := Lib.hid (HL.out y2)
          by_cases n2 : t2.size = 0
          · have g2 : (t2.toList == ([] : List UInt8)) = true := by rw [Lib.toList_data, nil_of_zero n2]; rfl
            have HR : Hid (X = true) := Lib.hid (by rw [HX.out, HH3.out, Bool.true_and, HL2.out]; unfold lstB; rw [nil_of_zero n2]; decide)
            clear n2
            go_wp2_with fail
            go_ret
            exact ⟨ret_bool HR.out.symm, HB5.out⟩
          · have g2 : (t2.toList == ([] : List UInt8)) = false := by rw [Lib.toList_data]; cases hd : t2.data.toList with | nil => exact absurd (by rw [← len_data, hd]; rfl) n2 | cons _ _ => rfl
            have hs2 : 1 ≤ t2.size := by omega
            have hlt2 : t2.size - 1 < t2.size := by omega
            have HE2 := Lib.hid (gap_any (t2[t2.size - 1]'hlt2) wc)
            have HR : Hid (X = !edB (t2[t2.size - 1]'hlt2)) := Lib.hid (by rw [HX.out, HH3.out, Bool.true_and, HL2.out, lstB_eq t2 hlt2])
            generalize edB (t2[t2.size - 1]'hlt2) = y at *
            go_wp2_with fail
            refine HE2.out.mono ?_
            rintro e8 w8 ⟨rfl, rfl⟩
            go_wp2_with fail
            go_ret
            exact ⟨ret_bool HR.out.symm, HB5.out⟩
        · have f2 : (z2 != 1) = true := by rw [bne_iff_ne]; exact y2
          have HR : Hid (X = true) := Lib.hid (by rw [HX.out, HH3.out, Bool.true_and, HLn.out y2])
          go_wp2_with fail
          go_ret
          exact ⟨ret_bool HR.out.symm, HB5.out⟩

set_option maxHeartbeats 1600000 in
theorem rightP_any (l : List Sp) (v : Value) (w : World) (ht : Tr w v l) (hf : fitAll 140737488355328 l) :
    Calls Tryd.prog 47 #[v] w (OkAns w (rtB l)) := by
  have HE := Lib.hid (endsP_any l v w hf ht)
  have HA := Lib.hid (fun w' (h : Below w.heap.size w w') => allP_any (totAll l) l false false v w' (Nat.le_refl _) hf (ht.below h))
  have HX : Hid (rtB l = (okAll false false 0 l && endB l)) := Lib.hid rfl
  obtain ⟨ao, ca, rfl⟩ := ht.len
  obtain ⟨X, hX⟩ : ∃ X, rtB l = X := ⟨_, rfl⟩
  rw [hX] at HX
  rw [hX]
  clear hX ht hf
  generalize okAll false false 0 l = y at *
  generalize endB l = z at *
  cases z with
  | false =>
    have HR : Hid (X = false) := Lib.hid (by rw [HX.out]; simp)
    clear HX HA
    go_enter Tryd.func47, Tryd.ntmps47
    go_wp2_with fail
    refine HE.out.mono ?_
    rintro e1 w1 ⟨rfl, b1⟩
    have HB1 := Lib.hid b1
    clear b1 HE
    go_wp2_with fail
    go_ret
    exact ⟨ret_bool HR.out.symm, HB1.out⟩
  | true =>
    have HR : Hid (X = y) := Lib.hid (by rw [HX.out]; simp)
    clear HX
    go_enter Tryd.func47, Tryd.ntmps47
    go_wp2_with fail
    refine HE.out.mono ?_
    rintro e1 w1 ⟨rfl, b1⟩
    have HB1 := Lib.hid b1
    clear b1 HE
    go_wp2_with fail
    refine (HA.out w1 HB1.out).mono ?_
    rintro e2 w2 ⟨rfl, b2⟩
    have HB2 := Lib.hid (HB1.out.trans (b2.mono HB1.out.size))
    clear b2 HA
    go_wp2_with fail
    go_ret
    exact ⟨ret_bool HR.out.symm, HB2.out⟩

end Go.Proofs.YthmgbmgbifbheaaDoor.Sp
