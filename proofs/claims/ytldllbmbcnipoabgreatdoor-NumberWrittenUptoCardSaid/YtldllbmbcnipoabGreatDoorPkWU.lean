/-
  Several texts in one:
  
  
  
  
-/
import Derived.Test.YtldllbmbcnipoabGreatDoorSpAllP
import Derived.Test.YtldllbmbcnipoabGreatDoorPkWR
import Derived.Test.YtldllbmbcnipoabGreatDoorPkWQ
import Derived.Test.YtldllbmbcnipoabGreatDoorPkWB
import Derived.Test.YtldllbmbcnipoabGreatDoorPkWC
import Derived.Test.YtldllbmbcnipoabGreatDoorSoPackP
import Derived.Test.YtldllbmbcnipoabGreatDoorPkWP
import Derived.Test.YtldllbmbcnipoabGreatDoorPkWA
namespace Go.Proofs.YtldllbmbcnipoabGreatDoor.Sp
open Go.RowKit
open Go.Proofs.YtldllbmbcnipoabGreatDoor.Tk (S S_of S_list S_size S_toList S_app ret_int eq8 ne8 at_data len_data)
open Go.Proofs.YtldllbmbcnipoabGreatDoor.Cm (calls_at alloc_new alloc_at cell_at lt_of_at)
set_option linter.unusedVariables false
theorem nil_of_zero {s : ByteArray} (h : s.size = 0) : s.data.toList = [] := List.eq_nil_of_length_eq_zero (by rw [len_data]; exact h)
set_option maxHeartbeats 6400000 in
set_option maxRecDepth 100000 in
theorem endsP_any (l : List Sp) (v : Value) (w : World) (hf : fitAll 140737488355328 l) (ht : Tr w v l) :
    Calls Tryz.prog 109 #[v] w (OkAns w (endB l)) := by
  obtain ⟨ao, ca, rfl⟩ := ht.len
  have HTr := Lib.hid ht
  have hlen := ht.short
  have HFt := Lib.hid (fitAll_at hf)
  obtain ⟨X, hX⟩ : ∃ X, endB l = X := ⟨_, rfl⟩
  have HX1 : Hid (X = endB l) := Lib.hid hX.symm
  rw [hX]
  clear hX ht hf
  by_cases h0 : l.length = 0
  · have e0 : ((l.length : Int) == 0) = true := by rw [h0]; rfl
    have HR : Hid (X = true) := Lib.hid (by rw [HX1.out, List.eq_nil_of_length_eq_zero h0]; rfl)
    clear HX1 HFt HTr
    go_enter Tryz.func109, Tryz.ntmps109
    go_wp2_with fail
    go_ret
    exact ⟨ret_bool HR.out.symm, Below.refl _ _⟩
  · have e0 : ((l.length : Int) == 0) = false := by rw [beq_eq_false_iff_ne]; omega
    have hpos : 0 < l.length := by omega
    have hi0 : (0 : Int) < (l.length : Int) := by omega
    obtain ⟨b, o, ak, ck, rfl, hbl, hC⟩ := HTr.out.at 0 hpos
    obtain ⟨b', o', ak2, ck2, hao, _, hD⟩ := HTr.out.at (l.length - 1) (by omega)
    simp only [Option.some.injEq, Addr.mk.injEq, and_true] at hao
    obtain ⟨rfl, rfl⟩ := hao
    have HX : Hid (X = (hdB l[0] && ltB (l[l.length - 1]'(by omega)))) := Lib.hid (by
      rw [HX1.out]
      unfold endB
      rw [List.head?_eq_getElem?, List.getElem?_eq_getElem hpos, List.getLast?_eq_getElem?, List.getElem?_eq_getElem (by omega)]
      rfl)
    have HHd : Hid (l[0].kind = 1 → hdB l[0] = !edB (fstB (S l[0].s))) := Lib.hid (fun h1 => by
      unfold hdB
      rw [decide_eq_true h1, fst_S]
      rfl)
    have HHn : Hid (l[0].kind ≠ 1 → hdB l[0] = true) := Lib.hid (fun h1 => by unfold hdB; rw [decide_eq_false h1]; rfl)
    have HL : Hid ((l[l.length - 1]'(by omega)).kind = 1 → ltB (l[l.length - 1]'(by omega)) = !edB (lstB (S (l[l.length - 1]'(by omega)).s))) := Lib.hid (fun h1 => by
      unfold ltB
      rw [decide_eq_true h1, lst_S]
      rfl)
    have HLn : Hid ((l[l.length - 1]'(by omega)).kind ≠ 1 → ltB (l[l.length - 1]'(by omega)) = true) := Lib.hid (fun h1 => by unfold ltB; rw [decide_eq_false h1]; rfl)
    have hsz2 : (S (l[l.length - 1]'(by omega)).s).size ≤ 140737488355328 := by rw [S_size]; exact fitOne_s (HFt.out _ (List.getElem_mem (by omega)))
    have c0 := hC.kind
    have c1 := hC.s
    have c2 := hC.kids
    have d0 := hD.kind
    have d1 := hD.s
    have d2 := hD.kids
    simp only [Nat.zero_mul, Nat.add_zero] at c0 c1 c2
    clear hC hD HX1 HFt HTr
    generalize hdB l[0] = H1 at *
    generalize ltB (l[l.length - 1]'(by omega)) = L1 at *
    generalize l[0].kids.length = kn1 at *
    generalize (l[l.length - 1]'(by omega)).kids.length = kn2 at *
    generalize l[0].kind = z1 at *
    generalize (l[l.length - 1]'(by omega)).kind = z2 at *
    generalize S l[0].s = t1 at *
    generalize S (l[l.length - 1]'(by omega)).s = t2 at *
    go_enter Tryz.func109, Tryz.ntmps109
    go_upto_region 3 with fail
    go_cut [3, 4] from 8 (fun pa pb wx => ∃ PA PB : Nat, pa = .pointer (some ⟨PA, 0, none⟩) ∧ pb = .pointer (some ⟨PB, 0, none⟩) ∧ Hid (wx.heap[PA]? = some (.cells #[.int .i64 z1, .string t1, .slice ak kn1 ck] 81 (0, 0))) ∧ Hid (wx.heap[PB]? = some (.cells #[.int .i64 z2, .string t2, .slice ak2 kn2 ck2] 81 (0, 0))) ∧ Hid (Below w.heap.size w wx))
    case first =>
      clear HX HHd HHn HL HLn
      have sz : ∀ o : Obj, (w.alloc o).heap.size = w.heap.size + 1 := fun o => by simp
      have B1 := Below.refl w.heap.size w
      go_region
      · have hA := alloc_at (alloc_new w (.cells #[.int .i64 z1, .string t1, .slice ak kn1 ck] 81)) (.cells #[.int .i64 z2, .string t2, .slice ak2 kn2 ck2] 81)
        have hB := alloc_new (w.alloc (.cells #[.int .i64 z1, .string t1, .slice ak kn1 ck] 81)) (.cells #[.int .i64 z2, .string t2, .slice ak2 kn2 ck2] 81)
        rw [sz] at hB
        have hZ := Lib.hid (((B1.alloc B1.size (.cells #[.int .i64 z1, .string t1, .slice ak kn1 ck] 81)).alloc (by rw [sz]; have := B1.size; omega) (.cells #[.int .i64 z2, .string t2, .slice ak2 kn2 ck2] 81)).drew)
        have hA' := Lib.hid hA
        have hB' := Lib.hid hB
        clear hA hB sz B1
        go_wp2_with fail
        go_meet
        exact ⟨_, _, rfl, rfl, Lib.hid hA'.out, Lib.hid hB'.out, hZ⟩
      · have hA := alloc_at (alloc_new w (.cells #[.int .i64 z2, .string t2, .slice ak2 kn2 ck2] 81)) (.cells #[.int .i64 z1, .string t1, .slice ak kn1 ck] 81)
        have hB := alloc_new (w.alloc (.cells #[.int .i64 z2, .string t2, .slice ak2 kn2 ck2] 81)) (.cells #[.int .i64 z1, .string t1, .slice ak kn1 ck] 81)
        rw [sz] at hB
        have hZ := Lib.hid (((B1.alloc B1.size (.cells #[.int .i64 z2, .string t2, .slice ak2 kn2 ck2] 81)).alloc (by rw [sz]; have := B1.size; omega) (.cells #[.int .i64 z1, .string t1, .slice ak kn1 ck] 81)).drew)
        have hA' := Lib.hid hA
        have hB' := Lib.hid hB
        clear hA hB sz B1
        go_wp2_with fail
        go_meet
        exact ⟨_, _, rfl, rfl, Lib.hid hB'.out, Lib.hid hA'.out, hZ⟩
    case rest =>
      obtain ⟨PA, PB, rfl, rfl, HPA, HPB, HB5⟩ := hcut
      have a0 : wc.cell? ⟨PA, 0, none⟩ = some (.int .i64 z1) := cell_at HPA.out 0
      have a1 : wc.cell? ⟨PA, 1, none⟩ = some (.string t1) := cell_at HPA.out 1
      have b0 : wc.cell? ⟨PB, 0, none⟩ = some (.int .i64 z2) := cell_at HPB.out 0
      have b1 : wc.cell? ⟨PB, 1, none⟩ = some (.string t2) := cell_at HPB.out 1
      clear HPA HPB c0 c1 c2 d0 d1 d2
      by_cases y1 : z1 = 1
      · have f1 : (z1 == 1) = true := by rw [y1]; rfl
        have HH1 := Lib.hid (HHd.out y1)
        by_cases n1 : t1.size = 0
        · have g1 : (t1.toList != ([] : List UInt8)) = false := by rw [Lib.toList_data, nil_of_zero n1]; rfl
          have g1' : (t1.toList == ([] : List UInt8)) = true := by rw [Lib.toList_data, nil_of_zero n1]; rfl
          have HH3 : Hid (H1 = true) := Lib.hid (by rw [HH1.out]; unfold fstB; rw [nil_of_zero n1]; decide)
          clear n1
          by_cases y2 : z2 = 1
          · have f2 : (z2 != 1) = false := by rw [y2]; rfl
            have HL2 := Lib.hid (HL.out y2)
            by_cases n2 : t2.size = 0
            · have g2 : (t2.toList == ([] : List UInt8)) = true := by rw [Lib.toList_data, nil_of_zero n2]; rfl
              have HR : Hid (X = true) := Lib.hid (by rw [HX.out, HH3.out, Bool.true_and, HL2.out]; unfold lstB; rw [nil_of_zero n2]; decide)
              clear n2
              go_wp2_with fail
              go_ret
              exact ⟨ret_bool HR.out.symm, HB5.out⟩
            · have g2 : (t2.toList == ([] : List UInt8)) = false := by rw [Lib.toList_data]; cases hd : t2.data.toList with | nil => exact absurd (by rw [← len_data, hd]; rfl) n2 | cons _ _ => rfl
              have hs2 : 1 ≤ t2.size := by omega
              have hlt2 : t2.size - 1 < t2.size := by omega
              have HE2 := Lib.hid (gap_any (t2[t2.size - 1]'hlt2) wc)
              have HR : Hid (X = !edB (t2[t2.size - 1]'hlt2)) := Lib.hid (by rw [HX.out, HH3.out, Bool.true_and, HL2.out, lstB_eq t2 hlt2])
              generalize edB (t2[t2.size - 1]'hlt2) = y at *
              go_wp2_with fail
              refine HE2.out.mono ?_
              rintro e8 w8 ⟨rfl, rfl⟩
              go_wp2_with fail
              go_ret
              exact ⟨ret_bool HR.out.symm, HB5.out⟩
          · have f2 : (z2 != 1) = true := by rw [bne_iff_ne]; exact y2
            have HR : Hid (X = true) := Lib.hid (by rw [HX.out, HH3.out, Bool.true_and, HLn.out y2])
            go_wp2_with fail
            go_ret
            exact ⟨ret_bool HR.out.symm, HB5.out⟩
        · have g1 : (t1.toList != ([] : List UInt8)) = true := by rw [Lib.toList_data]; cases hd : t1.data.toList with | nil => exact absurd (by rw [← len_data, hd]; rfl) n1 | cons _ _ => rfl
          have g1' : (t1.toList == ([] : List UInt8)) = false := by rw [Lib.toList_data]; cases hd : t1.data.toList with | nil => exact absurd (by rw [← len_data, hd]; rfl) n1 | cons _ _ => rfl
          have hs1 : 0 < t1.size := by omega
          have HE1 := Lib.hid (gap_any (t1[0]'hs1) wc)
          have HH2 : Hid (H1 = !edB (t1[0]'hs1)) := Lib.hid (by rw [HH1.out, fstB_eq t1 hs1])
          cases hy1 : edB (t1[0]'hs1) with
          | true =>
            rw [hy1] at HE1 HH2
            have HR : Hid (X = false) := Lib.hid (by rw [HX.out, HH2.out]; rfl)
            clear hy1
            go_wp2_with fail
            refine HE1.out.mono ?_
            rintro e7 w7 ⟨rfl, rfl⟩
            go_wp2_with fail
            go_ret
            exact ⟨ret_bool HR.out.symm, HB5.out⟩
          | false =>
            rw [hy1] at HE1 HH2
            have HH3 : Hid (H1 = true) := Lib.hid (by rw [HH2.out]; rfl)
            clear hy1
            by_cases y2 : z2 = 1
            · have f2 : (z2 != 1) = false := by rw [y2]; rfl
              have HL2 := Lib.hid (HL.out y2)
              by_cases n2 : t2.size = 0
              · have g2 : (t2.toList == ([] : List UInt8)) = true := by rw [Lib.toList_data, nil_of_zero n2]; rfl
                have HR : Hid (X = true) := Lib.hid (by rw [HX.out, HH3.out, Bool.true_and, HL2.out]; unfold lstB; rw [nil_of_zero n2]; decide)
                clear n2
                go_wp2_with fail
                refine HE1.out.mono ?_
                rintro e7 w7 ⟨rfl, rfl⟩
                go_wp2_with fail
                go_ret
                exact ⟨ret_bool HR.out.symm, HB5.out⟩
              · have g2 : (t2.toList == ([] : List UInt8)) = false := by rw [Lib.toList_data]; cases hd : t2.data.toList with | nil => exact absurd (by rw [← len_data, hd]; rfl) n2 | cons _ _ => rfl
                have hs2 : 1 ≤ t2.size := by omega
                have hlt2 : t2.size - 1 < t2.size := by omega
                have HE2 := Lib.hid (gap_any (t2[t2.size - 1]'hlt2) wc)
                have HR : Hid (X = !edB (t2[t2.size - 1]'hlt2)) := Lib.hid (by rw [HX.out, HH3.out, Bool.true_and, HL2.out, lstB_eq t2 hlt2])
                generalize edB (t2[t2.size - 1]'hlt2) = y at *
                go_wp2_with fail
                refine HE1.out.mono ?_
                rintro e7 w7 ⟨rfl, rfl⟩
                go_wp2_with fail
                refine HE2.out.mono ?_
                rintro e8 w8 ⟨rfl, rfl⟩
                go_wp2_with fail
                go_ret
                exact ⟨ret_bool HR.out.symm, HB5.out⟩
            · have f2 : (z2 != 1) = true := by rw [bne_iff_ne]; exact y2
              have HR : Hid (X = true) := Lib.hid (by rw [HX.out, HH3.out, Bool.true_and, HLn.out y2])
              go_wp2_with fail
              refine HE1.out.mono ?_
              rintro e7 w7 ⟨rfl, rfl⟩
              go_wp2_with fail
              go_ret
              exact ⟨ret_bool HR.out.symm, HB5.out⟩
      · have f1 : (z1 == 1) = false := by rw [beq_eq_false_iff_ne]; exact y1
        have HH3 := Lib.hid (HHn.out y1)
        by_cases y2 : z2 = 1
        · have f2 : (z2 != 1) = false := by rw [y2]; rfl
          have HL2 := Lib.hid (HL.out y2)
          by_cases n2 : t2.size = 0
          · have g2 : (t2.toList == ([] : List UInt8)) = true := by rw [Lib.toList_data, nil_of_zero n2]; rfl
            have HR : Hid (X = true) := Lib.hid (by rw [HX.out, HH3.out, Bool.true_and, HL2.out]; unfold lstB; rw [nil_of_zero n2]; decide)
            clear n2
            go_wp2_with fail
            go_ret
            exact ⟨ret_bool HR.out.symm, HB5.out⟩
          · have g2 : (t2.toList == ([] : List UInt8)) = false := by rw [Lib.toList_data]; cases hd : t2.data.toList with | nil => exact absurd (by rw [← len_data, hd]; rfl) n2 | cons _ _ => rfl
            have hs2 : 1 ≤ t2.size := by omega
            have hlt2 : t2.size - 1 < t2.size := by omega
            have HE2 := Lib.hid (gap_any (t2[t2.size - 1]'hlt2) wc)
            have HR : Hid (X = !edB (t2[t2.size - 1]'hlt2)) := Lib.hid (by rw [HX.out, HH3.out, Bool.true_and, HL2.out, lstB_eq t2 hlt2])
            generalize edB (t2[t2.size - 1]'hlt2) = y at *
            go_wp2_with fail
            refine HE2.out.mono ?_
            rintro e8 w8 ⟨rfl, rfl⟩
            go_wp2_with fail
            go_ret
            exact ⟨ret_bool HR.out.symm, HB5.out⟩
        · have f2 : (z2 != 1) = true := by rw [bne_iff_ne]; exact y2
          have HR : Hid (X = true) := Lib.hid (by rw [HX.out, HH3.out, Bool.true_and, HLn.out y2])
          go_wp2_with fail
          go_ret
          exact ⟨ret_bool HR.out.symm, HB5.out⟩
set_option maxHeartbeats 1600000 in
theorem rightP_any (l : List Sp) (v : Value) (w : World) (ht : Tr w v l) (hf : fitAll 140737488355328 l) :
    Calls Tryz.prog 83 #[v] w (OkAns w (rtB l)) := by
  have HE := Lib.hid (endsP_any l v w hf ht)
  have HA := Lib.hid (fun w' (h : Below w.heap.size w w') => allP_any (totAll l) l false false v w' (Nat.le_refl _) hf (ht.below h))
  have HX : Hid (rtB l = (okAll false false 0 l && endB l)) := Lib.hid rfl
  obtain ⟨ao, ca, rfl⟩ := ht.len
  obtain ⟨X, hX⟩ : ∃ X, rtB l = X := ⟨_, rfl⟩
  rw [hX] at HX
  rw [hX]
  clear hX ht hf
  generalize okAll false false 0 l = y at *
  generalize endB l = z at *
  cases z with
  | false =>
    have HR : Hid (X = false) := Lib.hid (by rw [HX.out]; simp)
    clear HX HA
    go_enter Tryz.func83, Tryz.ntmps83
    go_wp2_with fail
    refine HE.out.mono ?_
    rintro e1 w1 ⟨rfl, b1⟩
    have HB1 := Lib.hid b1
    clear b1 HE
    go_wp2_with fail
    go_ret
    exact ⟨ret_bool HR.out.symm, HB1.out⟩
  | true =>
    have HR : Hid (X = y) := Lib.hid (by rw [HX.out]; simp)
    clear HX
    go_enter Tryz.func83, Tryz.ntmps83
    go_wp2_with fail
    refine HE.out.mono ?_
    rintro e1 w1 ⟨rfl, b1⟩
    have HB1 := Lib.hid b1
    clear b1 HE
    go_wp2_with fail
    refine (HA.out w1 HB1.out).mono ?_
    rintro e2 w2 ⟨rfl, b2⟩
    have HB2 := Lib.hid (HB1.out.trans (b2.mono HB1.out.size))
    clear b2 HA
    go_wp2_with fail
    go_ret
    exact ⟨ret_bool HR.out.symm, HB2.out⟩
end Go.Proofs.YtldllbmbcnipoabGreatDoor.Sp

namespace Go.Proofs.YtldllbmbcnipoabGreatDoor.Sp
open Go.RowKit
open Go.Proofs.YtldllbmbcnipoabGreatDoor.Tk (S S_of S_list S_size S_toList S_app ret_int eq8 ne8 at_data len_data)
open Go.Proofs.YtldllbmbcnipoabGreatDoor.Cm (calls_at)
set_option linter.unusedVariables false
def wrB (l : List Sp) : ByteArray := S (if rtB l = true then wrs l else [])
def erB (l : List Sp) : Int := if rtB l = true then 0 else 6
def TwoAns (w : World) (x : ByteArray) (n : Int) (e : Ending) (w' : World) : Prop := e = .returned (.tuple #[.string x, .int .i64 n]) ∧ Below w.heap.size w w'
end Go.Proofs.YtldllbmbcnipoabGreatDoor.Sp

namespace Go.Proofs.YtldllbmbcnipoabGreatDoor.Sp
open Go.RowKit
open Go.Proofs.YtldllbmbcnipoabGreatDoor.Tk (S S_of S_list S_size S_toList S_app ret_int eq8 ne8 at_data len_data drop_all)
set_option linter.unusedVariables false
set_option maxHeartbeats 1600000 in
theorem writeP_any (v : Value) (l : List Sp) (w : World) (ht : Tr w v l) (hn : totAll l ≤ 20000) (hf : fitAll 140737488355328 l) :
    Calls Tryz.prog 119 #[v] w (TwoAns w (wrB l) (erB l)) := by
  have HR := Lib.hid (rightP_any l v w ht hf)
  have hwl := wrs_le l
  unfold wrB erB
  cases hr : rtB l with
  | false =>
    rw [hr] at HR
    rw [if_neg (by simp), if_neg (by simp)]
    have hS : S [] = ⟨#[]⟩ := rfl
    rw [hS]
    clear hr hS ht hf hwl
    go_enter Tryz.func119, Tryz.ntmps119
    go_wp2_with fail
    refine HR.out.mono ?_
    rintro e w1 ⟨rfl, b1⟩
    have B1 := Lib.hid b1
    clear b1 HR
    go_wp2_with fail
    go_ret2
    exact ⟨rfl, B1.out⟩
  | true =>
    rw [hr] at HR
    rw [if_pos rfl, if_pos rfl]
    have HW := Lib.hid (fun (w1 : World) (hb : Below w.heap.size w w1) => writeAllP_any w1 w1.heap.size (totAll l) l v [] (w1.alloc (.cells #[.pointer none, .slice none 0 0] 42)) (Nat.le_refl _) (by omega) (ht.below hb) ((Below.refl _ _).alloc (Nat.le_refl _) _) (Bd.begin w1) (by simp; omega))
    simp only [List.nil_append] at HW
    clear hr ht hf hwl
    generalize wrs l = y at *
    go_enter Tryz.func119, Tryz.ntmps119
    go_wp2_with fail
    refine HR.out.mono ?_
    rintro e w1 ⟨rfl, b1⟩
    have HW1 := Lib.hid (HW.out w1 b1)
    have B1 := Lib.hid b1
    clear b1 HR HW
    go_wp2_with fail
    refine HW1.out.mono ?_
    rintro e w2 ⟨rfl, b2⟩
    have hb2 : Below w1.heap.size w1 w2 := ((Below.refl w1.heap.size w1).alloc (Nat.le_refl _) _).trans b2.bel
    have HS := Lib.hid (stringW_any _ _ _ w2 b2.bd hb2.size)
    have B2 := Lib.hid hb2
    clear b2 hb2 HW1
    go_wp2_with fail
    refine HS.out.mono ?_
    rintro e w3 ⟨rfl, b3⟩
    have B3 := Lib.hid (B1.out.trans ((B2.out.trans b3).mono B1.out.size))
    clear b3 HS
    go_wp2_with fail
    go_ret2
    exact ⟨rfl, B3.out⟩
end Go.Proofs.YtldllbmbcnipoabGreatDoor.Sp

namespace Go.Proofs.YtldllbmbcnipoabGreatDoor.Bk
open Go.Proofs.YtldllbmbcnipoabGreatDoor.Ln (run mx trim run_yes run_no run_le)
open Go.Proofs.YtldllbmbcnipoabGreatDoor.Sp (Sp wrs destB)
set_option linter.unusedVariables false
structure Env where
  chk : Tx → Bool
variable (E : Env)
def gapB (c : UInt8) : Bool := c == 32 || c == 9
def tight (s : Tx) : Bool := s.all (fun _ => true) && (match s.head? with | none => true | some c => !gapB c) && (match s.getLast? with | none => true | some c => !gapB c)
def label (s : Tx) : Bool := E.chk s && decide (s ≠ []) && tight s && !s.contains 10 && !s.contains 13 && !s.contains 91 && !s.contains 93 && !s.contains 92
def isDest (s : Tx) : Bool := decide (s ≠ []) && s.all destB
def df : Tx → Tx → Option (Tx × Tx)
  | _, [] => none
  | acc, c :: t => match c, t with
    | 93, 58 :: 32 :: d => if label E acc && isDest d then some (acc, d) else df (acc ++ [93]) (58 :: 32 :: d)
    | c, t => df (acc ++ [c]) t
def define (s : Tx) : Option (Tx × Tx) := match s with
  | 91 :: t => df E [] t
  | _ => none
def kindOf (s : Tx) : Nat :=
  if trim s = [] then 1
  else if (1 ≤ run 35 s ∧ run 35 s ≤ 6) ∧ (s.length = run 35 s ∨ s[run 35 s]? = some 32) then 2
  else if 3 ≤ run 45 s ∧ run 45 s = s.length then 3
  else if 3 ≤ run 96 s ∧ mx 96 (s.drop (run 96 s)) = 0 then 4
  else if s.head? = some 62 then 5
  else if s = [45] ∨ s.take 2 = [45, 32] then 6
  else if (define E s).isSome = true then 7 else 8
def closes (s : Tx) (n : Nat) : Bool := decide (0 < s.length) && decide (n ≤ s.length) && decide (run 96 s = s.length)
def unquote (s : Tx) : Tx := if s[1]? = some 32 then s.drop 2 else s.drop 1
def unitem (s : Tx) : Tx := s.drop 2
def inner (s : Tx) : Option Tx := if s.take 2 = [32, 32] then some (s.drop 2) else if trim s = [] then some [] else none
def parse (t : Tx) : List Sp := (Sp.read t.length false false t).1
def joinLF : List Tx → Tx
  | [] => []
  | [x] => x
  | x :: y :: r => x ++ 10 :: joinLF (y :: r)
def fenceL (n : Nat) : List Tx → List Tx × List Tx
  | [] => ([], [])
  | s :: l => if closes s n then ([], l) else (s :: (fenceL n l).1, (fenceL n l).2)
def spanK (k : Nat) : List Tx → List Tx × List Tx
  | [] => ([], [])
  | s :: l => if kindOf E s = k then (s :: (spanK k l).1, (spanK k l).2) else ([], s :: l)
def itemL : List Tx → List Tx × List Tx
  | [] => ([], [])
  | s :: l => match inner s with
    | none => ([], s :: l)
    | some x => if (itemL l).1 = [] ∧ kindOf E s = 1 then ([], s :: l) else (x :: (itemL l).1, (itemL l).2)
def dropBlank : List Tx → List Tx
  | [] => []
  | s :: l => if kindOf E s = 1 then dropBlank l else s :: l
def listL : Nat → List Tx → List (List Tx) × List Tx
  | 0, l => ([], l)
  | f + 1, [] => ([], [])
  | f + 1, s :: l =>
    let it := itemL E l
    match dropBlank E it.2 with
    | [] => ([unitem s :: it.1], it.2)
    | t :: r => if kindOf E t = 6 then ((unitem s :: it.1) :: (listL f (t :: r)).1, (listL f (t :: r)).2) else ([unitem s :: it.1], it.2)
def items (rec : List Tx → Option (List Bk)) : List (List Tx) → Option (List Bk)
  | [] => some []
  | x :: r => match rec x with
    | none => none
    | some k => (items rec r).map (.mk 7 0 [] [] [] k :: ·)
def blockB (rec : Nat → List Tx → Option (List Bk)) (deep : Nat) (s : Tx) (l : List Tx) : Option (Bk × List Tx) :=
  if kindOf E s = 2 then some (.mk 2 (run 35 s) [] [] (parse (trim (s.drop (run 35 s)))) [], l)
  else if kindOf E s = 3 then some (.mk 3 0 [] [] [] [], l)
  else if kindOf E s = 4 then some (.mk 4 0 (trim (s.drop (run 96 s))) (fenceL (run 96 s) l).1 [] [], (fenceL (run 96 s) l).2)
  else if kindOf E s = 5 then (rec (deep + 1) ((spanK E 5 (s :: l)).1.map unquote)).map fun k => (.mk 5 0 [] [] [] k, (spanK E 5 (s :: l)).2)
  else if kindOf E s = 6 then (items (rec (deep + 2)) (listL E (l.length + 1) (s :: l)).1).map fun k => (.mk 6 0 [] [] [] k, (listL E (l.length + 1) (s :: l)).2)
  else if kindOf E s = 7 then (define E s).map fun p => (.mk 8 0 p.1 [p.2] [] [], l)
  else some (.mk 1 0 [] [] (parse (joinLF ((spanK E 8 (s :: l)).1.map trim))) [], (spanK E 8 (s :: l)).2)
def allB : Nat → Nat → List Tx → Option (List Bk)
  | 0, _, _ => none
  | f + 1, deep, l => if 16 < deep then none else match l with
    | [] => some []
    | s :: l => if kindOf E s = 1 then allB f deep l
      else match blockB E (allB f) deep s l with
        | none => none
        | some (b, r) => (allB f deep r).map (b :: ·)
def ticksL (l : List Tx) : Nat := l.foldr (fun s n => max (mx 96 s + 1) n) 3
def preQ (s : Tx) : Tx := if s = [] then [62] else 62 :: 32 :: s
def preI (s : Tx) : Tx := if s = [] then [] else 32 :: 32 :: s
def itemW (l : List Tx) : List Tx := match l with
  | [] => [[45]]
  | s :: r => (45 :: 32 :: s) :: r.map preI
mutual
def one : Bk → List Tx
  | .mk k lv info lines spans kids =>
    if k = 1 then (Ln.split (wrs spans)).1
    else if k = 2 then [List.replicate lv.toNat 35 ++ (if spans = [] then [] else 32 :: wrs spans)]
    else if k = 3 then [[45, 45, 45]]
    else if k = 4 then (List.replicate (ticksL lines) 96 ++ info) :: (lines ++ [List.replicate (ticksL lines) 96])
    else if k = 5 then (if wl kids = [] then [[62]] else (wl kids).map preQ)
    else if k = 6 then its kids
    else if k = 7 then itemW (wl kids)
    else [91 :: (info ++ (93 :: 58 :: 32 :: (lines.headD [])))]
def wl : List Bk → List Tx
  | [] => []
  | b :: r => match r with
    | [] => one b
    | _ :: _ => one b ++ [] :: wl r
def its : List Bk → List Tx
  | [] => []
  | b :: r => one b ++ its r
end
end Go.Proofs.YtldllbmbcnipoabGreatDoor.Bk
