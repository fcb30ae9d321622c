/-
  CONTRACT of the document's Right (emendationref07).
-/
import Derived.Test.YtpenjdnbnacebaaDoorSpAll
namespace Go.Proofs.YtpenjdnbnacebaaDoor.Sp
open Go.RowKit
open Go.Proofs.YtpenjdnbnacebaaDoor.Tk (S S_of S_list S_size S_toList S_app ret_int eq8 ne8 at_data len_data)
open Go.Proofs.YtpenjdnbnacebaaDoor.Cm (calls_at Keep alloc_new alloc_at cell_at lt_of_at)
set_option linter.unusedVariables false

def hdB (x : Sp) : Bool := !decide (x.kind = 1) || !edB (x.s.headD 0)
def ltB (x : Sp) : Bool := !decide (x.kind = 1) || !edB (x.s.getLastD 0)
def endB (l : List Sp) : Bool := (l.head?.elim true hdB) && (l.getLast?.elim true ltB)
/-- Spans in normal form. -/
def rtB (l : List Sp) : Bool := okAll false false 0 l && endB l
theorem okAll_mem {e k : Bool} : ∀ {l : List Sp} {p : Int}, okAll e k p l = true → ∀ x ∈ l, okOne e k x = true
  | [], _, _, x, hx => by cases hx
  | y :: r, p, h, x, hx => by
    rw [okAll_cons, Bool.and_eq_true, Bool.and_eq_true] at h
    rcases List.mem_cons.1 hx with rfl | hx
    · exact h.1.1
    · exact okAll_mem h.2 x hx
theorem okOne_text {e k : Bool} {x : Sp} (h : okOne e k x = true) (h1 : x.kind = 1) : x.s ≠ [] := by
  rw [okOne_eq, if_pos h1, Bool.and_eq_true, Bool.and_eq_true] at h
  have := h.2.2
  unfold ttB at this
  rw [Bool.and_eq_true, Bool.and_eq_true] at this
  have := this.2.1
  intro e
  rw [e] at this
  simp at this
def fstB (t : ByteArray) : UInt8 := t.data.toList.headD 0
def lstB (t : ByteArray) : UInt8 := t.data.toList.getLastD 0
theorem fstB_eq (t : ByteArray) (h : 0 < t.size) : fstB t = t[0] := by
  have := at_data t 0 h
  rw [List.drop_zero] at this
  have h2 : t.data.toList.head? = some t[0] := congrArg List.head? this
  unfold fstB
  rw [List.headD_eq_head?_getD, h2]
  rfl
theorem lstB_eq (t : ByteArray) (h : t.size - 1 < t.size) : lstB t = t[t.size - 1] := by
  have h1 := at_data t (t.size - 1) h
  have hl := len_data t
  have h2 : (t.data.toList.drop (t.size - 1)).head? = some t[t.size - 1] := congrArg List.head? h1
  unfold lstB
  rw [List.getLastD_eq_getLast?, List.getLast?_eq_getElem?, ← List.head?_drop, hl, h2]
  rfl
theorem fst_S (s : List UInt8) : fstB (S s) = s.headD 0 := by unfold fstB; rw [S_list]
theorem lst_S (s : List UInt8) : lstB (S s) = s.getLastD 0 := by unfold lstB; rw [S_list]

set_option maxHeartbeats 6400000 in
set_option maxRecDepth 100000 in
theorem rright_any (l : List Sp) (v : Value) (w : World) (hf : fitAll 140737488355328 l) (ht : Tr w v l) :
    Calls Tryd.prog 73 #[v] w (OkAns w (rtB l)) := by
  obtain ⟨ao, ca, rfl⟩ := ht.len
  have HT := Lib.hid ht
  have hlen := ht.short
  have HA := Lib.hid (all_any (totAll l) l false false _ w (Nat.le_refl _) hf ht)
  have HX0 : Hid (rtB l = (okAll false false 0 l && endB l)) := Lib.hid rfl
  have HMm := Lib.hid (fun (h : okAll false false 0 l = true) => okAll_mem h)
  have HFt := Lib.hid (fitAll_at hf)
  obtain ⟨X, hX⟩ : ∃ X, rtB l = X := ⟨_, rfl⟩
  rw [hX] at HX0
  rw [hX]
  clear hX ht hf
  go_enter Tryd.func73, Tryd.ntmps73
  go_wp2_with fail
  refine HA.out.mono ?_
  rintro e1 w1 ⟨rfl, b1⟩
  have HB1 := Lib.hid b1
  clear b1 HA
  cases hok : okAll false false 0 l with
  | false =>
    have HR : Hid (X = false) := Lib.hid (by rw [HX0.out, hok]; rfl)
    clear HX0 hok HMm
    go_wp2_with fail
    go_ret
    exact ⟨ret_bool HR.out.symm, HB1.out⟩
  | true =>
    have HM := Lib.hid (HMm.out hok)
    have HX1 : Hid (X = endB l) := Lib.hid (by rw [HX0.out, hok]; rfl)
    clear HX0 hok HMm
    by_cases h0 : l.length = 0
    · have e0 : ((l.length : Int) == 0) = true := by rw [h0]; rfl
      have HR : Hid (X = true) := Lib.hid (by rw [HX1.out, List.eq_nil_of_length_eq_zero h0]; rfl)
      clear HX1 HM
      go_wp2_with fail
      go_ret
      exact ⟨ret_bool HR.out.symm, HB1.out⟩
    · have e0 : ((l.length : Int) == 0) = false := by rw [beq_eq_false_iff_ne]; omega
      have hpos : 0 < l.length := by omega
      have hi0 : (0 : Int) < (l.length : Int) := by omega
      have HTr := Lib.hid (HT.out.below HB1.out)
      obtain ⟨b, o, ak, ck, rfl, hbl, hC⟩ := HTr.out.at 0 hpos
      obtain ⟨b', o', ak2, ck2, hao, _, hD⟩ := HTr.out.at (l.length - 1) (by omega)
      simp only [Option.some.injEq, Addr.mk.injEq, and_true] at hao
      obtain ⟨rfl, rfl⟩ := hao
      have HX : Hid (X = (hdB l[0] && ltB (l[l.length - 1]'(by omega)))) := Lib.hid (by
        rw [HX1.out]
        unfold endB
        rw [List.head?_eq_getElem?, List.getElem?_eq_getElem hpos, List.getLast?_eq_getElem?, List.getElem?_eq_getElem (by omega)]
        rfl)
      have HHd : Hid (l[0].kind = 1 → 0 < (S l[0].s).size ∧ hdB l[0] = !edB (fstB (S l[0].s))) := Lib.hid (fun h1 => by
        have hne := okOne_text (HM.out _ (List.getElem_mem hpos)) h1
        have h : 0 < (S l[0].s).size := by rw [S_size]; exact List.length_pos_iff.2 hne
        refine ⟨h, ?_⟩
        unfold hdB
        rw [decide_eq_true h1, fst_S]
        rfl)
      have HHn : Hid (l[0].kind ≠ 1 → hdB l[0] = true) := Lib.hid (fun h1 => by unfold hdB; rw [decide_eq_false h1]; rfl)
      have HL : Hid ((l[l.length - 1]'(by omega)).kind = 1 → 0 < (S (l[l.length - 1]'(by omega)).s).size ∧ ((S (l[l.length - 1]'(by omega)).s).size ≤ 140737488355328) ∧ ltB (l[l.length - 1]'(by omega)) = !edB (lstB (S (l[l.length - 1]'(by omega)).s))) := Lib.hid (fun h1 => by
        have hne := okOne_text (HM.out _ (List.getElem_mem (by omega))) h1
        have h : 0 < (S (l[l.length - 1]'(by omega)).s).size := by rw [S_size]; exact List.length_pos_iff.2 hne
        refine ⟨h, by rw [S_size]; exact fitOne_s (HFt.out _ (List.getElem_mem (by omega))), ?_⟩
        unfold ltB
        rw [decide_eq_true h1, lst_S]
        rfl)
      have HLn : Hid ((l[l.length - 1]'(by omega)).kind ≠ 1 → ltB (l[l.length - 1]'(by omega)) = true) := Lib.hid (fun h1 => by unfold ltB; rw [decide_eq_false h1]; rfl)
      have c0 := hC.kind
      have c1 := hC.s
      have c2 := hC.kids
      have d0 := hD.kind
      have d1 := hD.s
      have d2 := hD.kids
      simp only [Nat.zero_mul, Nat.add_zero] at c0 c1 c2
      clear hC hD HX1 HM HFt HT
      generalize hdB l[0] = H1 at *
      generalize ltB (l[l.length - 1]'(by omega)) = L1 at *
      generalize l[0].kids.length = kn1 at *
      generalize (l[l.length - 1]'(by omega)).kids.length = kn2 at *
      generalize l[0].kind = z1 at *
      generalize (l[l.length - 1]'(by omega)).kind = z2 at *
      generalize S l[0].s = t1 at *
      generalize S (l[l.length - 1]'(by omega)).s = t2 at *
      go_upto_region 5 with fail
      go_cut [3, 4] from 20 (fun pa pb wx => ∃ PA PB : Nat, pa = .pointer (some ⟨PA, 0, none⟩) ∧ pb = .pointer (some ⟨PB, 0, none⟩) ∧ Hid (wx.heap[PA]? = some (.cells #[.int .i64 z1, .string t1, .slice ak kn1 ck] 58 (0, 0))) ∧ Hid (wx.heap[PB]? = some (.cells #[.int .i64 z2, .string t2, .slice ak2 kn2 ck2] 58 (0, 0))) ∧ Hid (Below w.heap.size w wx))
      case first =>
        clear HX HHd HHn HL HLn
        have sz : ∀ o : Obj, (w1.alloc o).heap.size = w1.heap.size + 1 := fun o => by simp
        have B1 := HB1.out
        go_region
        · have hA := alloc_at (alloc_new w1 (.cells #[.int .i64 z1, .string t1, .slice ak kn1 ck] 58)) (.cells #[.int .i64 z2, .string t2, .slice ak2 kn2 ck2] 58)
          have hB := alloc_new (w1.alloc (.cells #[.int .i64 z1, .string t1, .slice ak kn1 ck] 58)) (.cells #[.int .i64 z2, .string t2, .slice ak2 kn2 ck2] 58)
          rw [sz] at hB
          have hZ := Lib.hid (((B1.alloc B1.size (.cells #[.int .i64 z1, .string t1, .slice ak kn1 ck] 58)).alloc (by rw [sz]; have := B1.size; omega) (.cells #[.int .i64 z2, .string t2, .slice ak2 kn2 ck2] 58)).drew)
          have hA' := Lib.hid hA
          have hB' := Lib.hid hB
          clear hA hB sz B1
          go_wp2_with fail
          go_meet
          exact ⟨_, _, rfl, rfl, Lib.hid hA'.out, Lib.hid hB'.out, hZ⟩
        · have hA := alloc_at (alloc_new w1 (.cells #[.int .i64 z2, .string t2, .slice ak2 kn2 ck2] 58)) (.cells #[.int .i64 z1, .string t1, .slice ak kn1 ck] 58)
          have hB := alloc_new (w1.alloc (.cells #[.int .i64 z2, .string t2, .slice ak2 kn2 ck2] 58)) (.cells #[.int .i64 z1, .string t1, .slice ak kn1 ck] 58)
          rw [sz] at hB
          have hZ := Lib.hid (((B1.alloc B1.size (.cells #[.int .i64 z2, .string t2, .slice ak2 kn2 ck2] 58)).alloc (by rw [sz]; have := B1.size; omega) (.cells #[.int .i64 z1, .string t1, .slice ak kn1 ck] 58)).drew)
          have hA' := Lib.hid hA
          have hB' := Lib.hid hB
          clear hA hB sz B1
          go_wp2_with fail
          go_meet
          exact ⟨_, _, rfl, rfl, Lib.hid hB'.out, Lib.hid hA'.out, hZ⟩
      case rest =>
        obtain ⟨PA, PB, rfl, rfl, HPA, HPB, HB5⟩ := hcut
        have a0 : wc.cell? ⟨PA, 0, none⟩ = some (.int .i64 z1) := cell_at HPA.out 0
        have a1 : wc.cell? ⟨PA, 1, none⟩ = some (.string t1) := cell_at HPA.out 1
        have b0 : wc.cell? ⟨PB, 0, none⟩ = some (.int .i64 z2) := cell_at HPB.out 0
        have b1 : wc.cell? ⟨PB, 1, none⟩ = some (.string t2) := cell_at HPB.out 1
        clear HPA HPB HTr HB1 c0 c1 c2 d0 d1 d2
        by_cases y1 : z1 = 1
        · have f1 : (z1 != 1) = false := by rw [y1]; rfl
          obtain ⟨n1, HH1⟩ := HHd.out y1
          rw [fstB_eq t1 n1] at HH1
          have HE1 := Lib.hid (edge_any (t1[0]'n1) wc)
          have HH2 := Lib.hid HH1
          clear HH1
          cases hy1 : edB (t1[0]'n1) with
          | true =>
            rw [hy1] at HE1 HH2
            have HR : Hid (X = false) := Lib.hid (by rw [HX.out, HH2.out]; rfl)
            go_wp2_with fail
            refine HE1.out.mono ?_
            rintro e7 w7 ⟨rfl, rfl⟩
            go_wp2_with fail
            go_ret
            exact ⟨ret_bool HR.out.symm, HB5.out⟩
          | false =>
            rw [hy1] at HE1 HH2
            by_cases y2 : z2 = 1
            · have f2 : (z2 != 1) = false := by rw [y2]; rfl
              obtain ⟨n2, g2, HL2⟩ := HL.out y2
              rw [lstB_eq t2 (by omega)] at HL2
              have HE2 := Lib.hid (edge_any (t2[t2.size - 1]'(by omega)) wc)
              have HR : Hid (X = !edB (t2[t2.size - 1]'(by omega))) := Lib.hid (by rw [HX.out, HH2.out, Bool.not_false, Bool.true_and, HL2])
              have hs2 : 1 ≤ t2.size := by omega
              generalize edB (t2[t2.size - 1]'(by omega)) = y at *
              go_wp2_with fail
              refine HE1.out.mono ?_
              rintro e7 w7 ⟨rfl, rfl⟩
              go_wp2_with fail
              refine HE2.out.mono ?_
              rintro e8 w8 ⟨rfl, rfl⟩
              go_wp2_with fail
              go_ret
              exact ⟨ret_bool HR.out.symm, HB5.out⟩
            · have f2 : (z2 != 1) = true := by rw [bne_iff_ne]; exact y2
              have HR : Hid (X = true) := Lib.hid (by rw [HX.out, HH2.out, Bool.not_false, Bool.true_and, HLn.out y2]; try rfl)
              go_wp2_with fail
              refine HE1.out.mono ?_
              rintro e7 w7 ⟨rfl, rfl⟩
              go_wp2_with fail
              go_ret
              exact ⟨ret_bool HR.out.symm, HB5.out⟩
        · have f1 : (z1 != 1) = true := by rw [bne_iff_ne]; exact y1
          have HH3 := Lib.hid (HHn.out y1)
          by_cases y2 : z2 = 1
          · have f2 : (z2 != 1) = false := by rw [y2]; rfl
            obtain ⟨n2, g2, HL2⟩ := HL.out y2
            rw [lstB_eq t2 (by omega)] at HL2
            have HE2 := Lib.hid (edge_any (t2[t2.size - 1]'(by omega)) wc)
            have HR : Hid (X = !edB (t2[t2.size - 1]'(by omega))) := Lib.hid (by rw [HX.out, HH3.out, Bool.true_and, HL2])
            have hs2 : 1 ≤ t2.size := by omega
            generalize edB (t2[t2.size - 1]'(by omega)) = y at *
            go_wp2_with fail
            refine HE2.out.mono ?_
            rintro e8 w8 ⟨rfl, rfl⟩
            go_wp2_with fail
            go_ret
            exact ⟨ret_bool HR.out.symm, HB5.out⟩
          · have f2 : (z2 != 1) = true := by rw [bne_iff_ne]; exact y2
            have HR : Hid (X = true) := Lib.hid (by rw [HX.out, HH3.out, Bool.true_and, HLn.out y2]; try rfl)
            go_wp2_with fail
            go_ret
            exact ⟨ret_bool HR.out.symm, HB5.out⟩

end Go.Proofs.YtpenjdnbnacebaaDoor.Sp
