/-
  CONTRACTS of the program's kidsRight, oneRight (span).
-/
import Derived.Test.YthmgbmgbifbheaaDoorSpAny
namespace Go.Proofs.YthmgbmgbifbheaaDoor.Sp
open Go.RowKit
open Go.Proofs.YthmgbmgbifbheaaDoor.Tk (S S_of S_list S_size S_toList S_app ret_int eq8 ne8 at_data len_data)
open Go.Proofs.YthmgbmgbifbheaaDoor.Cm (calls_at alloc_new alloc_at cell_at lt_of_at)
set_option linter.unusedVariables false

theorem kidsP_of (l : List Sp) (e k : Bool) (ak : Option Addr) (ck : Nat) (w : World)
    (IH : ∀ w', Below w.heap.size w w' → Calls Tryd.prog 67 #[.slice ak l.length ck, .agg #[.bool e, .bool k]] w' (OkAns w' (okAll e k 0 l))) :
    Calls Tryd.prog 102 #[.slice ak l.length ck, .agg #[.bool e, .bool k]] w (OkAns w (!l.isEmpty && okAll e k 0 l)) := by
  have g2 := gt_len l
  have b1 : Below w.heap.size w (w.alloc (.cells #[.bool e, .bool k] 76)) := (Below.refl _ _).alloc (Nat.le_refl _) _
  have HI := Lib.hid (IH _ b1)
  have HB := Lib.hid b1
  clear IH b1
  generalize okAll e k 0 l = y at *
  cases hl : l.isEmpty with
  | true =>
    rw [hl] at g2
    have h0 : ¬ 0 < (l.length : Int) := of_decide_eq_false g2
    clear hl g2 HI
    generalize l.length = n at *
    go_enter Tryd.func102, Tryd.ntmps102
    go_wp2_with fail
    go_ret
    exact ⟨rfl, HB.out⟩
  | false =>
    rw [hl] at g2
    have h0 : 0 < (l.length : Int) := of_decide_eq_true g2
    clear hl g2
    generalize l.length = n at *
    go_enter Tryd.func102, Tryd.ntmps102
    go_wp2_with fail
    refine HI.out.mono ?_
    rintro e1 w1 ⟨rfl, b1⟩
    have HB1 := Lib.hid (HB.out.trans (b1.mono HB.out.size))
    clear b1 HI
    go_wp2_with fail
    go_ret
    exact ⟨rfl, HB1.out⟩

set_option maxHeartbeats 3200000 in
set_option maxRecDepth 100000 in
theorem oneP_of (x : Sp) (e k : Bool) (ak : Option Addr) (ck : Nat) (w : World) (hs : x.s.length ≤ 140737488355328)
    (IH : ∀ (e k : Bool) (w' : World), Below w.heap.size w w' → Calls Tryd.prog 67 #[.slice ak x.kids.length ck, .agg #[.bool e, .bool k]] w' (OkAns w' (okAll e k 0 x.kids))) :
    Calls Tryd.prog 89 #[.agg #[.int .i64 x.kind, .string (S x.s), .slice ak x.kids.length ck], .agg #[.bool e, .bool k]] w (OkAns w (okOne e k x)) := by
  have HK := Lib.hid (fun e k w' (h : Below w.heap.size w w') => kidsP_of x.kids e k ak ck w' (fun w'' h'' => IH e k w'' (h.trans (h''.mono h.size))))
  have HI3 := Lib.hid (HK.out true k)
  have HI4 := Lib.hid (HK.out e true)
  clear HK IH
  obtain ⟨q, s, l⟩ := x
  simp only [Sp.kind, Sp.s, Sp.kids] at HI3 HI4 hs ⊢
  have HE : Hid (okOne e k (.mk q s l) = (ckB s && (if q = 1 then (l.isEmpty && ttB s) else if q = 2 then (l.isEmpty && cdB s)
      else if q = 3 then (s.isEmpty && (!l.isEmpty && (!e && okAll true k 0 l))) else if q = 4 then (dsB s && (!l.isEmpty && (!k && okAll e true 0 l))) else false))) := Lib.hid (by rw [okOne]; rfl)
  have hsz : (S s).size ≤ 140737488355328 := by rw [S_size]; exact hs
  have HT := Lib.hid (fun w' => textP_any (S s) hsz w')
  have HC := Lib.hid (fun w' => codeP_any (S s) hsz w')
  have HD := Lib.hid (fun w' => destP_any (S s) hsz w')
  rw [S_list] at HT HC HD
  have HEm : Hid ((S s).toList.isEmpty = s.isEmpty) := Lib.hid (by rw [S_toList])
  have HNl : Hid (s.isEmpty = true → ckB s = true) := Lib.hid (fun h => by
    have : s = [] := List.isEmpty_iff.1 h
    rw [this]; exact ck_nil)
  have hck : ckB s = ctB (S s) := ckB_S s
  have g1 := isEmpty_len l
  obtain ⟨X, hX⟩ : ∃ X, okOne e k (.mk q s l) = X := ⟨_, rfl⟩
  rw [hX] at HE
  rw [hX]
  rw [← hck] at HT HC HD
  clear hX hck
  generalize ttB s = tt at *
  generalize cdB s = tcd at *
  generalize dsB s = td at *
  generalize ckB s = tc at *
  generalize okAll true k 0 l = y3 at *
  generalize okAll e true 0 l = y4 at *
  generalize s.isEmpty = te at *
  generalize l.isEmpty = tl at *
  generalize l.length = ln at *
  generalize S s = ss at *
  go_enter Tryd.func89, Tryd.ntmps89
  go_upto_region 1 with fail
  have HC1 := Lib.hid (alloc_at (alloc_new w (.cells #[.int .i64 q, .string ss, .slice ak ln ck] 34)) (.cells #[.bool e, .bool k] 76))
  have HP1 := Lib.hid (alloc_new (w.alloc (.cells #[.int .i64 q, .string ss, .slice ak ln ck] 34)) (.cells #[.bool e, .bool k] 76))
  have sz : ∀ o : Obj, (w.alloc o).heap.size = w.heap.size + 1 := fun o => by simp
  rw [sz] at HP1
  have HB1 := Lib.hid (((Below.refl w.heap.size w).alloc (Nat.le_refl _) (.cells #[.int .i64 q, .string ss, .slice ak ln ck] 34)).alloc (by rw [sz]; omega) (.cells #[.bool e, .bool k] 76))
  clear sz
  generalize (w.alloc (.cells #[.int .i64 q, .string ss, .slice ak ln ck] 34)).alloc (.cells #[.bool e, .bool k] 76) = w1 at *
  have k0 : w1.cell? ⟨w.heap.size, 0, none⟩ = some (.int .i64 q) := cell_at HC1.out 0
  have k1 : w1.cell? ⟨w.heap.size, 1, none⟩ = some (.string ss) := cell_at HC1.out 1
  have k2 : w1.cell? ⟨w.heap.size, 2, none⟩ = some (.slice ak ln ck) := cell_at HC1.out 2
  have p0 : w1.cell? ⟨w.heap.size + 1, 0, none⟩ = some (.bool e) := cell_at HP1.out 0
  have p1 : w1.cell? ⟨w.heap.size + 1, 1, none⟩ = some (.bool k) := cell_at HP1.out 1
  have em2 : (ss.toList == ([] : List UInt8)) = te := by rw [← HEm.out]; cases ss.toList <;> rfl
  clear HEm
  by_cases q1 : q = 1
  · have f1 : (q == 1) = true := by rw [q1]; rfl
    cases tl with
    | true =>
      have HR : Hid (X = (tc && tt)) := Lib.hid (by rw [HE.out, if_pos q1]; simp)
      clear HE q1
      go_wp2_with fail
      refine (HT.out _).mono ?_
      rintro e3 w3 ⟨rfl, b3⟩
      have HB3 := Lib.hid (HB1.out.trans (b3.mono HB1.out.size))
      clear b3
      go_wp2_with fail
      go_ret
      exact ⟨ret_bool HR.out.symm, HB3.out⟩
    | false =>
      have HR : Hid (X = false) := Lib.hid (by rw [HE.out, if_pos q1]; simp)
      clear HE q1
      go_wp2_with fail
      go_ret
      exact ⟨ret_bool HR.out.symm, HB1.out⟩
  · have f1 : (q == 1) = false := by rw [beq_eq_false_iff_ne]; exact q1
    by_cases q2 : q = 2
    · have f2 : (q == 2) = true := by rw [q2]; rfl
      cases tl with
      | true =>
        have HR : Hid (X = (tc && tcd)) := Lib.hid (by rw [HE.out, if_neg q1, if_pos q2]; simp)
        clear HE q1 q2
        go_wp2_with fail
        refine (HC.out _).mono ?_
        rintro e3 w3 ⟨rfl, b3⟩
        have HB3 := Lib.hid (HB1.out.trans (b3.mono HB1.out.size))
        clear b3
        go_wp2_with fail
        go_ret
        exact ⟨ret_bool HR.out.symm, HB3.out⟩
      | false =>
        have HR : Hid (X = false) := Lib.hid (by rw [HE.out, if_neg q1, if_pos q2]; simp)
        clear HE q1 q2
        go_wp2_with fail
        go_ret
        exact ⟨ret_bool HR.out.symm, HB1.out⟩
    · have f2 : (q == 2) = false := by rw [beq_eq_false_iff_ne]; exact q2
      by_cases q3 : q = 3
      · have f3 : (q == 3) = true := by rw [q3]; rfl
        cases e with
        | true =>
          have HR : Hid (X = false) := Lib.hid (by rw [HE.out, if_neg q1, if_neg q2, if_pos q3]; simp)
          clear HE q1 q2 q3
          go_wp2_with fail
          go_ret
          exact ⟨ret_bool HR.out.symm, HB1.out⟩
        | false =>
          cases te with
          | false =>
            have HR : Hid (X = false) := Lib.hid (by rw [HE.out, if_neg q1, if_neg q2, if_pos q3]; simp)
            clear HE q1 q2 q3
            go_wp2_with fail
            go_ret
            exact ⟨ret_bool HR.out.symm, HB1.out⟩
          | true =>
            have htc := HNl.out rfl
            have HR : Hid (X = (!tl && y3)) := Lib.hid (by rw [HE.out, htc, if_neg q1, if_neg q2, if_pos q3]; simp)
            clear HE q1 q2 q3 htc HNl
            go_wp2_with fail
            refine (HI3.out _ HB1.out).mono ?_
            rintro e3 w3 ⟨rfl, b3⟩
            have HB3 := Lib.hid (HB1.out.trans (b3.mono HB1.out.size))
            clear b3
            go_wp2_with fail
            go_ret
            exact ⟨ret_bool HR.out.symm, HB3.out⟩
      · have f3 : (q == 3) = false := by rw [beq_eq_false_iff_ne]; exact q3
        by_cases q4 : q = 4
        · have f4 : (q == 4) = true := by rw [q4]; rfl
          cases k with
          | true =>
            have HR : Hid (X = false) := Lib.hid (by rw [HE.out, if_neg q1, if_neg q2, if_neg q3, if_pos q4]; simp)
            clear HE q1 q2 q3 q4
            go_wp2_with fail
            go_ret
            exact ⟨ret_bool HR.out.symm, HB1.out⟩
          | false =>
            obtain ⟨cd, hcd⟩ : ∃ cd, (tc && td) = cd := ⟨_, rfl⟩
            have HE2 : Hid (X = (cd && (!tl && y4))) := Lib.hid (by rw [HE.out, if_neg q1, if_neg q2, if_neg q3, if_pos q4, ← hcd]; simp [Bool.and_assoc])
            rw [hcd] at HD
            clear HE q1 q2 q3 q4 hcd
            cases cd with
            | false =>
              have HR : Hid (X = false) := Lib.hid (by rw [HE2.out]; simp)
              clear HE2
              go_wp2_with fail
              refine (HD.out _).mono ?_
              rintro e3 w3 ⟨rfl, b3⟩
              have HB3 := Lib.hid (HB1.out.trans (b3.mono HB1.out.size))
              clear b3
              go_wp2_with fail
              go_ret
              exact ⟨ret_bool HR.out.symm, HB3.out⟩
            | true =>
              have HR : Hid (X = (!tl && y4)) := Lib.hid (by rw [HE2.out]; simp)
              clear HE2
              go_wp2_with fail
              refine (HD.out _).mono ?_
              rintro e3 w3 ⟨rfl, b3⟩
              have m2 := (b3.cell (p := ⟨w.heap.size, 2, none⟩) (lt_of_at HC1.out)).trans k2
              have n0 := (b3.cell (p := ⟨w.heap.size + 1, 0, none⟩) (lt_of_at HP1.out)).trans p0
              have HB3 := Lib.hid (HB1.out.trans (b3.mono HB1.out.size))
              clear b3 HD
              go_wp2_with fail
              refine (HI4.out _ HB3.out).mono ?_
              rintro e4 w4 ⟨rfl, b4⟩
              have HB4 := Lib.hid (HB3.out.trans (b4.mono HB3.out.size))
              clear b4 HI4
              go_wp2_with fail
              go_ret
              exact ⟨ret_bool HR.out.symm, HB4.out⟩
        · have f4 : (q == 4) = false := by rw [beq_eq_false_iff_ne]; exact q4
          have HR : Hid (X = false) := Lib.hid (by rw [HE.out, if_neg q1, if_neg q2, if_neg q3, if_neg q4]; simp)
          clear HE q1 q2 q3 q4
          go_wp2_with fail
          go_ret
          exact ⟨ret_bool HR.out.symm, HB1.out⟩

end Go.Proofs.YthmgbmgbifbheaaDoor.Sp
