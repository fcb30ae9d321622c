/-
  CONTRACTS of the document's one, all (emendationref07): spans in normal form, but for the ends.
-/
import Derived.Test.YtpenjdnbnacebaaDoorSpText
import Derived.Test.YtpenjdnbnacebaaDoorPkC
import Derived.Deep.RegionHeld3
namespace Go.Proofs.YtpenjdnbnacebaaDoor.Sp
open Go.RowKit
open Go.Proofs.YtpenjdnbnacebaaDoor.Tk (S S_of S_list S_size S_toList S_app ret_int eq8 ne8 at_data len_data)
open Go.Proofs.YtpenjdnbnacebaaDoor.Cm (calls_at Keep alloc_new alloc_at cell_at lt_of_at)
open Go.Proofs.YtpenjdnbnacebaaDoor.Utf (chk)
set_option linter.unusedVariables false

def ckB (s : List UInt8) : Bool := decide (chk (S s) = 0)
mutual
/-- Can a span be, in an Emph (e), in a Link (k)? -/
def okOne (e k : Bool) : Sp → Bool
  | .mk q s l => ckB s && (if q = 1 then (l.isEmpty && ttB s) else if q = 2 then (l.isEmpty && (!s.isEmpty && (!hsB 10 s && !hsB 13 s)))
      else if q = 3 then (s.isEmpty && (!l.isEmpty && (!e && okAll true k 0 l))) else if q = 4 then (dsB s && (!l.isEmpty && (!k && okAll e true 0 l))) else false)
/-- Can spans be, behind one of kind p? -/
def okAll (e k : Bool) (p : Int) : List Sp → Bool
  | [] => true
  | x :: r => okOne e k x && !(decide (x.kind = p) && decide (x.kind ≤ 2)) && okAll e k x.kind r
end
theorem okAll_cons (e k : Bool) (p : Int) (x : Sp) (r : List Sp) : okAll e k p (x :: r) = (okOne e k x && !(decide (x.kind = p) && decide (x.kind ≤ 2)) && okAll e k x.kind r) := by rw [okAll]
theorem okOne_eq (e k : Bool) (x : Sp) : okOne e k x = (ckB x.s && (if x.kind = 1 then (x.kids.isEmpty && ttB x.s) else if x.kind = 2 then (x.kids.isEmpty && (!x.s.isEmpty && (!hsB 10 x.s && !hsB 13 x.s)))
      else if x.kind = 3 then (x.s.isEmpty && (!x.kids.isEmpty && (!e && okAll true k 0 x.kids))) else if x.kind = 4 then (dsB x.s && (!x.kids.isEmpty && (!k && okAll e true 0 x.kids))) else false)) := by
  obtain ⟨q, s, l⟩ := x
  rw [okOne]
  rfl
theorem okOne_kind {e k : Bool} {x : Sp} (h : okOne e k x = true) : 1 ≤ x.kind ∧ x.kind ≤ 4 := by
  rw [okOne_eq, Bool.and_eq_true] at h
  have h2 := h.2
  split at h2
  · omega
  · split at h2
    · omega
    · split at h2
      · omega
      · split at h2
        · omega
        · simp at h2
theorem isEmpty_len {α : Type} (l : List α) : ((l.length : Int) == 0) = l.isEmpty := by
  cases l with
  | nil => rfl
  | cons a r =>
    rw [List.isEmpty_cons, beq_eq_false_iff_ne]
    simp
    omega
theorem gt_len {α : Type} (l : List α) : decide ((l.length : Int) > 0) = !l.isEmpty := by
  cases l with
  | nil => rfl
  | cons a r =>
    rw [List.isEmpty_cons]
    exact decide_eq_true (by simp)

def OkAns (w : World) (b : Bool) (e : Ending) (w' : World) : Prop := e = .returned (.bool b) ∧ Below w.heap.size w w'

set_option maxHeartbeats 3200000 in
set_option maxRecDepth 100000 in
theorem one_of (x : Sp) (e k : Bool) (ak : Option Addr) (ck : Nat) (w : World) (hs : x.s.length ≤ 140737488355328)
    (IH : ∀ (e k : Bool) (w' : World), Below w.heap.size w w' → Calls Tryd.prog 89 #[.slice ak x.kids.length ck, .bool e, .bool k] w' (OkAns w' (okAll e k 0 x.kids))) :
    Calls Tryd.prog 103 #[.agg #[.int .i64 x.kind, .string (S x.s), .slice ak x.kids.length ck], .bool e, .bool k] w (OkAns w (okOne e k x)) := by
  have HI3 := Lib.hid (IH true k)
  have HI4 := Lib.hid (IH e true)
  obtain ⟨q, s, l⟩ := x
  simp only [Sp.kind, Sp.s, Sp.kids] at HI3 HI4 hs ⊢
  have HE : Hid (okOne e k (.mk q s l) = (ckB s && (if q = 1 then (l.isEmpty && ttB s) else if q = 2 then (l.isEmpty && (!s.isEmpty && (!hsB 10 s && !hsB 13 s)))
      else if q = 3 then (s.isEmpty && (!l.isEmpty && (!e && okAll true k 0 l))) else if q = 4 then (dsB s && (!l.isEmpty && (!k && okAll e true 0 l))) else false))) := Lib.hid (by rw [okOne])
  have hsz : (S s).size ≤ 140737488355328 := by rw [S_size]; exact hs
  have HK := Lib.hid (fun w' => Go.Proofs.YtpenjdnbnacebaaDoor.Utf.rcheck_any (S s) hsz w')
  have HT := Lib.hid (fun w' => text_any (S s) hsz w')
  have H10 := Lib.hid (fun w' => has_any (S s) 10 hsz w')
  have H13 := Lib.hid (fun w' => has_any (S s) 13 hsz w')
  have HD := Lib.hid (fun w' => dest_any (S s) hsz w')
  rw [S_list] at HT H10 H13 HD
  have HEm : Hid ((S s).toList.isEmpty = s.isEmpty) := Lib.hid (by rw [S_toList])
  have HCk : Hid (ckB s = decide (chk (S s) = 0)) := Lib.hid rfl
  have g1 := isEmpty_len l
  have g2 := gt_len l
  obtain ⟨X, hX⟩ : ∃ X, okOne e k (.mk q s l) = X := ⟨_, rfl⟩
  rw [hX] at HE
  rw [hX]
  clear IH hX
  generalize ttB s = tt at *
  generalize hsB 10 s = t10 at *
  generalize hsB 13 s = t13 at *
  generalize dsB s = td at *
  generalize ckB s = tc at *
  generalize chk (S s) = cv at *
  generalize okAll true k 0 l = y3 at *
  generalize okAll e true 0 l = y4 at *
  generalize s.isEmpty = te at *
  generalize l.isEmpty = tl at *
  generalize l.length = ln at *
  generalize S s = ss at *
  go_enter Tryd.func103, Tryd.ntmps103
  go_upto_region 1 with fail
  have HC1 := Lib.hid (alloc_new w (.cells #[.int .i64 q, .string ss, .slice ak ln ck] 58))
  have HB1 := Lib.hid ((Below.refl w.heap.size w).alloc (Nat.le_refl _) (.cells #[.int .i64 q, .string ss, .slice ak ln ck] 58))
  generalize w.alloc (.cells #[.int .i64 q, .string ss, .slice ak ln ck] 58) = w1 at *
  have k0 : w1.cell? ⟨w.heap.size, 0, none⟩ = some (.int .i64 q) := cell_at HC1.out 0
  have k1 : w1.cell? ⟨w.heap.size, 1, none⟩ = some (.string ss) := cell_at HC1.out 1
  have k2 : w1.cell? ⟨w.heap.size, 2, none⟩ = some (.slice ak ln ck) := cell_at HC1.out 2
  have HY3 := Lib.hid (HI3.out w1 HB1.out)
  have HY4 := Lib.hid (HI4.out w1 HB1.out)
  have em1 : ss.toList.isEmpty = te := HEm.out
  have em2 : (ss.toList == ([] : List UInt8)) = te := by rw [← HEm.out]; cases ss.toList <;> rfl
  clear HI3 HI4 HC1
  go_wp2_with fail
  refine (HK.out _).mono ?_
  rintro e1 w2 ⟨rfl, rfl⟩
  clear HK
  by_cases hc : cv = 0
  · have htc : tc = true := by rw [HCk.out, decide_eq_true hc]
    have c1 : (cv != 0) = false := by rw [hc]; rfl
    clear hc HCk
    by_cases q1 : q = 1
    · have f1 : (q == 1) = true := by rw [q1]; rfl
      cases tl with
      | true =>
        have HR : Hid (X = tt) := Lib.hid (by rw [HE.out, htc, if_pos q1]; simp)
        clear HE q1
        go_wp2_with fail
        refine (HT.out _).mono ?_
        rintro e3 w3 ⟨rfl, rfl⟩
        clear HT
        go_wp2_with fail
        go_ret
        exact ⟨ret_bool HR.out.symm, HB1.out⟩
      | false =>
        have HR : Hid (X = false) := Lib.hid (by rw [HE.out, htc, if_pos q1]; simp)
        clear HE
        go_wp2_with fail
        go_ret
        exact ⟨ret_bool HR.out.symm, HB1.out⟩
    · have f1 : (q == 1) = false := by rw [beq_eq_false_iff_ne]; exact q1
      by_cases q2 : q = 2
      · have f2 : (q == 2) = true := by rw [q2]; rfl
        cases tl with
        | false =>
          have HR : Hid (X = false) := Lib.hid (by rw [HE.out, htc, if_neg q1, if_pos q2]; simp)
          clear HE
          go_wp2_with fail
          go_ret
          exact ⟨ret_bool HR.out.symm, HB1.out⟩
        | true =>
          cases te with
          | true =>
            have HR : Hid (X = false) := Lib.hid (by rw [HE.out, htc, if_neg q1, if_pos q2]; simp)
            clear HE
            go_wp2_with fail
            go_ret
            exact ⟨ret_bool HR.out.symm, HB1.out⟩
          | false =>
            cases t10 with
            | true =>
              have HR : Hid (X = false) := Lib.hid (by rw [HE.out, htc, if_neg q1, if_pos q2]; simp)
              clear HE q1 q2
              go_wp2_with fail
              refine (H10.out _).mono ?_
              rintro e3 w3 ⟨rfl, rfl⟩
              clear H10
              go_wp2_with fail
              go_ret
              exact ⟨ret_bool HR.out.symm, HB1.out⟩
            | false =>
              have HR : Hid (X = !t13) := Lib.hid (by rw [HE.out, htc, if_neg q1, if_pos q2]; simp)
              clear HE q1 q2
              go_wp2_with fail
              refine (H10.out _).mono ?_
              rintro e3 w3 ⟨rfl, rfl⟩
              clear H10
              go_wp2_with fail
              refine (H13.out _).mono ?_
              rintro e3 w3 ⟨rfl, rfl⟩
              clear H13
              go_wp2_with fail
              go_ret
              exact ⟨ret_bool HR.out.symm, HB1.out⟩
      · have f2 : (q == 2) = false := by rw [beq_eq_false_iff_ne]; exact q2
        by_cases q3 : q = 3
        · have f3 : (q == 3) = true := by rw [q3]; rfl
          cases te with
          | false =>
            have HR : Hid (X = false) := Lib.hid (by rw [HE.out, htc, if_neg q1, if_neg q2, if_pos q3]; simp)
            clear HE
            go_wp2_with fail
            go_ret
            exact ⟨ret_bool HR.out.symm, HB1.out⟩
          | true =>
            cases tl with
            | true =>
              have hln : ln = 0 := by simpa using g1
              have HR : Hid (X = false) := Lib.hid (by rw [HE.out, htc, if_neg q1, if_neg q2, if_pos q3]; simp)
              clear HE
              go_wp2_with fail
              go_ret
              exact ⟨ret_bool HR.out.symm, HB1.out⟩
            | false =>
              have hln : 0 < ln := by have h := g1; simp at h; omega
              cases e with
              | true =>
                have HR : Hid (X = false) := Lib.hid (by rw [HE.out, htc, if_neg q1, if_neg q2, if_pos q3]; simp)
                clear HE
                go_wp2_with fail
                go_ret
                exact ⟨ret_bool HR.out.symm, HB1.out⟩
              | false =>
                have HR : Hid (X = y3) := Lib.hid (by rw [HE.out, htc, if_neg q1, if_neg q2, if_pos q3]; simp)
                clear HE q1 q2 q3
                go_wp2_with fail
                refine HY3.out.mono ?_
                rintro e3 w3 ⟨rfl, b3⟩
                have HB3 := Lib.hid (HB1.out.trans (b3.mono HB1.out.size))
                clear HY3 b3
                go_wp2_with fail
                go_ret
                exact ⟨ret_bool HR.out.symm, HB3.out⟩
        · have f3 : (q == 3) = false := by rw [beq_eq_false_iff_ne]; exact q3
          by_cases q4 : q = 4
          · have f4 : (q == 4) = true := by rw [q4]; rfl
            cases td with
            | false =>
              have HR : Hid (X = false) := Lib.hid (by rw [HE.out, htc, if_neg q1, if_neg q2, if_neg q3, if_pos q4]; simp)
              clear HE q1 q2 q3 q4
              go_wp2_with fail
              refine (HD.out _).mono ?_
              rintro e3 w3 ⟨rfl, rfl⟩
              clear HD
              go_wp2_with fail
              go_ret
              exact ⟨ret_bool HR.out.symm, HB1.out⟩
            | true =>
              cases tl with
              | true =>
                have hln : ln = 0 := by simpa using g1
                have HR : Hid (X = false) := Lib.hid (by rw [HE.out, htc, if_neg q1, if_neg q2, if_neg q3, if_pos q4]; simp)
                clear HE q1 q2 q3 q4
                go_wp2_with fail
                refine (HD.out _).mono ?_
                rintro e3 w3 ⟨rfl, rfl⟩
                clear HD
                go_wp2_with fail
                go_ret
                exact ⟨ret_bool HR.out.symm, HB1.out⟩
              | false =>
                have hln : 0 < ln := by have h := g1; simp at h; omega
                cases k with
                | true =>
                  have HR : Hid (X = false) := Lib.hid (by rw [HE.out, htc, if_neg q1, if_neg q2, if_neg q3, if_pos q4]; simp)
                  clear HE q1 q2 q3 q4
                  go_wp2_with fail
                  refine (HD.out _).mono ?_
                  rintro e3 w3 ⟨rfl, rfl⟩
                  clear HD
                  go_wp2_with fail
                  go_ret
                  exact ⟨ret_bool HR.out.symm, HB1.out⟩
                | false =>
                  have HR : Hid (X = y4) := Lib.hid (by rw [HE.out, htc, if_neg q1, if_neg q2, if_neg q3, if_pos q4]; simp)
                  clear HE q1 q2 q3 q4
                  go_wp2_with fail
                  refine (HD.out _).mono ?_
                  rintro e3 w3 ⟨rfl, rfl⟩
                  clear HD
                  go_wp2_with fail
                  refine HY4.out.mono ?_
                  rintro e3 w3 ⟨rfl, b3⟩
                  have HB3 := Lib.hid (HB1.out.trans (b3.mono HB1.out.size))
                  clear HY4 b3
                  go_wp2_with fail
                  go_ret
                  exact ⟨ret_bool HR.out.symm, HB3.out⟩
          · have f4 : (q == 4) = false := by rw [beq_eq_false_iff_ne]; exact q4
            have HR : Hid (X = false) := Lib.hid (by rw [HE.out, if_neg q1, if_neg q2, if_neg q3, if_neg q4]; simp)
            clear HE q1 q2 q3 q4
            go_wp2_with fail
            go_ret
            exact ⟨ret_bool HR.out.symm, HB1.out⟩
  · have htc : tc = false := by rw [HCk.out, decide_eq_false hc]
    have c1 : (cv != 0) = true := by rw [bne_iff_ne]; exact hc
    have HR : Hid (X = false) := Lib.hid (by rw [HE.out, htc]; simp)
    clear HE hc HCk
    go_wp2_with fail
    go_ret
    exact ⟨ret_bool HR.out.symm, HB1.out⟩

end Go.Proofs.YtpenjdnbnacebaaDoor.Sp
