/-
  THE WALK of the statement HtmlJoins (of what is not too much for a machine); written by gen_joins.py.
-/
import Derived.Test.YtpakjdgddomdjaaDoorHtShowsWalk
import Derived.Test.YtpakjdgddomdjaaDoorHtApp
import Derived.Lib.AppendZeros
namespace Go.Proofs.YtpakjdgddomdjaaDoor.Ht
open Go.RowKit
open Go.Proofs.YtpakjdgddomdjaaDoor.Tk (S S_of S_list S_size S_toList S_app Rd)
open Go.Proofs.YtpakjdgddomdjaaDoor.Sp (Sp Tr totAll)
open Go.Proofs.YtpakjdgddomdjaaDoor.Bt (TrB ttAll szAll)
open Go.Proofs.YtpakjdgddomdjaaDoor.Bk (Bk Tx)
set_option linter.unusedVariables false

theorem fit_app {a b : List Bk} (h : Bt.fitAll 140737488355328 a) (k : Bt.fitAll 140737488355328 b) : Bt.fitAll 140737488355328 (a ++ b) := Bt.fitAll_of (fun x hx => by
  rcases List.mem_append.1 hx with hx | hx
  · exact Bt.fitAll_at h x hx
  · exact Bt.fitAll_at k x hx)
theorem len_tt : ∀ l : List Bk, l.length ≤ ttAll l
  | [] => Nat.zero_le _
  | x :: r => by
    have := len_tt r
    rw [Bt.ttAll_cons, Bt.ttOne_eq, List.length_cons]
    omega
set_option maxHeartbeats 6400000 in
set_option maxRecDepth 100000 in
theorem htmlJoins_walk (w : World) (va : Value) (a : List Bk) (ra : TrB w va a) (fa : Bt.fitAll reachBytes a) (ta : ttAll a ≤ 1048576) (vb : Value) (b : List Bk) (rb : TrB w vb b) (fb : Bt.fitAll reachBytes b) (tb : ttAll b ≤ 1048576) (s : ByteArray) (ws : s.size ≤ maxLen) (rs : s.size ≤ reachBytes) (t : ByteArray) (wt : t.size ≤ maxLen) (rt : t.size ≤ reachBytes) :
    Calls Tryd.prog 4 #[va, vb, .string s, .string t] w (BoolA w true) := by
  have ha := hbAll_len a
  have hb := hbAll_len b
  have la := len_tt a
  have lb := len_tt b
  have HA := Lib.hid awake14_any
  have FA := Lib.hid (fun w' (h : Below w.heap.size w w') => few14_any a _ w' (ra.below h) fa)
  have FB := Lib.hid (fun w' (h : Below w.heap.size w w') => few14_any b _ w' (rb.below h) fb)
  have B1 := Lib.hid (fun w' (h : Below w.heap.size w w') => blocksH_any a _ w' (ra.below h) (fitB fa) (by omega))
  have B2 := Lib.hid (fun w' (h : Below w.heap.size w w') => blocksH_any b _ w' (rb.below h) (fitB fb) (by omega))
  have B3 := Lib.hid (fun v w' (h : TrB w' v (a ++ b)) => blocksH_any (a ++ b) v w' h (fit_app (fitB fa) (fitB fb)) (by rw [hbAll_app, List.length_append]; omega))
  have B0 := Lib.hid (fun w' => blocksH_any [] (.slice none 0 0) w' (Bt.nilB w') (by rw [Bt.fitAll]; trivial) (by simp [hbAll]))
  have e0 : S (hbAll []) = ⟨#[]⟩ := by rw [hbAll]; rfl
  rw [e0] at B0
  have e3 : S (hbAll (a ++ b)) = S (hbAll a) ++ S (hbAll b) := by rw [hbAll_app, S_app]
  rw [e3] at B3
  have D1 := Lib.hid (fun w' (hs : s.size ≤ 2000) => escP_any s (by omega) w')
  have D2 := Lib.hid (fun w' (hs : t.size ≤ 2000) => escP_any t (by omega) w')
  have D3 := Lib.hid (fun w' (hs : s.size + t.size ≤ 2000) => escP_any (s ++ t) (by rw [ByteArray.size_append]; omega) w')
  have e4 : S (he (s ++ t).data.toList) = S (he s.data.toList) ++ S (he t.data.toList) := by rw [ByteArray.data_append, Array.toList_append, he_app, S_app]
  rw [e4] at D3
  have hr : reachBytes ≤ 140737488355328 := by decide
  have za : (S (hbAll a)).size ≤ 60000000 := by rw [S_size]; omega
  have zb : (S (hbAll b)).size ≤ 60000000 := by rw [S_size]; omega
  have hes := (he_len s.data.toList).2
  have het := (he_len t.data.toList).2
  have ls : s.data.toList.length = s.size := by simp
  have lt : t.data.toList.length = t.size := by simp
  have zs : (S (he s.data.toList)).size ≤ 6 * s.size := by rw [S_size]; omega
  have zt : (S (he t.data.toList)).size ≤ 6 * t.size := by rw [S_size]; omega
  have R2 := Lib.hid (fun w' (h : Below w.heap.size w w') => two_bk (ra.below h) (rb.below h) (by omega) (by omega))
  have wr1 : IntKind.i64.wrap ((s.size : Int) + (t.size : Int)) = (s.size : Int) + (t.size : Int) := by rw [IntKind.wrap_i64]; omega
  unfold BoolA at HA FA FB ⊢
  obtain ⟨al, cl, rfl⟩ := ra.len
  obtain ⟨ax, cx, rfl⟩ := rb.len
  clear ra rb fa fb ta tb ws wt rs rt ha hb la lb e0 e3 e4 hes het ls lt hr
  generalize decide (Bt.spAll 40 5000 0 a < 3000) = f at *
  generalize decide (Bt.spAll 40 5000 0 b < 3000) = g at *
  generalize S (hbAll a) = ya at *
  generalize S (hbAll b) = yb at *
  generalize S (he s.data.toList) = ys at *
  generalize S (he t.data.toList) = yt at *
  generalize hln : a.length = ln at *
  generalize hxn : b.length = xn at *
  go_enter Tryd.func4, Tryd.ntmps4
  go_wp2_with fail
  refine (HA.out _).mono ?_
  rintro e w2 ⟨rfl, b2⟩
  have H2 := Lib.hid b2
  clear b2
  go_wp2_with fail
  refine (FA.out _ H2.out).mono ?_
  rintro e w3 ⟨rfl, b⟩
  have H3 := Lib.hid (H2.out.trans (b.mono H2.out.size))
  clear b
  clear FA
  cases f with
  | false =>
    go_wp2_with fail
    refine (HA.out _).mono ?_
    rintro e w9 ⟨rfl, b9⟩
    have H9 := Lib.hid (H3.out.trans (b9.mono H3.out.size))
    clear b9
    go_wp2_with fail
    go_ret
    exact ⟨rfl, H9.out⟩
  | true =>
    go_wp2_with fail
    refine (FB.out _ H3.out).mono ?_
    rintro e w4 ⟨rfl, b⟩
    have H4 := Lib.hid (H3.out.trans (b.mono H3.out.size))
    clear b
    clear FB
    cases g with
    | false =>
      go_wp2_with fail
      refine (HA.out _).mono ?_
      rintro e w9 ⟨rfl, b9⟩
      have H9 := Lib.hid (H4.out.trans (b9.mono H4.out.size))
      clear b9
      go_wp2_with fail
      go_ret
      exact ⟨rfl, H9.out⟩
    | true =>
      by_cases hz : s.size + t.size ≤ 2000
      · have g1 : decide ((2000 : Int) < (s.size : Int) + (t.size : Int)) = false := decide_eq_false (by omega)
        have g2 : decide ((s.size : Int) + (t.size : Int) > 2000) = false := decide_eq_false (by omega)
        have D1' := Lib.hid (fun w' => D1.out w' (by omega))
        have D2' := Lib.hid (fun w' => D2.out w' (by omega))
        have D3' := Lib.hid (fun w' => D3.out w' hz)
        obtain ⟨ao1, n1, c1, w1, ao2, n2, c2, w2', r1, r2, hT, hbl⟩ := R2.out w4 H4.out
        have HT := Lib.hid hT
        have H5 := Lib.hid (H4.out.trans (hbl.mono H4.out.size))
        have gg1 : ¬ 9223372036854775807 < ya.size + yb.size := by omega
        have gg2 : ¬ 9223372036854775807 < s.size + t.size := by omega
        have gg3 : ¬ 9223372036854775807 < ys.size + yt.size := by omega
        have z0 : (⟨#[]⟩ : ByteArray).size = 0 := rfl
        clear HA D1 D2 D3 R2 hT hbl
        go_wp2_with (first
          | (at_builtin; (show wpList _ _ _ (Oper.mk (some 32) _ _ _ _ _ :: _) _ _); refine Lib.wpList_append_run _ rfl (.tmp 30) (.tmp 31) _ _ rfl _ _ rfl rfl _ _ (r1 _) ?_)
          | (at_builtin; (show wpList _ _ _ (Oper.mk (some 34) _ _ _ _ _ :: _) _ _); refine Lib.wpList_append_run _ rfl (.tmp 32) (.tmp 33) _ _ rfl _ _ rfl rfl _ _ (r2 _) ?_))
        clear r1 r2
        refine (B3.out _ _ HT.out).mono ?_
        rintro e w6 ⟨rfl, b⟩
        have H6 := Lib.hid (H5.out.trans (b.mono H5.out.size))
        clear b
        clear B3 HT
        go_wp2_with fail
        refine (B1.out _ H6.out).mono ?_
        rintro e w7 ⟨rfl, b⟩
        have H7 := Lib.hid (H6.out.trans (b.mono H6.out.size))
        clear b
        clear B1
        go_wp2_with fail
        refine (B2.out _ H7.out).mono ?_
        rintro e w8 ⟨rfl, b⟩
        have H8 := Lib.hid (H7.out.trans (b.mono H7.out.size))
        clear b
        clear B2
        go_wp2_with fail
        refine (D3'.out _).mono ?_
        rintro e w9 ⟨rfl, b⟩
        have H9 := Lib.hid (H8.out.trans (b.mono H8.out.size))
        clear b
        go_wp2_with fail
        refine (D1'.out _).mono ?_
        rintro e w10 ⟨rfl, b⟩
        have H10 := Lib.hid (H9.out.trans (b.mono H9.out.size))
        clear b
        go_wp2_with fail
        refine (D2'.out _).mono ?_
        rintro e w11 ⟨rfl, b⟩
        have H11 := Lib.hid (H10.out.trans (b.mono H10.out.size))
        clear b
        go_wp2_with fail
        refine (B0.out _).mono ?_
        rintro e w12 ⟨rfl, b⟩
        have H12 := Lib.hid (H11.out.trans (b.mono H11.out.size))
        clear b
        go_wp2_with fail
        go_ret
        exact ⟨rfl, H12.out⟩
      · have g1 : decide ((2000 : Int) < (s.size : Int) + (t.size : Int)) = true := decide_eq_true (by omega)
        have g2 : decide ((s.size : Int) + (t.size : Int) > 2000) = true := decide_eq_true (by omega)
        clear B0 B1 B2 B3 D1 D2 D3 R2
        go_wp2_with fail
        refine (HA.out _).mono ?_
        rintro e w9 ⟨rfl, b9⟩
        have H9 := Lib.hid (H4.out.trans (b9.mono H4.out.size))
        clear b9
        go_wp2_with fail
        go_ret
        exact ⟨rfl, H9.out⟩
end Go.Proofs.YtpakjdgddomdjaaDoor.Ht
