/-
  THE WALK of the statement SpanoutWrites.
-/
import Derived.Test.YtjgmfgnfdaeelaaDoorSo9TellW
namespace Go.Proofs.YtjgmfgnfdaeelaaDoor.Sp
open Go.RowKit
open Go.Proofs.YtjgmfgnfdaeelaaDoor.Tk (S S_of S_list S_size S_toList S_app ret_int eq8 ne8 at_data len_data)
open Go.Proofs.YtjgmfgnfdaeelaaDoor.Cm (calls_at)
set_option linter.unusedVariables false

theorem fit_wide {l : List Sp} (h : fitAll reachBytes l) : fitAll 140737488355328 l := fitAll_wide (by decide) l h

set_option maxHeartbeats 3200000 in
set_option maxRecDepth 100000 in
theorem spanoutWrites_walk (K : Told9w) (w : World) (vl : Value) (l : List Sp) (rl : Tr w vl l) (fl : fitAll reachBytes l) (s : ByteArray) (hs : s.size ≤ maxLen) (hr : s.size ≤ reachBytes) :
    Calls Tryd.prog 3 #[vl, .string s] w (OkAns w true) := by
  obtain ⟨al, cl, rfl⟩ := rl.len
  have HA := Lib.hid (awake9_any K)
  have RL := Lib.hid rl
  have FL := Lib.hid (fun w' (h : Below w.heap.size w w') => few9_any l _ w' (RL.out.below h) fl)
  have hrb : reachBytes ≤ 140737488355328 := by decide
  clear rl hs
  go_enter Tryd.func3, Tryd.ntmps3
  go_wp2_with fail
  refine (HA.out _).mono ?_
  rintro e w2 ⟨rfl, b2⟩
  have H2 := Lib.hid b2
  clear b2
  go_wp2_with fail
  refine (FL.out _ H2.out).mono ?_
  rintro e w3 ⟨rfl, rfl⟩
  clear FL
  cases hf : fewB9 l with
  | false =>
    go_wp2_with fail
    refine (HA.out _).mono ?_
    rintro e w4 ⟨rfl, b4⟩
    have H4 := Lib.hid (H2.out.trans (b4.mono H2.out.size))
    clear b4
    go_wp2_with fail
    go_ret
    exact ⟨rfl, H4.out⟩
  | true =>
    by_cases hl : s.size ≤ 1000
    · have g0 : ¬ 1000 < (s.size : Int) := by omega
      have tl := (few9_of hf).1
      have S1 := Lib.hid (fun w' (h : Below w.heap.size w w') => K.write _ l w' (RL.out.below h) (by omega) (fit_wide fl))
      have S2 := Lib.hid (fun w' (h : Below w.heap.size w w') => rchecked_any l _ w' (by omega) (fit_wide fl) (RL.out.below h))
      have S3 := Lib.hid (fun w' => K.escape s w' (by omega))
      have S4 := Lib.hid (fun w' => resc_any s (by omega) w')
      have S5 := Lib.hid (fun w' => K.fence s w' (by omega))
      have S6 := Lib.hid (fun w' => rfence_any s (by omega) w')
      have S2' : Hid (∀ w', Below w.heap.size w w' → Calls Tryd.prog 9 #[.slice al l.length cl] w' (TwoAns w' (wrB l) (erB l))) := S2
      clear S2 tl hf HA RL fl hr hrb K
      generalize wrB l = x at *
      generalize erB l = n at *
      generalize S (esc s.data.toList) = y at *
      generalize (ticksOf s.data.toList : Int) = m at *
      have e1 : (x.toList == x.toList) = true := by simp
      have e2 : (y.toList == y.toList) = true := by simp
      have e3 : (n == n) = true := by simp
      have e4 : (m == m) = true := by simp
      go_wp2_with fail
      refine (S1.out _ H2.out).mono ?_
      rintro e w4 ⟨rfl, b4⟩
      have H4 := Lib.hid (H2.out.trans (b4.mono H2.out.size))
      clear b4 S1
      go_wp2_with fail
      refine (S2'.out _ H4.out).mono ?_
      rintro e w5 ⟨rfl, b5⟩
      have H5 := Lib.hid (H4.out.trans (b5.mono H4.out.size))
      clear b5 S2'
      go_wp2_with fail
      refine (S3.out _).mono ?_
      rintro e w6 ⟨rfl, b6⟩
      have H6 := Lib.hid (H5.out.trans (b6.mono H5.out.size))
      clear b6 S3
      go_wp2_with fail
      refine (S4.out _).mono ?_
      rintro e w7 ⟨rfl, rfl⟩
      clear S4
      go_wp2_with fail
      refine (S5.out _).mono ?_
      rintro e w7 ⟨rfl, b7⟩
      have H7 := Lib.hid (H6.out.trans (b7.mono H6.out.size))
      clear b7 S5
      go_wp2_with fail
      refine (S6.out _).mono ?_
      rintro e w8 ⟨rfl, rfl⟩
      clear S6
      go_wp2_with fail
      go_ret
      exact ⟨rfl, H7.out⟩
    · have g0 : 1000 < (s.size : Int) := by omega
      clear hf RL fl hrb hr
      go_wp2_with fail
      refine (HA.out _).mono ?_
      rintro e w4 ⟨rfl, b4⟩
      have H4 := Lib.hid (H2.out.trans (b4.mono H2.out.size))
      clear b4
      go_wp2_with fail
      go_ret
      exact ⟨rfl, H4.out⟩

end Go.Proofs.YtjgmfgnfdaeelaaDoor.Sp
