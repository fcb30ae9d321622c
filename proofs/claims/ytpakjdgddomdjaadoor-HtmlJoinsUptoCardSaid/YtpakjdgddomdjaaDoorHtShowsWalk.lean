/-
  THE WALK of the statement HtmlShows (of what is not too much for a machine); written by gen_shows.py.
-/
import Derived.Test.YtpakjdgddomdjaaDoorHtSmall
import Derived.Test.YtpakjdgddomdjaaDoorHtRefK
namespace Go.Proofs.YtpakjdgddomdjaaDoor.Ht
open Go.RowKit
open Go.Proofs.YtpakjdgddomdjaaDoor.Tk (S S_of S_list S_size S_toList Rd)
open Go.Proofs.YtpakjdgddomdjaaDoor.Sp (Sp Tr totAll)
open Go.Proofs.YtpakjdgddomdjaaDoor.Bt (TrB ttAll szAll)
open Go.Proofs.YtpakjdgddomdjaaDoor.Bk (Bk Tx)
set_option linter.unusedVariables false

theorem size_tot {x : List Sp} (h : ¬ 2000 < Sp.spAll 30 5000 0 x) : totAll x ≤ 2000 := by
  have := (Sp.spAll_small 30 5000 0 (Int.le_refl _) x (by omega)).1
  omega
theorem fitB {l : List Bk} (h : Bt.fitAll reachBytes l) : Bt.fitAll 140737488355328 l := Bt.fit47 h
set_option maxHeartbeats 6400000 in
set_option maxRecDepth 100000 in
theorem htmlShows_walk (w : World) (vl : Value) (l : List Bk) (rl : TrB w vl l) (fl : Bt.fitAll reachBytes l) (tl : ttAll l ≤ 1048576) (vx : Value) (x : List Sp) (rx : Tr w vx x) (fx : Sp.fitAll reachBytes x) (s : ByteArray) (ws : s.size ≤ maxLen) (rs : s.size ≤ reachBytes) :
    Calls Tryd.prog 3 #[vl, vx, .string s] w (BoolA w true) := by
  have hbl := hbAll_len l
  have hbx := hsAll_len x
  have HA := Lib.hid awake14_any
  have FA := Lib.hid (fun w' (h : Below w.heap.size w w') => few14_any l _ w' (rl.below h) fl)
  have ZA := Lib.hid (fun w' (h : Below w.heap.size w w') => Sp.size_any x _ w' (rx.below h) fx)
  have B1 := Lib.hid (fun w' (h : Below w.heap.size w w') => blocksH_any l _ w' (rl.below h) (fitB fl) (by omega))
  have B2 := Lib.hid (fun w' (h : Below w.heap.size w w') => rblocks_any (szAll l) l _ w' (Nat.le_refl _) (by omega) (rl.below h))
  have C1 := Lib.hid (fun w' (h : Below w.heap.size w w') (ht : totAll x ≤ 2000) => spansH_any x _ w' (rx.below h) (by omega))
  have C2 := Lib.hid (fun w' (h : Below w.heap.size w w') (ht : totAll x ≤ 2000) => rspans_any (totAll x) x _ w' (Nat.le_refl _) (by omega) (rx.below h))
  have D1 := Lib.hid (fun w' (hs : s.size ≤ 2000) => escP_any s (by omega) w')
  have D2 := Lib.hid (fun w' (hs : s.size ≤ 2000) => resc_any s (by omega) w')
  have HT := Lib.hid (@size_tot x)
  unfold BoolA at HA FA ⊢
  unfold StrA at B2 C2
  obtain ⟨al, cl, rfl⟩ := rl.len
  obtain ⟨ax, cx, rfl⟩ := rx.len
  clear rl fl tl rx fx ws rs hbl hbx
  generalize decide (Bt.spAll 40 5000 0 l < 3000) = f at *
  generalize Sp.spAll 30 5000 0 x = z at *
  generalize S (hbAll l) = y1 at *
  generalize S (hsAll x) = y2 at *
  generalize S (he s.data.toList) = y3 at *
  generalize l.length = ln at *
  generalize x.length = xn at *
  go_enter Tryd.func3, Tryd.ntmps3
  go_wp2_with fail
  refine (HA.out _).mono ?_
  rintro e w2 ⟨rfl, b2⟩
  have H2 := Lib.hid b2
  clear b2
  go_wp2_with fail
  refine (FA.out _ H2.out).mono ?_
  rintro e w3 ⟨rfl, b⟩
  have H3 := Lib.hid (H2.out.trans (b.mono H2.out.size))
  clear b
  clear FA
  cases f with
  | false =>
    go_wp2_with fail
    refine (HA.out _).mono ?_
    rintro e w9 ⟨rfl, b9⟩
    have H9 := Lib.hid (H3.out.trans (b9.mono H3.out.size))
    clear b9
    go_wp2_with fail
    go_ret
    exact ⟨rfl, H9.out⟩
  | true =>
    go_wp2_with fail
    refine (ZA.out _ H3.out).mono ?_
    rintro e w4 ⟨rfl, rfl⟩
    clear ZA
    by_cases hz : 2000 < z
    · have g1 : decide (2000 < z) = true := decide_eq_true hz
      have g2 : decide (z > 2000) = true := decide_eq_true hz
      clear HT
      go_wp2_with fail
      refine (HA.out _).mono ?_
      rintro e w9 ⟨rfl, b9⟩
      have H9 := Lib.hid (H3.out.trans (b9.mono H3.out.size))
      clear b9
      go_wp2_with fail
      go_ret
      exact ⟨rfl, H9.out⟩
    have g1 : decide (2000 < z) = false := decide_eq_false hz
    have g2 : decide (z > 2000) = false := decide_eq_false hz
    have ht := HT.out (by omega)
    by_cases hs : s.size ≤ 2000
    · have g3 : decide ((2000 : Int) < (s.size : Int)) = false := decide_eq_false (by omega)
      have g4 : decide ((s.size : Int) > 2000) = false := decide_eq_false (by omega)
      have C1' := Lib.hid (fun w' h => C1.out w' h ht)
      have C2' := Lib.hid (fun w' h => C2.out w' h ht)
      have D1' := Lib.hid (fun w' => D1.out w' hs)
      have D2' := Lib.hid (fun w' => D2.out w' hs)
      clear HT C1 C2 D1 D2 ht HA
      go_wp2_with fail
      refine (B1.out _ H3.out).mono ?_
      rintro e w5 ⟨rfl, b⟩
      have H5 := Lib.hid (H3.out.trans (b.mono H3.out.size))
      clear b
      go_wp2_with fail
      refine (B2.out _ H5.out).mono ?_
      rintro e w6 ⟨rfl, b⟩
      have H6 := Lib.hid (H5.out.trans (b.mono H5.out.size))
      clear b
      go_wp2_with fail
      refine (C1'.out _ H6.out).mono ?_
      rintro e w7 ⟨rfl, b⟩
      have H7 := Lib.hid (H6.out.trans (b.mono H6.out.size))
      clear b
      go_wp2_with fail
      refine (C2'.out _ H7.out).mono ?_
      rintro e w8 ⟨rfl, b⟩
      have H8 := Lib.hid (H7.out.trans (b.mono H7.out.size))
      clear b
      go_wp2_with fail
      refine (D1'.out _).mono ?_
      rintro e w9 ⟨rfl, b⟩
      have H9 := Lib.hid (H8.out.trans (b.mono H8.out.size))
      clear b
      go_wp2_with fail
      refine (D2'.out _).mono ?_
      rintro e w10 ⟨rfl, rfl⟩
      go_wp2_with fail
      go_ret
      exact ⟨rfl, H9.out⟩
    · have g3 : decide ((2000 : Int) < (s.size : Int)) = true := decide_eq_true (by omega)
      have g4 : decide ((s.size : Int) > 2000) = true := decide_eq_true (by omega)
      clear HT B1 B2 C1 C2 D1 D2
      go_wp2_with fail
      refine (HA.out _).mono ?_
      rintro e w9 ⟨rfl, b9⟩
      have H9 := Lib.hid (H3.out.trans (b9.mono H3.out.size))
      clear b9
      go_wp2_with fail
      go_ret
      exact ⟨rfl, H9.out⟩
end Go.Proofs.YtpakjdgddomdjaaDoor.Ht
