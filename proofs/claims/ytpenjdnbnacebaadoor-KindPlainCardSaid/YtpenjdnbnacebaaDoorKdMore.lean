/-
  CONTRACTS of the document's Head, Open, Closes, Unquote, Unitem, Inner and Define (emendationref11).
-/
import Derived.Test.YtpenjdnbnacebaaDoorKdRef
import Derived.Test.YtpenjdnbnacebaaDoorBtTree
import Derived.Test.YtpenjdnbnacebaaDoorPkB
namespace Go.Proofs.YtpenjdnbnacebaaDoor.Kd
open Go.RowKit
open Go.Proofs.YtpenjdnbnacebaaDoor.Tk (S S_of S_list S_size S_toList S_app ret_int eq8 ne8 at_data len_data Rd)
open Go.Proofs.YtpenjdnbnacebaaDoor.Sp (Sp Tr ret_bool)
open Go.Proofs.YtpenjdnbnacebaaDoor.Bt (TrB)
open Go.Proofs.YtpenjdnbnacebaaDoor.Cm (alloc_new alloc_at cell_at frozen_at set_at lt_of_at)
open Go.Proofs.YtpenjdnbnacebaaDoor.Bk (Tx Bk define kindOf inner unquote)
open Go.Proofs.YtpenjdnbnacebaaDoor.Ln (run mx trim run_le rrun_any rlongest_any rtrim_any)
set_option linter.unusedVariables false

def hdN (l : Tx) : Nat := if kindOf E0 l = 2 then run 35 l else 0
def hdT (l : Tx) : Tx := if kindOf E0 l = 2 then trim (l.drop (run 35 l)) else []
def opN (l : Tx) : Nat := if kindOf E0 l = 4 then run 96 l else 0
def opT (l : Tx) : Tx := if kindOf E0 l = 4 then trim (l.drop (run 96 l)) else []
def clB (l : Tx) (n : Int) : Bool := decide (0 < l.length) && decide (n ≤ (l.length : Int)) && decide (run 96 l = l.length)
def uqT (l : Tx) : Tx := if kindOf E0 l = 5 then unquote l else []
def uiT (l : Tx) : Tx := if kindOf E0 l = 6 then l.drop 2 else []
def dfB (l : Tx) : Bk := if kindOf E0 l = 7 then (match define E0 l with | some (a, d) => .mk 8 0 a [d] [] [] | none => .mk 0 0 [] [] [] []) else .mk 0 0 [] [] [] []
def LevAns (w : World) (n : Nat) (t : Tx) (e : Ending) (w' : World) : Prop := e = .returned (.tuple #[.int .i64 (n : Nat), .string (S t)]) ∧ ∃ q, w' = w.drewN q
def StrD (w : World) (t : Tx) (e : Ending) (w' : World) : Prop := e = .returned (.string (S t)) ∧ ∃ q, w' = w.drewN q
/-- A block that a call tells. -/
def BlkAns (w : World) (b : Bk) (e : Ending) (w' : World) : Prop := ∃ vl vs ao cap, e = .returned (.agg #[.int .i64 b.kind, .int .i64 b.level, .string (S b.info), vl, vs, .slice ao b.kids.length cap]) ∧ Below w.heap.size w w' ∧ Rd w' vl b.lines ∧ b.lines.length ≤ 9223372036854775807 ∧ Tr w' vs b.spans ∧ TrB w' (.slice ao b.kids.length cap) b.kids
theorem nilRd (w : World) : Rd w (.slice none 0 0) [] := ⟨none, 0, rfl, Nat.le_refl _, Or.inl rfl⟩
theorem nilTr (w : World) : Tr w (.slice none 0 0) [] := ⟨none, 0, rfl, ⟨Nat.le_refl _, by omega⟩, Or.inl rfl⟩
theorem nilTrB (w : World) : TrB w (.slice none 0 0) [] := ⟨none, 0, rfl, ⟨Nat.le_refl _, by omega⟩, Or.inl rfl⟩

set_option maxHeartbeats 1600000 in
theorem head_any (s : ByteArray) (hs : s.size ≤ 140737488355328) (w : World) :
    Calls Tryd.prog 10 #[.string s] w (LevAns w (hdN s.data.toList) (hdT s.data.toList)) := by
  have HO := Lib.hid (of_any s hs w)
  have HR := Lib.hid (fun w' => rrun_any s (by omega) 35 w')
  have l0 := run_le 35 s.data.toList
  rw [len_data] at l0
  have HT := Lib.hid (fun k w' => rtrim_any (s.extract k s.size) (by have := ext_sz s k s.size; omega) w')
  simp only [ext_end, lnS] at HT
  have HS := Lib.hid (fun k (h : k ≤ s.size) w' => slice_end s k h w')
  have hN : Hid (hdN s.data.toList = if kindOf E0 s.data.toList = 2 then run 35 s.data.toList else 0) := Lib.hid rfl
  have hT : Hid (hdT s.data.toList = if kindOf E0 s.data.toList = 2 then trim (s.data.toList.drop (run 35 s.data.toList)) else []) := Lib.hid rfl
  generalize hdN s.data.toList = rn at *
  generalize hdT s.data.toList = rt at *
  generalize kindOf E0 s.data.toList = K at *
  by_cases hk : K = 2
  · have e1 : ((K : Int) != 2) = false := by rw [hk]; rfl
    rw [if_pos hk] at hN hT
    have HTk := Lib.hid (HT.out (run 35 s.data.toList))
    have hsl := HS.out _ l0
    clear hk HT HS
    generalize trim (s.data.toList.drop (run 35 s.data.toList)) = tt at *
    generalize run 35 s.data.toList = n at *
    generalize s.extract n s.size = sx at *
    go_enter Tryd.func10, Tryd.ntmps10
    go_wp2_with fail
    refine HO.out.mono ?_
    rintro e w1 ⟨rfl, q1, hq1⟩
    have HW := Lib.hid hq1
    clear HO hq1
    go_wp2_with fail
    refine (HR.out _).mono ?_
    rintro e w2 ⟨rfl, rfl⟩
    go_wp2_with fail
    refine (HTk.out _).mono ?_
    rintro e w2 ⟨rfl, rfl⟩
    go_wp2_with fail
    go_ret2
    exact ⟨by rw [hN.out, hT.out]; rfl, q1, HW.out⟩
  · have e1 : ((K : Int) != 2) = true := by rw [bne_iff_ne]; omega
    rw [if_neg hk] at hN hT
    clear hk HT HS HR
    go_enter Tryd.func10, Tryd.ntmps10
    go_wp2_with fail
    refine HO.out.mono ?_
    rintro e w1 ⟨rfl, q1, hq1⟩
    have HW := Lib.hid hq1
    clear HO hq1
    go_wp2_with fail
    go_ret2
    exact ⟨by rw [hN.out, hT.out]; rfl, q1, HW.out⟩
set_option maxHeartbeats 1600000 in
theorem open_any (s : ByteArray) (hs : s.size ≤ 140737488355328) (w : World) :
    Calls Tryd.prog 12 #[.string s] w (LevAns w (opN s.data.toList) (opT s.data.toList)) := by
  have HO := Lib.hid (of_any s hs w)
  have HR := Lib.hid (fun w' => rrun_any s (by omega) 96 w')
  have l0 := run_le 96 s.data.toList
  rw [len_data] at l0
  have HT := Lib.hid (fun k w' => rtrim_any (s.extract k s.size) (by have := ext_sz s k s.size; omega) w')
  simp only [ext_end, lnS] at HT
  have HS := Lib.hid (fun k (h : k ≤ s.size) w' => slice_end s k h w')
  have hN : Hid (opN s.data.toList = if kindOf E0 s.data.toList = 4 then run 96 s.data.toList else 0) := Lib.hid rfl
  have hT : Hid (opT s.data.toList = if kindOf E0 s.data.toList = 4 then trim (s.data.toList.drop (run 96 s.data.toList)) else []) := Lib.hid rfl
  generalize opN s.data.toList = rn at *
  generalize opT s.data.toList = rt at *
  generalize kindOf E0 s.data.toList = K at *
  by_cases hk : K = 4
  · have e1 : ((K : Int) != 4) = false := by rw [hk]; rfl
    rw [if_pos hk] at hN hT
    have HTk := Lib.hid (HT.out (run 96 s.data.toList))
    have hsl := HS.out _ l0
    clear hk HT HS
    generalize trim (s.data.toList.drop (run 96 s.data.toList)) = tt at *
    generalize run 96 s.data.toList = n at *
    generalize s.extract n s.size = sx at *
    go_enter Tryd.func12, Tryd.ntmps12
    go_wp2_with fail
    refine HO.out.mono ?_
    rintro e w1 ⟨rfl, q1, hq1⟩
    have HW := Lib.hid hq1
    clear HO hq1
    go_wp2_with fail
    refine (HR.out _).mono ?_
    rintro e w2 ⟨rfl, rfl⟩
    go_wp2_with fail
    refine (HTk.out _).mono ?_
    rintro e w2 ⟨rfl, rfl⟩
    go_wp2_with fail
    go_ret2
    exact ⟨by rw [hN.out, hT.out]; rfl, q1, HW.out⟩
  · have e1 : ((K : Int) != 4) = true := by rw [bne_iff_ne]; omega
    rw [if_neg hk] at hN hT
    clear hk HT HS HR
    go_enter Tryd.func12, Tryd.ntmps12
    go_wp2_with fail
    refine HO.out.mono ?_
    rintro e w1 ⟨rfl, q1, hq1⟩
    have HW := Lib.hid hq1
    clear HO hq1
    go_wp2_with fail
    go_ret2
    exact ⟨by rw [hN.out, hT.out]; rfl, q1, HW.out⟩
theorem closes_any (s : ByteArray) (n : Int) (hs : s.size ≤ 140737488355328) (w : World) :
    Calls Tryd.prog 18 #[.string s, .int .i64 n] w fun e w' => e = .returned (.bool (clB s.data.toList n)) ∧ w = w' := by
  have HR := Lib.hid (rrun_any s (by omega) 96 w)
  have HX : Hid (clB s.data.toList n = (decide (0 < s.size) && decide (n ≤ (s.size : Int)) && decide (run 96 s.data.toList = s.size))) := Lib.hid (by unfold clB; rw [len_data])
  generalize clB s.data.toList n = X at *
  generalize run 96 s.data.toList = r at *
  by_cases h0 : 0 < s.size
  · have g1a : decide ((s.size : Int) > 0) = true := decide_eq_true (by omega)
    have g1b : decide ((0 : Int) < (s.size : Int)) = true := decide_eq_true (by omega)
    have g1c : decide (0 < s.size) = true := decide_eq_true h0
    rw [decide_eq_true h0] at HX
    by_cases h1 : n ≤ (s.size : Int)
    · have g2a : decide ((s.size : Int) ≥ n) = true := decide_eq_true h1
      have g2b : decide (n ≤ (s.size : Int)) = true := decide_eq_true h1
      rw [decide_eq_true h1] at HX
      obtain ⟨y, hy⟩ : ∃ y, decide (r = s.size) = y := ⟨_, rfl⟩
      rw [hy] at HX
      have g3 : ((r : Int) == (s.size : Int)) = y := by rw [← hy, Bool.eq_iff_iff]; simp; omega
      clear hy
      go_enter Tryd.func18, Tryd.ntmps18
      go_wp2_with fail
      refine HR.out.mono ?_
      rintro e w2 ⟨rfl, rfl⟩
      go_wp2_with fail
      go_ret
      exact ⟨by rw [HX.out]; rfl, rfl⟩
    · have g2a : decide ((s.size : Int) ≥ n) = false := decide_eq_false h1
      have g2b : decide (n ≤ (s.size : Int)) = false := decide_eq_false h1
      rw [decide_eq_false h1] at HX
      go_enter Tryd.func18, Tryd.ntmps18
      go_wp2_with fail
      go_ret
      exact ⟨by rw [HX.out]; rfl, rfl⟩
  · have g1a : decide ((s.size : Int) > 0) = false := decide_eq_false (by omega)
    have g1b : decide ((0 : Int) < (s.size : Int)) = false := decide_eq_false (by omega)
    have g1c : decide (0 < s.size) = false := decide_eq_false h0
    rw [decide_eq_false h0] at HX
    go_enter Tryd.func18, Tryd.ntmps18
    go_wp2_with fail
    go_ret
    exact ⟨by rw [HX.out]; rfl, rfl⟩

theorem uqT_eq (l : Tx) : uqT l = if kindOf E0 l = 5 then (if l[1]? = some 32 then l.drop 2 else l.drop 1) else [] := rfl
set_option maxHeartbeats 1600000 in
theorem unquote_any (s : ByteArray) (hs : s.size ≤ 140737488355328) (w : World) :
    Calls Tryd.prog 20 #[.string s] w (StrD w (uqT s.data.toList)) := by
  have HO := Lib.hid (of_any s hs w)
  have HX := Lib.hid (uqT_eq s.data.toList)
  have hk0 : kindOf E0 s.data.toList = 5 → 1 ≤ s.size := fun h => by
    rcases Nat.eq_zero_or_pos s.size with h0 | h0
    · rw [List.eq_nil_of_length_eq_zero (show s.data.toList.length = 0 by rw [len_data]; exact h0)] at h
      cases h
    · exact h0
  have HG := Lib.hid (fun i h => data_get s i h)
  have HGn : Hid (s.size ≤ 1 → s.data.toList[1]? = none) := Lib.hid (fun h => List.getElem?_eq_none (by rw [len_data]; exact h))
  have hS1 := Lib.hid (fun (h : 1 ≤ s.size) w' => slice_end s 1 h w')
  have hS2 := Lib.hid (fun (h : 2 ≤ s.size) w' => slice_end s 2 h w')
  simp only [end_S] at hS1 hS2
  generalize uqT s.data.toList = rt at *
  generalize kindOf E0 s.data.toList = K at *
  by_cases hk : K = 5
  · have e1 : ((K : Int) != 5) = false := by rw [hk]; rfl
    have h1 := hk0 hk
    rw [if_pos hk] at HX
    have hsl1 := hS1.out h1
    have hone : ((1 : Nat) : Int) = 1 := rfl
    have htwo : ((2 : Nat) : Int) = 2 := rfl
    rw [hone] at hsl1
    clear hk hk0 hS1
    by_cases h2 : 1 < s.size
    · have hsl2 := hS2.out h2
      rw [htwo] at hsl2
      have hg := HG.out 1 h2
      clear HG HGn hS2 hone htwo
      have g1a : decide ((s.size : Int) > 1) = true := decide_eq_true (by omega)
      have g1b : decide ((1 : Int) < (s.size : Int)) = true := decide_eq_true (by omega)
      have g1c : decide (1 < s.size) = true := decide_eq_true (by omega)
      have g1d : ((1 : Int) < (s.size : Int)) := by omega
      obtain ⟨x1, hx1⟩ : ∃ x, s[1] = x := ⟨_, rfl⟩
      rw [hx1] at hg
      by_cases x32 : x1 = 32
      · have e2 : ((x1.toNat : Int) == 32) = true := eq8 (b := 32) x32
        have HR : Hid (rt = s.data.toList.drop 2) := Lib.hid (by rw [HX.out, if_pos (by rw [hg, x32])])
        clear x32 HX hg
        generalize s.data.toList.drop 2 = d2 at *
        generalize s.data.toList.drop 1 = d1 at *
        go_enter Tryd.func20, Tryd.ntmps20
        go_wp2_with fail
        refine HO.out.mono ?_
        rintro e w1 ⟨rfl, q1, hq1⟩
        have HW := Lib.hid hq1
        clear HO hq1
        go_wp2_with fail
        go_ret
        exact ⟨by rw [HR.out]; rfl, q1, HW.out⟩
      · have e2 : ((x1.toNat : Int) == 32) = false := ne8 (b := 32) x32
        have HR : Hid (rt = s.data.toList.drop 1) := Lib.hid (by rw [HX.out, if_neg (by rw [hg]; exact fun h => x32 (Option.some.inj h))])
        clear x32 HX hg
        generalize s.data.toList.drop 2 = d2 at *
        generalize s.data.toList.drop 1 = d1 at *
        go_enter Tryd.func20, Tryd.ntmps20
        go_wp2_with fail
        refine HO.out.mono ?_
        rintro e w1 ⟨rfl, q1, hq1⟩
        have HW := Lib.hid hq1
        clear HO hq1
        go_wp2_with fail
        go_ret
        exact ⟨by rw [HR.out]; rfl, q1, HW.out⟩
    · have HR : Hid (rt = s.data.toList.drop 1) := Lib.hid (by rw [HX.out, if_neg (by rw [HGn.out (by omega)]; simp)])
      clear HX HG HGn hS2 hone htwo
      have g1a : decide ((s.size : Int) > 1) = false := decide_eq_false (by omega)
      have g1b : decide ((1 : Int) < (s.size : Int)) = false := decide_eq_false (by omega)
      have g1c : decide (1 < s.size) = false := decide_eq_false (by omega)
      have g1d : ¬ ((1 : Int) < (s.size : Int)) := by omega
      generalize s.data.toList.drop 1 = d1 at *
      go_enter Tryd.func20, Tryd.ntmps20
      go_wp2_with fail
      refine HO.out.mono ?_
      rintro e w1 ⟨rfl, q1, hq1⟩
      have HW := Lib.hid hq1
      clear HO hq1
      go_wp2_with fail
      go_ret
      exact ⟨by rw [HR.out]; rfl, q1, HW.out⟩
  · have e1 : ((K : Int) != 5) = true := by rw [bne_iff_ne]; omega
    rw [if_neg hk] at HX
    clear hk hk0 hS1 hS2 HG HGn
    go_enter Tryd.func20, Tryd.ntmps20
    go_wp2_with fail
    refine HO.out.mono ?_
    rintro e w1 ⟨rfl, q1, hq1⟩
    have HW := Lib.hid hq1
    clear HO hq1
    go_wp2_with fail
    go_ret
    exact ⟨by rw [HX.out]; rfl, q1, HW.out⟩
set_option maxHeartbeats 1600000 in
theorem unitem_any (s : ByteArray) (hs : s.size ≤ 140737488355328) (w : World) :
    Calls Tryd.prog 22 #[.string s] w (StrD w (uiT s.data.toList)) := by
  have HO := Lib.hid (of_any s hs w)
  have HX : Hid (uiT s.data.toList = if kindOf E0 s.data.toList = 6 then s.data.toList.drop 2 else []) := Lib.hid rfl
  have HD : Hid (s.size < 2 → s.data.toList.drop 2 = []) := Lib.hid (fun h => List.drop_eq_nil_of_le (by rw [len_data]; omega))
  have hS2 := Lib.hid (fun (h : 2 ≤ s.size) w' => slice_end s 2 h w')
  simp only [end_S] at hS2
  generalize uiT s.data.toList = rt at *
  generalize kindOf E0 s.data.toList = K at *
  generalize s.data.toList.drop 2 = d2 at *
  by_cases hk : K = 6
  · have e1 : ((K : Int) != 6) = false := by rw [hk]; rfl
    rw [if_pos hk] at HX
    clear hk
    by_cases h2 : s.size < 2
    · have g1 : decide ((s.size : Int) < 2) = true := decide_eq_true (by omega)
      have g2 : decide (s.size < 2) = true := decide_eq_true h2
      have g3 : (s.size : Int) < 2 := by omega
      have HR : Hid (rt = []) := Lib.hid (by rw [HX.out, HD.out h2])
      clear HX HD hS2 h2
      go_enter Tryd.func22, Tryd.ntmps22
      go_wp2_with fail
      refine HO.out.mono ?_
      rintro e w1 ⟨rfl, q1, hq1⟩
      have HW := Lib.hid hq1
      clear HO hq1
      go_wp2_with fail
      go_ret
      exact ⟨by rw [HR.out]; rfl, q1, HW.out⟩
    · have g1 : decide ((s.size : Int) < 2) = false := decide_eq_false (by omega)
      have g2 : decide (s.size < 2) = false := decide_eq_false h2
      have g3 : ¬ (s.size : Int) < 2 := by omega
      have hsl2 := hS2.out (by omega)
      have htwo : ((2 : Nat) : Int) = 2 := rfl
      rw [htwo] at hsl2
      clear hS2 HD htwo
      go_enter Tryd.func22, Tryd.ntmps22
      go_wp2_with fail
      refine HO.out.mono ?_
      rintro e w1 ⟨rfl, q1, hq1⟩
      have HW := Lib.hid hq1
      clear HO hq1
      go_wp2_with fail
      go_ret
      exact ⟨by rw [HX.out]; rfl, q1, HW.out⟩
  · have e1 : ((K : Int) != 6) = true := by rw [bne_iff_ne]; omega
    rw [if_neg hk] at HX
    clear hk hS2 HD
    go_enter Tryd.func22, Tryd.ntmps22
    go_wp2_with fail
    refine HO.out.mono ?_
    rintro e w1 ⟨rfl, q1, hq1⟩
    have HW := Lib.hid hq1
    clear HO hq1
    go_wp2_with fail
    go_ret
    exact ⟨by rw [HX.out]; rfl, q1, HW.out⟩
def inV (o : Option Tx) : Value := .tuple #[.string (S (o.getD [])), .bool o.isSome]
set_option maxHeartbeats 1600000 in
theorem inner_any (s : ByteArray) (hs : s.size ≤ 140737488355328) (w : World) :
    Calls Tryd.prog 14 #[.string s] w fun e w' => e = .returned (inV (inner s.data.toList)) ∧ w = w' := by
  have HT := Lib.hid (rtrim_any s (by omega) w)
  have HX : Hid (inner s.data.toList = if s.data.toList.take 2 = [32, 32] then some (s.data.toList.drop 2) else if trim s.data.toList = [] then some [] else none) := Lib.hid rfl
  have ht1 : ((Ln.S (trim s.data.toList)).toList == ([] : List UInt8)) = decide (trim s.data.toList = []) := by rw [Ln.S_toList, Bool.eq_iff_iff]; simp
  have hs2 : ((S (s.data.toList.take 2)).toList == [32, 32]) = decide (s.data.toList.take 2 = [32, 32]) := by rw [S_toList, Bool.eq_iff_iff]; simp
  have HP2 : Hid (s.size ≤ 1 → s.data.toList.take 2 ≠ [32, 32]) := Lib.hid (fun h e => by
    have e2 := congrArg List.length e
    rw [List.length_take, len_data] at e2
    simp at e2
    omega)
  have hA := Lib.hid (fun (h : 2 ≤ s.size) w' => slice_to s 2 h w')
  have hS2 : s.extract 0 2 = S (s.data.toList.take 2) := by rw [mid_S]; rfl
  rw [hS2] at hA
  have hB := Lib.hid (fun (h : 2 ≤ s.size) w' => slice_end s 2 h w')
  simp only [end_S] at hB
  clear hS2
  obtain ⟨X, hX⟩ : ∃ X, inner s.data.toList = X := ⟨_, rfl⟩
  rw [hX] at HX ⊢
  clear hX
  generalize Ln.S (trim s.data.toList) = st at *
  generalize S (s.data.toList.take 2) = s2 at *
  generalize s.data.toList.drop 2 = d2 at *
  by_cases h2 : s.data.toList.take 2 = [32, 32]
  · have h1 : 1 < s.size := by
      rcases Nat.lt_or_ge 1 s.size with h | h
      · exact h
      · exact absurd h2 (HP2.out h)
    rw [if_pos h2] at HX
    rw [decide_eq_true h2] at hs2
    have hsa := hA.out h1
    have hsb := hB.out h1
    have htwo : ((2 : Nat) : Int) = 2 := rfl
    rw [htwo] at hsa hsb
    clear h2 HP2 hA hB HT htwo
    have g1a : decide ((s.size : Int) > 1) = true := decide_eq_true (by omega)
    have g1b : decide ((1 : Int) < (s.size : Int)) = true := decide_eq_true (by omega)
    have g1c : decide (1 < s.size) = true := decide_eq_true (by omega)
    have g1d : ((1 : Int) < (s.size : Int)) := by omega
    go_enter Tryd.func14, Tryd.ntmps14
    go_wp2_with fail
    go_ret2
    exact ⟨by rw [HX.out]; rfl, rfl⟩
  · rw [if_neg h2] at HX
    rw [decide_eq_false h2] at hs2
    have HR : Hid (inV X = .tuple #[.string ⟨#[]⟩, .bool (decide (trim s.data.toList = []))]) := Lib.hid (by
      rw [HX.out]
      by_cases h : trim s.data.toList = []
      · rw [if_pos h, decide_eq_true h]; rfl
      · rw [if_neg h, decide_eq_false h]; rfl)
    clear h2 HP2 hB HX
    generalize decide (trim s.data.toList = []) = y at *
    by_cases h1 : 1 < s.size
    · have hsa := hA.out h1
      have htwo : ((2 : Nat) : Int) = 2 := rfl
      rw [htwo] at hsa
      clear hA htwo
      have g1a : decide ((s.size : Int) > 1) = true := decide_eq_true (by omega)
      have g1b : decide ((1 : Int) < (s.size : Int)) = true := decide_eq_true (by omega)
      have g1c : decide (1 < s.size) = true := decide_eq_true (by omega)
      have g1d : ((1 : Int) < (s.size : Int)) := by omega
      go_enter Tryd.func14, Tryd.ntmps14
      go_wp2_with fail
      refine HT.out.mono ?_
      rintro e w1 ⟨rfl, rfl⟩
      go_wp2_with fail
      go_ret2
      exact ⟨by rw [HR.out]; rfl, rfl⟩
    · clear hA
      have g1a : decide ((s.size : Int) > 1) = false := decide_eq_false (by omega)
      have g1b : decide ((1 : Int) < (s.size : Int)) = false := decide_eq_false (by omega)
      have g1c : decide (1 < s.size) = false := decide_eq_false (by omega)
      have g1d : ¬ ((1 : Int) < (s.size : Int)) := by omega
      go_enter Tryd.func14, Tryd.ntmps14
      go_wp2_with fail
      refine HT.out.mono ?_
      rintro e w1 ⟨rfl, rfl⟩
      go_wp2_with fail
      go_ret2
      exact ⟨by rw [HR.out]; rfl, rfl⟩
/-! A struct of six cells, stored. -/
theorem set6 {w : World} {b : Nat} {v0 v1 v2 v3 v4 v5 u0 u1 u2 u3 u4 u5 : Value} {T : TypeId} {fr : Nat × Nat} (h : w.heap[b]? = some (Obj.cells #[v0, v1, v2, v3, v4, v5] T fr)) :
    ((((((w.setCell ⟨b, 0, none⟩ u0).setCell ⟨b, 1, none⟩ u1).setCell ⟨b, 2, none⟩ u2).setCell ⟨b, 3, none⟩ u3).setCell ⟨b, 4, none⟩ u4).setCell ⟨b, 5, none⟩ u5).heap[b]? = some (Obj.cells #[u0, u1, u2, u3, u4, u5] T fr) :=
  set_at (set_at (set_at (set_at (set_at (set_at h 0 u0) 1 u1) 2 u2) 3 u3) 4 u4) 5 u5
theorem set6_other {w : World} {b k : Nat} (hne : k ≠ b) (u0 u1 u2 u3 u4 u5 : Value) :
    ((((((w.setCell ⟨b, 0, none⟩ u0).setCell ⟨b, 1, none⟩ u1).setCell ⟨b, 2, none⟩ u2).setCell ⟨b, 3, none⟩ u3).setCell ⟨b, 4, none⟩ u4).setCell ⟨b, 5, none⟩ u5).heap[k]? = w.heap[k]? := by
  have h : ∀ (w : World) (i : Nat) (v : Value), (w.setCell ⟨b, i, none⟩ v).heap[k]? = w.heap[k]? := fun w i v => Below.heap_setCell _ _ _ _ hne
  rw [h, h, h, h, h, h]
theorem set6_below {w0 w : World} {B b : Nat} (h : Below B w0 w) (hb : B ≤ b) (u0 u1 u2 u3 u4 u5 : Value) :
    Below B w0 ((((((w.setCell ⟨b, 0, none⟩ u0).setCell ⟨b, 1, none⟩ u1).setCell ⟨b, 2, none⟩ u2).setCell ⟨b, 3, none⟩ u3).setCell ⟨b, 4, none⟩ u4).setCell ⟨b, 5, none⟩ u5) :=
  (((((h.setCell (p := ⟨b, 0, none⟩) hb u0).setCell (p := ⟨b, 1, none⟩) hb u1).setCell (p := ⟨b, 2, none⟩) hb u2).setCell (p := ⟨b, 3, none⟩) hb u3).setCell (p := ⟨b, 4, none⟩) hb u4).setCell (p := ⟨b, 5, none⟩) hb u5
theorem blk_zero {w w5 : World} {X : Bk} (HB : Below w.heap.size w w5) (HR : X = .mk 0 0 [] [] [] []) :
    BlkAns w X (.returned (.agg #[.int .i64 0, .int .i64 0, .string ⟨#[]⟩, .slice none 0 0, .slice none 0 0, .slice none 0 0])) w5 := by
  subst HR
  exact ⟨_, _, none, 0, rfl, HB, nilRd _, by simp [Bk.lines], nilTr _, nilTrB _⟩
theorem blk_one {w w5 : World} {X : Bk} {a d : Tx} {sa : ByteArray} {k : Nat} {T : TypeId} {fr : Nat × Nat} (HSa : S a = sa) (HB : Below w.heap.size w w5) (HA : w5.heap[k]? = some (Obj.cells #[.string (S d)] T fr)) (HR : X = .mk 8 0 a [d] [] []) :
    BlkAns w X (.returned (.agg #[.int .i64 8, .int .i64 0, .string sa, .slice (some ⟨k, 0, none⟩) 1 1, .slice none 0 0, .slice none 0 0])) w5 := by
  subst HR; subst HSa
  refine ⟨.slice (some ⟨k, 0, none⟩) 1 1, _, none, 0, rfl, HB, ⟨_, 1, rfl, Nat.le_refl _, Or.inr ⟨k, 0, rfl, lt_of_at HA, fun j x hj => ?_⟩⟩, by simp [Bk.lines], nilTr _, nilTrB _⟩
  have h0 := cell_at HA 0
  cases j with
  | zero =>
    have : x = d := by simpa [Bk.lines] using hj.symm
    subst this
    exact h0
  | succ j => simp [Bk.lines] at hj
set_option maxHeartbeats 3200000 in
theorem defineB_any (s : ByteArray) (hs : s.size ≤ 140737488355328) (w : World) :
    Calls Tryd.prog 25 #[.string s] w (BlkAns w (dfB s.data.toList)) := by
  have HD := Lib.hid (fun w' => define_any s hs w')
  have HO := Lib.hid (fun w' => of_any s hs w')
  have HX : Hid (dfB s.data.toList = if kindOf E0 s.data.toList = 7 then (match define E0 s.data.toList with | some (a, d) => .mk 8 0 a [d] [] [] | none => .mk 0 0 [] [] [] []) else .mk 0 0 [] [] [] []) := Lib.hid rfl
  obtain ⟨X, hX⟩ : ∃ X, dfB s.data.toList = X := ⟨_, rfl⟩
  rw [hX] at HX ⊢
  clear hX
  generalize kindOf E0 s.data.toList = K at *
  generalize define E0 s.data.toList = D at *
  go_enter Tryd.func25, Tryd.ntmps25
  have HA1 := Lib.hid (alloc_new w (.cells #[.int .i64 0, .int .i64 0, .string ⟨#[]⟩, .slice none 0 0, .slice none 0 0, .slice none 0 0] 35))
  have HB1 := Lib.hid ((Below.refl w.heap.size w).alloc (Nat.le_refl _) (.cells #[.int .i64 0, .int .i64 0, .string ⟨#[]⟩, .slice none 0 0, .slice none 0 0, .slice none 0 0] 35))
  go_wp2_with fail
  generalize w.alloc (.cells #[.int .i64 0, .int .i64 0, .string ⟨#[]⟩, .slice none 0 0, .slice none 0 0, .slice none 0 0] 35) = w1 at *
  refine (HD.out _).mono ?_
  rintro e w2 ⟨rfl, q1, hq1⟩
  have HA2 : Hid (w2.heap[w.heap.size]? = some (Obj.cells #[.int .i64 0, .int .i64 0, .string ⟨#[]⟩, .slice none 0 0, .slice none 0 0, .slice none 0 0] 35 (0, 0))) := Lib.hid (by rw [hq1]; exact HA1.out)
  have HB2 := Lib.hid (show Below w.heap.size w w2 from by rw [hq1]; exact below_drewN HB1.out q1)
  clear hq1 HA1 HB1 HD
  unfold dfV
  obtain ⟨sa, hsa⟩ : ∃ x, S (D.getD ([], [])).1 = x := ⟨_, rfl⟩
  rw [hsa]
  go_wp2_with fail
  refine (HO.out _).mono ?_
  rintro e w3 ⟨rfl, q2, hq2⟩
  have HA3 : Hid (w3.heap[w.heap.size]? = some (Obj.cells #[.int .i64 0, .int .i64 0, .string ⟨#[]⟩, .slice none 0 0, .slice none 0 0, .slice none 0 0] 35 (0, 0))) := Lib.hid (by rw [hq2]; exact HA2.out)
  have HB3 := Lib.hid (show Below w.heap.size w w3 from by rw [hq2]; exact below_drewN HB2.out q2)
  clear hq2 HA2 HB2 HO
  have k0 : w3.cell? ⟨w.heap.size, 0, none⟩ = some (.int .i64 0) := cell_at HA3.out 0
  have f0 : w3.frozen? ⟨w.heap.size, 0, none⟩ = false := frozen_at HA3.out 0
  have K0 : ∀ o, (w3.alloc o).cell? ⟨w.heap.size, 0, none⟩ = some (.int .i64 0) := fun o => cell_at (alloc_at HA3.out o) 0
  have F0 : ∀ o, (w3.alloc o).frozen? ⟨w.heap.size, 0, none⟩ = false := fun o => frozen_at (alloc_at HA3.out o) 0
  have k1 : w3.cell? ⟨w.heap.size, 1, none⟩ = some (.int .i64 0) := cell_at HA3.out 1
  have f1 : w3.frozen? ⟨w.heap.size, 1, none⟩ = false := frozen_at HA3.out 1
  have K1 : ∀ o, (w3.alloc o).cell? ⟨w.heap.size, 1, none⟩ = some (.int .i64 0) := fun o => cell_at (alloc_at HA3.out o) 1
  have F1 : ∀ o, (w3.alloc o).frozen? ⟨w.heap.size, 1, none⟩ = false := fun o => frozen_at (alloc_at HA3.out o) 1
  have k2 : w3.cell? ⟨w.heap.size, 2, none⟩ = some (.string ⟨#[]⟩) := cell_at HA3.out 2
  have f2 : w3.frozen? ⟨w.heap.size, 2, none⟩ = false := frozen_at HA3.out 2
  have K2 : ∀ o, (w3.alloc o).cell? ⟨w.heap.size, 2, none⟩ = some (.string ⟨#[]⟩) := fun o => cell_at (alloc_at HA3.out o) 2
  have F2 : ∀ o, (w3.alloc o).frozen? ⟨w.heap.size, 2, none⟩ = false := fun o => frozen_at (alloc_at HA3.out o) 2
  have k3 : w3.cell? ⟨w.heap.size, 3, none⟩ = some (.slice none 0 0) := cell_at HA3.out 3
  have f3 : w3.frozen? ⟨w.heap.size, 3, none⟩ = false := frozen_at HA3.out 3
  have K3 : ∀ o, (w3.alloc o).cell? ⟨w.heap.size, 3, none⟩ = some (.slice none 0 0) := fun o => cell_at (alloc_at HA3.out o) 3
  have F3 : ∀ o, (w3.alloc o).frozen? ⟨w.heap.size, 3, none⟩ = false := fun o => frozen_at (alloc_at HA3.out o) 3
  have k4 : w3.cell? ⟨w.heap.size, 4, none⟩ = some (.slice none 0 0) := cell_at HA3.out 4
  have f4 : w3.frozen? ⟨w.heap.size, 4, none⟩ = false := frozen_at HA3.out 4
  have K4 : ∀ o, (w3.alloc o).cell? ⟨w.heap.size, 4, none⟩ = some (.slice none 0 0) := fun o => cell_at (alloc_at HA3.out o) 4
  have F4 : ∀ o, (w3.alloc o).frozen? ⟨w.heap.size, 4, none⟩ = false := fun o => frozen_at (alloc_at HA3.out o) 4
  have k5 : w3.cell? ⟨w.heap.size, 5, none⟩ = some (.slice none 0 0) := cell_at HA3.out 5
  have f5 : w3.frozen? ⟨w.heap.size, 5, none⟩ = false := frozen_at HA3.out 5
  have K5 : ∀ o, (w3.alloc o).cell? ⟨w.heap.size, 5, none⟩ = some (.slice none 0 0) := fun o => cell_at (alloc_at HA3.out o) 5
  have F5 : ∀ o, (w3.alloc o).frozen? ⟨w.heap.size, 5, none⟩ = false := fun o => frozen_at (alloc_at HA3.out o) 5
  cases D with
  | none =>
    have HR : Hid (X = .mk 0 0 [] [] [] []) := Lib.hid (by rw [HX.out]; split <;> rfl)
    by_cases hk : K = 7
    · have e1 : ((K : Int) != 7) = false := by rw [hk]; rfl
      clear HX hk
      go_wp2_with fail
      have HS := Lib.hid (set6 (u0 := .int .i64 0) (u1 := .int .i64 0) (u2 := .string ⟨#[]⟩) (u3 := .slice none 0 0) (u4 := .slice none 0 0) (u5 := .slice none 0 0) HA3.out)
      have HB := Lib.hid (set6_below HB3.out (Nat.le_refl _) (.int .i64 0) (.int .i64 0) (.string ⟨#[]⟩) (.slice none 0 0) (.slice none 0 0) (.slice none 0 0))
      generalize ((((((w3.setCell ⟨w.heap.size, 0, none⟩ (.int .i64 0)).setCell ⟨w.heap.size, 1, none⟩ (.int .i64 0)).setCell ⟨w.heap.size, 2, none⟩ (.string ⟨#[]⟩)).setCell ⟨w.heap.size, 3, none⟩ (.slice none 0 0)).setCell ⟨w.heap.size, 4, none⟩ (.slice none 0 0)).setCell ⟨w.heap.size, 5, none⟩ (.slice none 0 0)) = w5 at *
      have r0 : w5.cell? ⟨w.heap.size, 0, none⟩ = some (.int .i64 0) := cell_at HS.out 0
      have r1 : w5.cell? ⟨w.heap.size, 1, none⟩ = some (.int .i64 0) := cell_at HS.out 1
      have r2 : w5.cell? ⟨w.heap.size, 2, none⟩ = some (.string ⟨#[]⟩) := cell_at HS.out 2
      have r3 : w5.cell? ⟨w.heap.size, 3, none⟩ = some (.slice none 0 0) := cell_at HS.out 3
      have r4 : w5.cell? ⟨w.heap.size, 4, none⟩ = some (.slice none 0 0) := cell_at HS.out 4
      have r5 : w5.cell? ⟨w.heap.size, 5, none⟩ = some (.slice none 0 0) := cell_at HS.out 5
      exact bodyPost_ret (v := .agg #[.int .i64 0, .int .i64 0, .string ⟨#[]⟩, .slice none 0 0, .slice none 0 0, .slice none 0 0]) (by simp [results, Tryd.results25, go_sem, r0, r1, r2, r3, r4, r5]) rfl (blk_zero HB.out HR.out)
    · have e1 : ((K : Int) != 7) = true := by rw [bne_iff_ne]; omega
      clear HX hk
      go_wp2_with fail
      have HS := Lib.hid (set6 (u0 := .int .i64 0) (u1 := .int .i64 0) (u2 := .string ⟨#[]⟩) (u3 := .slice none 0 0) (u4 := .slice none 0 0) (u5 := .slice none 0 0) HA3.out)
      have HB := Lib.hid (set6_below HB3.out (Nat.le_refl _) (.int .i64 0) (.int .i64 0) (.string ⟨#[]⟩) (.slice none 0 0) (.slice none 0 0) (.slice none 0 0))
      generalize ((((((w3.setCell ⟨w.heap.size, 0, none⟩ (.int .i64 0)).setCell ⟨w.heap.size, 1, none⟩ (.int .i64 0)).setCell ⟨w.heap.size, 2, none⟩ (.string ⟨#[]⟩)).setCell ⟨w.heap.size, 3, none⟩ (.slice none 0 0)).setCell ⟨w.heap.size, 4, none⟩ (.slice none 0 0)).setCell ⟨w.heap.size, 5, none⟩ (.slice none 0 0)) = w5 at *
      have r0 : w5.cell? ⟨w.heap.size, 0, none⟩ = some (.int .i64 0) := cell_at HS.out 0
      have r1 : w5.cell? ⟨w.heap.size, 1, none⟩ = some (.int .i64 0) := cell_at HS.out 1
      have r2 : w5.cell? ⟨w.heap.size, 2, none⟩ = some (.string ⟨#[]⟩) := cell_at HS.out 2
      have r3 : w5.cell? ⟨w.heap.size, 3, none⟩ = some (.slice none 0 0) := cell_at HS.out 3
      have r4 : w5.cell? ⟨w.heap.size, 4, none⟩ = some (.slice none 0 0) := cell_at HS.out 4
      have r5 : w5.cell? ⟨w.heap.size, 5, none⟩ = some (.slice none 0 0) := cell_at HS.out 5
      exact bodyPost_ret (v := .agg #[.int .i64 0, .int .i64 0, .string ⟨#[]⟩, .slice none 0 0, .slice none 0 0, .slice none 0 0]) (by simp [results, Tryd.results25, go_sem, r0, r1, r2, r3, r4, r5]) rfl (blk_zero HB.out HR.out)
  | some p =>
    obtain ⟨a, d⟩ := p
    have HSa : Hid (S a = sa) := Lib.hid hsa
    clear hsa
    by_cases hk : K = 7
    · have HR : Hid (X = .mk 8 0 a [d] [] []) := Lib.hid (by rw [HX.out, if_pos hk])
      have e1 : ((K : Int) != 7) = false := by rw [hk]; rfl
      clear HX hk
      go_wp2_with fail
      have HS := Lib.hid (set6 (u0 := .int .i64 8) (u1 := .int .i64 0) (u2 := .string sa) (u3 := .slice (some ⟨w3.heap.size, 0, none⟩) 1 1) (u4 := .slice none 0 0) (u5 := .slice none 0 0) (alloc_at HA3.out (.cells #[.string (S d)] 9)))
      have HB := Lib.hid (set6_below (HB3.out.alloc HB3.out.size (.cells #[.string (S d)] 9)) (Nat.le_refl _) (.int .i64 8) (.int .i64 0) (.string sa) (.slice (some ⟨w3.heap.size, 0, none⟩) 1 1) (.slice none 0 0) (.slice none 0 0))
      have hne : w3.heap.size ≠ w.heap.size := by have := lt_of_at HA3.out; omega
      have HR5 := Lib.hid (set6_other (w := w3.alloc (.cells #[.string (S d)] 9)) hne (.int .i64 8) (.int .i64 0) (.string sa) (.slice (some ⟨w3.heap.size, 0, none⟩) 1 1) (.slice none 0 0) (.slice none 0 0))
      have HN := Lib.hid (alloc_new w3 (.cells #[.string (S d)] 9))
      have HR6 := Lib.hid (HR5.out.trans HN.out)
      clear HR5 HN
      generalize (((((((w3.alloc (.cells #[.string (S d)] 9)).setCell ⟨w.heap.size, 0, none⟩ (.int .i64 8)).setCell ⟨w.heap.size, 1, none⟩ (.int .i64 0)).setCell ⟨w.heap.size, 2, none⟩ (.string sa)).setCell ⟨w.heap.size, 3, none⟩ (.slice (some ⟨w3.heap.size, 0, none⟩) 1 1)).setCell ⟨w.heap.size, 4, none⟩ (.slice none 0 0)).setCell ⟨w.heap.size, 5, none⟩ (.slice none 0 0)) = w5 at *
      have r0 : w5.cell? ⟨w.heap.size, 0, none⟩ = some (.int .i64 8) := cell_at HS.out 0
      have r1 : w5.cell? ⟨w.heap.size, 1, none⟩ = some (.int .i64 0) := cell_at HS.out 1
      have r2 : w5.cell? ⟨w.heap.size, 2, none⟩ = some (.string sa) := cell_at HS.out 2
      have r3 : w5.cell? ⟨w.heap.size, 3, none⟩ = some (.slice (some ⟨w3.heap.size, 0, none⟩) 1 1) := cell_at HS.out 3
      have r4 : w5.cell? ⟨w.heap.size, 4, none⟩ = some (.slice none 0 0) := cell_at HS.out 4
      have r5 : w5.cell? ⟨w.heap.size, 5, none⟩ = some (.slice none 0 0) := cell_at HS.out 5
      exact bodyPost_ret (v := .agg #[.int .i64 8, .int .i64 0, .string sa, .slice (some ⟨w3.heap.size, 0, none⟩) 1 1, .slice none 0 0, .slice none 0 0]) (by simp [results, Tryd.results25, go_sem, r0, r1, r2, r3, r4, r5]) rfl (blk_one HSa.out HB.out HR6.out HR.out)
    · have HR : Hid (X = .mk 0 0 [] [] [] []) := Lib.hid (by rw [HX.out, if_neg hk])
      have e1 : ((K : Int) != 7) = true := by rw [bne_iff_ne]; omega
      clear HX hk
      go_wp2_with fail
      have HS := Lib.hid (set6 (u0 := .int .i64 0) (u1 := .int .i64 0) (u2 := .string ⟨#[]⟩) (u3 := .slice none 0 0) (u4 := .slice none 0 0) (u5 := .slice none 0 0) HA3.out)
      have HB := Lib.hid (set6_below HB3.out (Nat.le_refl _) (.int .i64 0) (.int .i64 0) (.string ⟨#[]⟩) (.slice none 0 0) (.slice none 0 0) (.slice none 0 0))
      generalize ((((((w3.setCell ⟨w.heap.size, 0, none⟩ (.int .i64 0)).setCell ⟨w.heap.size, 1, none⟩ (.int .i64 0)).setCell ⟨w.heap.size, 2, none⟩ (.string ⟨#[]⟩)).setCell ⟨w.heap.size, 3, none⟩ (.slice none 0 0)).setCell ⟨w.heap.size, 4, none⟩ (.slice none 0 0)).setCell ⟨w.heap.size, 5, none⟩ (.slice none 0 0)) = w5 at *
      have r0 : w5.cell? ⟨w.heap.size, 0, none⟩ = some (.int .i64 0) := cell_at HS.out 0
      have r1 : w5.cell? ⟨w.heap.size, 1, none⟩ = some (.int .i64 0) := cell_at HS.out 1
      have r2 : w5.cell? ⟨w.heap.size, 2, none⟩ = some (.string ⟨#[]⟩) := cell_at HS.out 2
      have r3 : w5.cell? ⟨w.heap.size, 3, none⟩ = some (.slice none 0 0) := cell_at HS.out 3
      have r4 : w5.cell? ⟨w.heap.size, 4, none⟩ = some (.slice none 0 0) := cell_at HS.out 4
      have r5 : w5.cell? ⟨w.heap.size, 5, none⟩ = some (.slice none 0 0) := cell_at HS.out 5
      exact bodyPost_ret (v := .agg #[.int .i64 0, .int .i64 0, .string ⟨#[]⟩, .slice none 0 0, .slice none 0 0, .slice none 0 0]) (by simp [results, Tryd.results25, go_sem, r0, r1, r2, r3, r4, r5]) rfl (blk_zero HB.out HR.out)

end Go.Proofs.YtpenjdnbnacebaaDoor.Kd
