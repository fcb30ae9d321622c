/-
  CONTRACTS of the program's runAndRest, unmarked, Head, Open, Closes, Unquote, Unitem, Inner and Define (kind); what is asked of the program holds.
-/
import Derived.Test.YtpenjdnbnacebaaDoorKdOfP
namespace Go.Proofs.YtpenjdnbnacebaaDoor.Kd
open Go.RowKit
open Go.Proofs.YtpenjdnbnacebaaDoor.Tk (S S_of S_list S_size S_toList S_app ret_int eq8 ne8 at_data len_data Rd)
open Go.Proofs.YtpenjdnbnacebaaDoor.Sp (hsB dsB ctB ret_bool OkAns)
open Go.Proofs.YtpenjdnbnacebaaDoor.Cm (alloc_new alloc_at cell_at frozen_at set_at lt_of_at)
open Go.Proofs.YtpenjdnbnacebaaDoor.Bt (labB)
open Go.Proofs.YtpenjdnbnacebaaDoor.Bk (Tx Bk define kindOf inner unquote)
open Go.Proofs.YtpenjdnbnacebaaDoor.Ln (run mx trim run_le run_any)
set_option linter.unusedVariables false

theorem kdB6 : ∀ t1 t2 t3 t4 t5 t6 t7, kdB t1 t2 t3 t4 t5 t6 t7 = 6 → t6 = true := by decide
theorem kdB7 : ∀ t1 t2 t3 t4 t5 t6 t7, kdB t1 t2 t3 t4 t5 t6 t7 = 7 → t7 = true := by decide
theorem kd6 {l : Tx} (h : kindOf E0 l = 6) : T6 l = true := kdB6 _ _ _ _ _ _ _ ((kd_eq l).symm.trans h)
theorem kd7 {l : Tx} (h : kindOf E0 l = 7) : define E0 l = some (halB l) := by
  have h1 : (define E0 l).isSome = true := kdB7 _ _ _ _ _ _ _ ((kd_eq l).symm.trans h)
  rw [define_some] at h1
  rw [define_hal, if_pos h1]
theorem kd_nil : kindOf E0 [] = 1 := by decide
theorem kd_pos {l : Tx} (h : kindOf E0 l ≠ 1) : 1 ≤ l.length := by
  cases l with
  | nil => exact absurd kd_nil h
  | cons b r => simp
theorem unq_eq (l : Tx) : Lib.trimPrefix (l.drop 1) [32] = unquote l := by
  unfold unquote
  rw [trim_pre1, pre_one, List.head?_drop, List.drop_drop]
  by_cases h : l[1]? = some 32
  · rw [if_pos (decide_eq_true h), if_pos h]
  · rw [if_neg (by rw [decide_eq_true_iff]; exact h), if_neg h]
theorem uni_eq {l : Tx} (h : T6 l = true) : Lib.trimPrefix (l.drop 1) [32] = l.drop 2 := by
  unfold T6 at h
  rw [trim_pre1, pre_one, List.drop_drop]
  rcases of_decide_eq_true h with h | h
  · subst h; rfl
  · have : (l.drop 1).head? = some 32 := by
      cases l with
      | nil => simp at h
      | cons a r =>
        cases r with
        | nil => simp at h
        | cons b r =>
          simp at h
          simp [h.2]
    rw [if_pos (decide_eq_true this)]

theorem runRest_any (s : ByteArray) (hs : s.size ≤ 140737488355328) (c : UInt8) (w : World) :
    Calls Tryd.prog 27 #[.string s, .int .u8 c.toNat] w (LevK w (run c s.data.toList) (trim (s.data.toList.drop (run c s.data.toList)))) := by
  have HR := Lib.hid (run_any s (by omega) c w)
  have hl := run_le c s.data.toList
  rw [len_data] at hl
  have HS := slice_end s (run c s.data.toList) hl
  rw [end_S] at HS
  have HT := Lib.hid (trimP_any (S (s.data.toList.drop (run c s.data.toList))) (by rw [S_size, List.length_drop, len_data]; omega) w)
  rw [S_list] at HT
  unfold StrK at HT
  generalize S (s.data.toList.drop (run c s.data.toList)) = sr at *
  generalize trim (s.data.toList.drop (run c s.data.toList)) = tr at *
  generalize run c s.data.toList = n at *
  clear hl
  go_enter Tryd.func27, Tryd.ntmps27
  go_wp2_with fail
  refine HR.out.mono ?_
  rintro e w2 ⟨rfl, rfl⟩
  go_wp2_with fail
  refine HT.out.mono ?_
  rintro e w3 ⟨rfl, b3⟩
  have HB3 := Lib.hid b3
  clear b3
  go_wp2_with fail
  go_ret2
  exact ⟨rfl, HB3.out⟩
theorem unmarked_any (s : ByteArray) (h1 : 1 ≤ s.size) (w : World) :
    Calls Tryd.prog 41 #[.string s] w (StrK w (Lib.trimPrefix (s.data.toList.drop 1) [32])) := by
  have HS := slice_end s 1 h1
  rw [end_S] at HS
  have hone : ((1 : Nat) : Int) = 1 := rfl
  rw [hone] at HS
  have HT := Lib.hid (Tryd.strings_TrimPrefix (S (s.data.toList.drop 1)) ⟨#[32]⟩ w)
  have l1 : (⟨#[32]⟩ : ByteArray).data.toList = [32] := rfl
  rw [S_list, l1, lib_S] at HT
  clear l1 hone
  generalize Lib.trimPrefix (s.data.toList.drop 1) [32] = tr at *
  generalize S (s.data.toList.drop 1) = sr at *
  go_enter Tryd.func41, Tryd.ntmps41
  go_wp2_with fail
  refine HT.out.mono ?_
  rintro e w2 ⟨rfl, rfl⟩
  go_wp2_with fail
  go_ret
  exact ⟨rfl, Below.refl _ _⟩

theorem headP_any (s : ByteArray) (hs : s.size ≤ 1000000) (w : World) :
    Calls Tryd.prog 9 #[.string s] w (LevK w (hdN s.data.toList) (hdT s.data.toList)) := by
  have HO := Lib.hid (ofP_any s hs w)
  have HR := Lib.hid (fun w' => runRest_any s (by omega) 35 w')
  have hc : ((35 : UInt8).toNat : Int) = 35 := rfl
  have hN : Hid (hdN s.data.toList = if kindOf E0 s.data.toList = 2 then run 35 s.data.toList else 0) := Lib.hid rfl
  have hT : Hid (hdT s.data.toList = if kindOf E0 s.data.toList = 2 then trim (s.data.toList.drop (run 35 s.data.toList)) else []) := Lib.hid rfl
  rw [hc] at HR
  clear hc
  unfold LevK at HR
  unfold NumK at HO
  generalize hdN s.data.toList = rn at *
  generalize hdT s.data.toList = rt at *
  generalize kindOf E0 s.data.toList = K at *
  generalize trim (s.data.toList.drop (run 35 s.data.toList)) = tt at *
  generalize run 35 s.data.toList = n at *
  by_cases hk : K = 2
  · have e1 : ((K : Int) != 2) = false := by rw [hk]; rfl
    rw [if_pos hk] at hN hT
    clear hk
    go_enter Tryd.func9, Tryd.ntmps9
    go_wp2_with fail
    refine HO.out.mono ?_
    rintro e w2 ⟨rfl, b2⟩
    have HB2 := Lib.hid b2
    clear b2 HO
    go_wp2_with fail
    refine (HR.out _).mono ?_
    rintro e w3 ⟨rfl, b3⟩
    have HB3 := Lib.hid (HB2.out.trans (b3.mono HB2.out.size))
    clear b3 HR
    go_wp2_with fail
    go_ret2
    exact ⟨by rw [hN.out, hT.out]; rfl, HB3.out⟩
  · have e1 : ((K : Int) != 2) = true := by rw [bne_iff_ne]; omega
    rw [if_neg hk] at hN hT
    clear hk HR
    go_enter Tryd.func9, Tryd.ntmps9
    go_wp2_with fail
    refine HO.out.mono ?_
    rintro e w2 ⟨rfl, b2⟩
    have HB2 := Lib.hid b2
    clear b2 HO
    go_wp2_with fail
    go_ret2
    exact ⟨by rw [hN.out, hT.out]; rfl, HB2.out⟩
theorem openP_any (s : ByteArray) (hs : s.size ≤ 1000000) (w : World) :
    Calls Tryd.prog 11 #[.string s] w (LevK w (opN s.data.toList) (opT s.data.toList)) := by
  have HO := Lib.hid (ofP_any s hs w)
  have HR := Lib.hid (fun w' => runRest_any s (by omega) 96 w')
  have hc : ((96 : UInt8).toNat : Int) = 96 := rfl
  have hN : Hid (opN s.data.toList = if kindOf E0 s.data.toList = 4 then run 96 s.data.toList else 0) := Lib.hid rfl
  have hT : Hid (opT s.data.toList = if kindOf E0 s.data.toList = 4 then trim (s.data.toList.drop (run 96 s.data.toList)) else []) := Lib.hid rfl
  rw [hc] at HR
  clear hc
  unfold LevK at HR
  unfold NumK at HO
  generalize opN s.data.toList = rn at *
  generalize opT s.data.toList = rt at *
  generalize kindOf E0 s.data.toList = K at *
  generalize trim (s.data.toList.drop (run 96 s.data.toList)) = tt at *
  generalize run 96 s.data.toList = n at *
  by_cases hk : K = 4
  · have e1 : ((K : Int) != 4) = false := by rw [hk]; rfl
    rw [if_pos hk] at hN hT
    clear hk
    go_enter Tryd.func11, Tryd.ntmps11
    go_wp2_with fail
    refine HO.out.mono ?_
    rintro e w2 ⟨rfl, b2⟩
    have HB2 := Lib.hid b2
    clear b2 HO
    go_wp2_with fail
    refine (HR.out _).mono ?_
    rintro e w3 ⟨rfl, b3⟩
    have HB3 := Lib.hid (HB2.out.trans (b3.mono HB2.out.size))
    clear b3 HR
    go_wp2_with fail
    go_ret2
    exact ⟨by rw [hN.out, hT.out]; rfl, HB3.out⟩
  · have e1 : ((K : Int) != 4) = true := by rw [bne_iff_ne]; omega
    rw [if_neg hk] at hN hT
    clear hk HR
    go_enter Tryd.func11, Tryd.ntmps11
    go_wp2_with fail
    refine HO.out.mono ?_
    rintro e w2 ⟨rfl, b2⟩
    have HB2 := Lib.hid b2
    clear b2 HO
    go_wp2_with fail
    go_ret2
    exact ⟨by rw [hN.out, hT.out]; rfl, HB2.out⟩
theorem unquoteP_any (s : ByteArray) (hs : s.size ≤ 1000000) (w : World) :
    Calls Tryd.prog 19 #[.string s] w (StrK w (uqT s.data.toList)) := by
  have HO := Lib.hid (ofP_any s hs w)
  have hT : Hid (uqT s.data.toList = if kindOf E0 s.data.toList = 5 then unquote s.data.toList else []) := Lib.hid rfl
  by_cases hk : kindOf E0 s.data.toList = 5
  · have HU := Lib.hid (fun w' => unmarked_any s (by have := kd_pos (l := s.data.toList) (by rw [hk]; decide); rw [len_data] at this; exact this) w')
    have HE := Lib.hid (unq_eq _ : Lib.trimPrefix (s.data.toList.drop 1) [32] = unquote s.data.toList)
    rw [if_pos hk] at hT
    have e1 : ((kindOf E0 s.data.toList : Int) != 5) = false := by rw [hk]; rfl
    clear hk
    unfold StrK at HU
    unfold NumK at HO
    generalize kindOf E0 s.data.toList = K at *
    generalize uqT s.data.toList = rt at *
    generalize Lib.trimPrefix (s.data.toList.drop 1) [32] = tt at *
    go_enter Tryd.func19, Tryd.ntmps19
    go_wp2_with fail
    refine HO.out.mono ?_
    rintro e w2 ⟨rfl, b2⟩
    have HB2 := Lib.hid b2
    clear b2 HO
    go_wp2_with fail
    refine (HU.out _).mono ?_
    rintro e w3 ⟨rfl, b3⟩
    have HB3 := Lib.hid (HB2.out.trans (b3.mono HB2.out.size))
    clear b3 HU
    go_wp2_with fail
    go_ret
    exact ⟨by rw [hT.out, HE.out]; rfl, HB3.out⟩
  · rw [if_neg hk] at hT
    have e1 : ((kindOf E0 s.data.toList : Int) != 5) = true := by rw [bne_iff_ne]; omega
    clear hk
    unfold NumK at HO
    generalize kindOf E0 s.data.toList = K at *
    generalize uqT s.data.toList = rt at *
    go_enter Tryd.func19, Tryd.ntmps19
    go_wp2_with fail
    refine HO.out.mono ?_
    rintro e w2 ⟨rfl, b2⟩
    have HB2 := Lib.hid b2
    clear b2 HO
    go_wp2_with fail
    go_ret
    exact ⟨by rw [hT.out]; rfl, HB2.out⟩
theorem unitemP_any (s : ByteArray) (hs : s.size ≤ 1000000) (w : World) :
    Calls Tryd.prog 21 #[.string s] w (StrK w (uiT s.data.toList)) := by
  have HO := Lib.hid (ofP_any s hs w)
  have hT : Hid (uiT s.data.toList = if kindOf E0 s.data.toList = 6 then s.data.toList.drop 2 else []) := Lib.hid rfl
  by_cases hk : kindOf E0 s.data.toList = 6
  · have HU := Lib.hid (fun w' => unmarked_any s (by have := kd_pos (l := s.data.toList) (by rw [hk]; decide); rw [len_data] at this; exact this) w')
    have HE := Lib.hid (uni_eq (kd6 hk) : Lib.trimPrefix (s.data.toList.drop 1) [32] = s.data.toList.drop 2)
    rw [if_pos hk] at hT
    have e1 : ((kindOf E0 s.data.toList : Int) != 6) = false := by rw [hk]; rfl
    clear hk
    unfold StrK at HU
    unfold NumK at HO
    generalize kindOf E0 s.data.toList = K at *
    generalize uiT s.data.toList = rt at *
    generalize Lib.trimPrefix (s.data.toList.drop 1) [32] = tt at *
    go_enter Tryd.func21, Tryd.ntmps21
    go_wp2_with fail
    refine HO.out.mono ?_
    rintro e w2 ⟨rfl, b2⟩
    have HB2 := Lib.hid b2
    clear b2 HO
    go_wp2_with fail
    refine (HU.out _).mono ?_
    rintro e w3 ⟨rfl, b3⟩
    have HB3 := Lib.hid (HB2.out.trans (b3.mono HB2.out.size))
    clear b3 HU
    go_wp2_with fail
    go_ret
    exact ⟨by rw [hT.out, HE.out]; rfl, HB3.out⟩
  · rw [if_neg hk] at hT
    have e1 : ((kindOf E0 s.data.toList : Int) != 6) = true := by rw [bne_iff_ne]; omega
    clear hk
    unfold NumK at HO
    generalize kindOf E0 s.data.toList = K at *
    generalize uiT s.data.toList = rt at *
    go_enter Tryd.func21, Tryd.ntmps21
    go_wp2_with fail
    refine HO.out.mono ?_
    rintro e w2 ⟨rfl, b2⟩
    have HB2 := Lib.hid b2
    clear b2 HO
    go_wp2_with fail
    go_ret
    exact ⟨by rw [hT.out]; rfl, HB2.out⟩
theorem max2 (w : World) (x y : Int) : (Builtin.max_ #[3, 3] 3 #[.int .i64 x, .int .i64 y]).run Tryd.prog w = .ok (.int .i64 (max x y)) w := by
  have e : ∀ x y : Int, (if y > x then y else x) = max x y := fun x y => by
    rw [Int.max_def]
    split <;> split <;> omega
  simp [Builtin.max_, Builtin.max2, e]
theorem closesP_any (s : ByteArray) (n : Int) (hs : s.size ≤ 140737488355328) (w : World) :
    Calls Tryd.prog 17 #[.string s, .int .i64 n] w (OkAns w (clB s.data.toList n)) := by
  have HR := Lib.hid (run_any s (by omega) 96 w)
  have HX : Hid (clB s.data.toList n = (decide (max n 1 ≤ (s.size : Int)) && decide (run 96 s.data.toList = s.size))) := Lib.hid (by
    unfold clB
    rw [len_data, ← Bool.decide_and]
    congr 1
    rw [decide_eq_decide]
    omega)
  have hm := fun w' => max2 w' n 1
  generalize clB s.data.toList n = X at *
  generalize run 96 s.data.toList = r at *
  generalize max n 1 = m at *
  by_cases h1 : m ≤ (s.size : Int)
  · have g1 : decide ((s.size : Int) ≥ m) = true := decide_eq_true h1
    have g1b : decide (m ≤ (s.size : Int)) = true := decide_eq_true h1
    have HX' : Hid (X = decide (r = s.size)) := Lib.hid (by rw [HX.out, g1b, Bool.true_and])
    have e1 : ((r : Int) == (s.size : Int)) = decide (r = s.size) := by
      rw [Bool.eq_iff_iff, beq_iff_eq, decide_eq_true_iff]; omega
    clear HX
    generalize decide (r = s.size) = y at *
    go_enter Tryd.func17, Tryd.ntmps17
    go_wp2_with fail
    refine HR.out.mono ?_
    rintro e w2 ⟨rfl, rfl⟩
    go_wp2_with fail
    go_ret
    exact ⟨ret_bool HX'.out.symm, Below.refl _ _⟩
  · have g1 : decide ((s.size : Int) ≥ m) = false := decide_eq_false (by omega)
    have g1b : decide (m ≤ (s.size : Int)) = false := decide_eq_false h1
    have HX' : Hid (X = false) := Lib.hid (by rw [HX.out, g1b, Bool.false_and])
    clear HX HR
    go_enter Tryd.func17, Tryd.ntmps17
    go_wp2_with fail
    go_ret
    exact ⟨ret_bool HX'.out.symm, Below.refl _ _⟩
theorem innerP_any (s : ByteArray) (hs : s.size ≤ 140737488355328) (w : World) :
    Calls Tryd.prog 13 #[.string s] w (InK w (inner s.data.toList)) := by
  have H1 := Lib.hid (cutPre_any s ⟨#[32, 32]⟩ w)
  have l1 : (⟨#[32, 32]⟩ : ByteArray).data.toList = [32, 32] := rfl
  rw [l1, trim_pre2, pre_two] at H1
  have HB := Lib.hid (fun w' => blankP_any s hs w')
  have HX : Hid (inner s.data.toList = if s.data.toList.take 2 = [32, 32] then some (s.data.toList.drop 2) else if trim s.data.toList = [] then some [] else none) := Lib.hid rfl
  clear l1
  generalize inner s.data.toList = X at *
  by_cases hp : s.data.toList.take 2 = [32, 32]
  · rw [if_pos hp] at HX
    rw [decide_eq_true hp, if_pos rfl] at H1
    clear hp HB
    generalize s.data.toList.drop 2 = dd at *
    generalize hsd : S dd = sd at *
    have HSd := Lib.hid hsd
    clear hsd
    go_enter Tryd.func13, Tryd.ntmps13
    go_wp2_with fail
    refine H1.out.mono ?_
    rintro e w2 ⟨rfl, rfl⟩
    go_wp2_with fail
    go_ret2
    exact ⟨by rw [HX.out, ← HSd.out]; rfl, Below.refl _ _⟩
  · rw [if_neg hp] at HX
    rw [decide_eq_false hp, if_neg (by decide)] at H1
    have HR : Hid (inV X = .tuple #[.string ⟨#[]⟩, .bool (decide (trim s.data.toList = []))]) := Lib.hid (by
      rw [HX.out]
      by_cases h : trim s.data.toList = []
      · rw [if_pos h, decide_eq_true h]; rfl
      · rw [if_neg h, decide_eq_false h]; rfl)
    clear hp HX
    generalize decide (trim s.data.toList = []) = y at *
    generalize S s.data.toList = sd at *
    go_enter Tryd.func13, Tryd.ntmps13
    go_wp2_with fail
    refine H1.out.mono ?_
    rintro e w2 ⟨rfl, rfl⟩
    go_wp2_with fail
    refine (HB.out _).mono ?_
    rintro e w3 ⟨rfl, b3⟩
    have HB3 := Lib.hid b3
    clear b3
    go_wp2_with fail
    go_ret2
    exact ⟨by rw [HR.out]; rfl, HB3.out⟩

set_option maxHeartbeats 3200000 in
theorem defineP_any (s : ByteArray) (hs : s.size ≤ 1000000) (w : World) :
    Calls Tryd.prog 24 #[.string s] w (BlkAns w (dfB s.data.toList)) := by
  have HH := Lib.hid (fun w' => halves_any s (by omega) w')
  have HO := Lib.hid (fun w' => ofP_any s hs w')
  have HX1 : Hid (kindOf E0 s.data.toList = 7 → dfB s.data.toList = .mk 8 0 (halB s.data.toList).1 [(halB s.data.toList).2] [] []) := Lib.hid (fun h => by unfold dfB; rw [if_pos h, kd7 h])
  have HX0 : Hid (kindOf E0 s.data.toList ≠ 7 → dfB s.data.toList = .mk 0 0 [] [] [] []) := Lib.hid (fun h => by unfold dfB; rw [if_neg h])
  obtain ⟨X, hX⟩ : ∃ X, dfB s.data.toList = X := ⟨_, rfl⟩
  rw [hX] at HX1 HX0 ⊢
  clear hX
  unfold HalAns at HH
  unfold NumK at HO
  generalize kindOf E0 s.data.toList = K at *
  generalize halB s.data.toList = P at *
  obtain ⟨a, d⟩ := P
  simp only at HH HX1
  go_enter Tryd.func24, Tryd.ntmps24
  have HA1 := Lib.hid (alloc_new w (.cells #[.int .i64 0, .int .i64 0, .string ⟨#[]⟩, .slice none 0 0, .slice none 0 0, .slice none 0 0] 35))
  have HB1 := Lib.hid ((Below.refl w.heap.size w).alloc (Nat.le_refl _) (.cells #[.int .i64 0, .int .i64 0, .string ⟨#[]⟩, .slice none 0 0, .slice none 0 0, .slice none 0 0] 35))
  go_wp2_with fail
  generalize w.alloc (.cells #[.int .i64 0, .int .i64 0, .string ⟨#[]⟩, .slice none 0 0, .slice none 0 0, .slice none 0 0] 35) = w1 at *
  refine (HO.out _).mono ?_
  rintro e w2 ⟨rfl, b2⟩
  have HA2 : Hid (w2.heap[w.heap.size]? = some (Obj.cells #[.int .i64 0, .int .i64 0, .string ⟨#[]⟩, .slice none 0 0, .slice none 0 0, .slice none 0 0] 35 (0, 0))) := Lib.hid (by rw [b2.block _ (lt_of_at HA1.out)]; exact HA1.out)
  have HB2 := Lib.hid (HB1.out.trans (b2.mono HB1.out.size))
  clear b2 HA1 HB1 HO
  by_cases hk : K = 7
  · have HR := Lib.hid (HX1.out hk)
    have e1 : ((K : Int) != 7) = false := by rw [hk]; rfl
    clear HX1 HX0 hk
    generalize hsa : S a = sa at *
    have HSa : Hid (S a = sa) := Lib.hid hsa
    clear hsa
    go_wp2_with fail
    refine (HH.out _).mono ?_
    rintro e w3 ⟨rfl, q2, hq2⟩
    have HA3 : Hid (w3.heap[w.heap.size]? = some (Obj.cells #[.int .i64 0, .int .i64 0, .string ⟨#[]⟩, .slice none 0 0, .slice none 0 0, .slice none 0 0] 35 (0, 0))) := Lib.hid (by rw [hq2]; exact HA2.out)
    have HB3 := Lib.hid (show Below w.heap.size w w3 from by rw [hq2]; exact below_drewN HB2.out q2)
    clear hq2 HA2 HB2 HH
    have k0 : w3.cell? ⟨w.heap.size, 0, none⟩ = some (.int .i64 0) := cell_at HA3.out 0
    have f0 : w3.frozen? ⟨w.heap.size, 0, none⟩ = false := frozen_at HA3.out 0
    have K0 : ∀ o, (w3.alloc o).cell? ⟨w.heap.size, 0, none⟩ = some (.int .i64 0) := fun o => cell_at (alloc_at HA3.out o) 0
    have F0 : ∀ o, (w3.alloc o).frozen? ⟨w.heap.size, 0, none⟩ = false := fun o => frozen_at (alloc_at HA3.out o) 0
    have k1 : w3.cell? ⟨w.heap.size, 1, none⟩ = some (.int .i64 0) := cell_at HA3.out 1
    have f1 : w3.frozen? ⟨w.heap.size, 1, none⟩ = false := frozen_at HA3.out 1
    have K1 : ∀ o, (w3.alloc o).cell? ⟨w.heap.size, 1, none⟩ = some (.int .i64 0) := fun o => cell_at (alloc_at HA3.out o) 1
    have F1 : ∀ o, (w3.alloc o).frozen? ⟨w.heap.size, 1, none⟩ = false := fun o => frozen_at (alloc_at HA3.out o) 1
    have k2 : w3.cell? ⟨w.heap.size, 2, none⟩ = some (.string ⟨#[]⟩) := cell_at HA3.out 2
    have f2 : w3.frozen? ⟨w.heap.size, 2, none⟩ = false := frozen_at HA3.out 2
    have K2 : ∀ o, (w3.alloc o).cell? ⟨w.heap.size, 2, none⟩ = some (.string ⟨#[]⟩) := fun o => cell_at (alloc_at HA3.out o) 2
    have F2 : ∀ o, (w3.alloc o).frozen? ⟨w.heap.size, 2, none⟩ = false := fun o => frozen_at (alloc_at HA3.out o) 2
    have k3 : w3.cell? ⟨w.heap.size, 3, none⟩ = some (.slice none 0 0) := cell_at HA3.out 3
    have f3 : w3.frozen? ⟨w.heap.size, 3, none⟩ = false := frozen_at HA3.out 3
    have K3 : ∀ o, (w3.alloc o).cell? ⟨w.heap.size, 3, none⟩ = some (.slice none 0 0) := fun o => cell_at (alloc_at HA3.out o) 3
    have F3 : ∀ o, (w3.alloc o).frozen? ⟨w.heap.size, 3, none⟩ = false := fun o => frozen_at (alloc_at HA3.out o) 3
    have k4 : w3.cell? ⟨w.heap.size, 4, none⟩ = some (.slice none 0 0) := cell_at HA3.out 4
    have f4 : w3.frozen? ⟨w.heap.size, 4, none⟩ = false := frozen_at HA3.out 4
    have K4 : ∀ o, (w3.alloc o).cell? ⟨w.heap.size, 4, none⟩ = some (.slice none 0 0) := fun o => cell_at (alloc_at HA3.out o) 4
    have F4 : ∀ o, (w3.alloc o).frozen? ⟨w.heap.size, 4, none⟩ = false := fun o => frozen_at (alloc_at HA3.out o) 4
    have k5 : w3.cell? ⟨w.heap.size, 5, none⟩ = some (.slice none 0 0) := cell_at HA3.out 5
    have f5 : w3.frozen? ⟨w.heap.size, 5, none⟩ = false := frozen_at HA3.out 5
    have K5 : ∀ o, (w3.alloc o).cell? ⟨w.heap.size, 5, none⟩ = some (.slice none 0 0) := fun o => cell_at (alloc_at HA3.out o) 5
    have F5 : ∀ o, (w3.alloc o).frozen? ⟨w.heap.size, 5, none⟩ = false := fun o => frozen_at (alloc_at HA3.out o) 5
    go_wp2_with fail
    have HS := Lib.hid (set6 (u0 := .int .i64 8) (u1 := .int .i64 0) (u2 := .string sa) (u3 := .slice (some ⟨w3.heap.size, 0, none⟩) 1 1) (u4 := .slice none 0 0) (u5 := .slice none 0 0) (alloc_at HA3.out (.cells #[.string (S d)] 9)))
    have HB := Lib.hid (set6_below (HB3.out.alloc HB3.out.size (.cells #[.string (S d)] 9)) (Nat.le_refl _) (.int .i64 8) (.int .i64 0) (.string sa) (.slice (some ⟨w3.heap.size, 0, none⟩) 1 1) (.slice none 0 0) (.slice none 0 0))
    have hne : w3.heap.size ≠ w.heap.size := by have := lt_of_at HA3.out; omega
    have HR5 := Lib.hid (set6_other (w := w3.alloc (.cells #[.string (S d)] 9)) hne (.int .i64 8) (.int .i64 0) (.string sa) (.slice (some ⟨w3.heap.size, 0, none⟩) 1 1) (.slice none 0 0) (.slice none 0 0))
    have HN := Lib.hid (alloc_new w3 (.cells #[.string (S d)] 9))
    have HR6 := Lib.hid (HR5.out.trans HN.out)
    clear HR5 HN
    generalize (((((((w3.alloc (.cells #[.string (S d)] 9)).setCell ⟨w.heap.size, 0, none⟩ (.int .i64 8)).setCell ⟨w.heap.size, 1, none⟩ (.int .i64 0)).setCell ⟨w.heap.size, 2, none⟩ (.string sa)).setCell ⟨w.heap.size, 3, none⟩ (.slice (some ⟨w3.heap.size, 0, none⟩) 1 1)).setCell ⟨w.heap.size, 4, none⟩ (.slice none 0 0)).setCell ⟨w.heap.size, 5, none⟩ (.slice none 0 0)) = w5 at *
    have r0 : w5.cell? ⟨w.heap.size, 0, none⟩ = some (.int .i64 8) := cell_at HS.out 0
    have r1 : w5.cell? ⟨w.heap.size, 1, none⟩ = some (.int .i64 0) := cell_at HS.out 1
    have r2 : w5.cell? ⟨w.heap.size, 2, none⟩ = some (.string sa) := cell_at HS.out 2
    have r3 : w5.cell? ⟨w.heap.size, 3, none⟩ = some (.slice (some ⟨w3.heap.size, 0, none⟩) 1 1) := cell_at HS.out 3
    have r4 : w5.cell? ⟨w.heap.size, 4, none⟩ = some (.slice none 0 0) := cell_at HS.out 4
    have r5 : w5.cell? ⟨w.heap.size, 5, none⟩ = some (.slice none 0 0) := cell_at HS.out 5
    exact bodyPost_ret (v := .agg #[.int .i64 8, .int .i64 0, .string sa, .slice (some ⟨w3.heap.size, 0, none⟩) 1 1, .slice none 0 0, .slice none 0 0]) (by simp [results, Tryd.results24, go_sem, r0, r1, r2, r3, r4, r5]) rfl (blk_one HSa.out HB.out HR6.out HR.out)
  · have HR := Lib.hid (HX0.out hk)
    have e1 : ((K : Int) != 7) = true := by rw [bne_iff_ne]; omega
    clear HX1 HX0 hk HH
    have HA3 := HA2
    have HB3 := HB2
    have k0 : w2.cell? ⟨w.heap.size, 0, none⟩ = some (.int .i64 0) := cell_at HA3.out 0
    have f0 : w2.frozen? ⟨w.heap.size, 0, none⟩ = false := frozen_at HA3.out 0
    have K0 : ∀ o, (w2.alloc o).cell? ⟨w.heap.size, 0, none⟩ = some (.int .i64 0) := fun o => cell_at (alloc_at HA3.out o) 0
    have F0 : ∀ o, (w2.alloc o).frozen? ⟨w.heap.size, 0, none⟩ = false := fun o => frozen_at (alloc_at HA3.out o) 0
    have k1 : w2.cell? ⟨w.heap.size, 1, none⟩ = some (.int .i64 0) := cell_at HA3.out 1
    have f1 : w2.frozen? ⟨w.heap.size, 1, none⟩ = false := frozen_at HA3.out 1
    have K1 : ∀ o, (w2.alloc o).cell? ⟨w.heap.size, 1, none⟩ = some (.int .i64 0) := fun o => cell_at (alloc_at HA3.out o) 1
    have F1 : ∀ o, (w2.alloc o).frozen? ⟨w.heap.size, 1, none⟩ = false := fun o => frozen_at (alloc_at HA3.out o) 1
    have k2 : w2.cell? ⟨w.heap.size, 2, none⟩ = some (.string ⟨#[]⟩) := cell_at HA3.out 2
    have f2 : w2.frozen? ⟨w.heap.size, 2, none⟩ = false := frozen_at HA3.out 2
    have K2 : ∀ o, (w2.alloc o).cell? ⟨w.heap.size, 2, none⟩ = some (.string ⟨#[]⟩) := fun o => cell_at (alloc_at HA3.out o) 2
    have F2 : ∀ o, (w2.alloc o).frozen? ⟨w.heap.size, 2, none⟩ = false := fun o => frozen_at (alloc_at HA3.out o) 2
    have k3 : w2.cell? ⟨w.heap.size, 3, none⟩ = some (.slice none 0 0) := cell_at HA3.out 3
    have f3 : w2.frozen? ⟨w.heap.size, 3, none⟩ = false := frozen_at HA3.out 3
    have K3 : ∀ o, (w2.alloc o).cell? ⟨w.heap.size, 3, none⟩ = some (.slice none 0 0) := fun o => cell_at (alloc_at HA3.out o) 3
    have F3 : ∀ o, (w2.alloc o).frozen? ⟨w.heap.size, 3, none⟩ = false := fun o => frozen_at (alloc_at HA3.out o) 3
    have k4 : w2.cell? ⟨w.heap.size, 4, none⟩ = some (.slice none 0 0) := cell_at HA3.out 4
    have f4 : w2.frozen? ⟨w.heap.size, 4, none⟩ = false := frozen_at HA3.out 4
    have K4 : ∀ o, (w2.alloc o).cell? ⟨w.heap.size, 4, none⟩ = some (.slice none 0 0) := fun o => cell_at (alloc_at HA3.out o) 4
    have F4 : ∀ o, (w2.alloc o).frozen? ⟨w.heap.size, 4, none⟩ = false := fun o => frozen_at (alloc_at HA3.out o) 4
    have k5 : w2.cell? ⟨w.heap.size, 5, none⟩ = some (.slice none 0 0) := cell_at HA3.out 5
    have f5 : w2.frozen? ⟨w.heap.size, 5, none⟩ = false := frozen_at HA3.out 5
    have K5 : ∀ o, (w2.alloc o).cell? ⟨w.heap.size, 5, none⟩ = some (.slice none 0 0) := fun o => cell_at (alloc_at HA3.out o) 5
    have F5 : ∀ o, (w2.alloc o).frozen? ⟨w.heap.size, 5, none⟩ = false := fun o => frozen_at (alloc_at HA3.out o) 5
    go_wp2_with fail
    have HS := Lib.hid (set6 (u0 := .int .i64 0) (u1 := .int .i64 0) (u2 := .string ⟨#[]⟩) (u3 := .slice none 0 0) (u4 := .slice none 0 0) (u5 := .slice none 0 0) HA3.out)
    have HB := Lib.hid (set6_below HB3.out (Nat.le_refl _) (.int .i64 0) (.int .i64 0) (.string ⟨#[]⟩) (.slice none 0 0) (.slice none 0 0) (.slice none 0 0))
    generalize ((((((w2.setCell ⟨w.heap.size, 0, none⟩ (.int .i64 0)).setCell ⟨w.heap.size, 1, none⟩ (.int .i64 0)).setCell ⟨w.heap.size, 2, none⟩ (.string ⟨#[]⟩)).setCell ⟨w.heap.size, 3, none⟩ (.slice none 0 0)).setCell ⟨w.heap.size, 4, none⟩ (.slice none 0 0)).setCell ⟨w.heap.size, 5, none⟩ (.slice none 0 0)) = w5 at *
    have r0 : w5.cell? ⟨w.heap.size, 0, none⟩ = some (.int .i64 0) := cell_at HS.out 0
    have r1 : w5.cell? ⟨w.heap.size, 1, none⟩ = some (.int .i64 0) := cell_at HS.out 1
    have r2 : w5.cell? ⟨w.heap.size, 2, none⟩ = some (.string ⟨#[]⟩) := cell_at HS.out 2
    have r3 : w5.cell? ⟨w.heap.size, 3, none⟩ = some (.slice none 0 0) := cell_at HS.out 3
    have r4 : w5.cell? ⟨w.heap.size, 4, none⟩ = some (.slice none 0 0) := cell_at HS.out 4
    have r5 : w5.cell? ⟨w.heap.size, 5, none⟩ = some (.slice none 0 0) := cell_at HS.out 5
    exact bodyPost_ret (v := .agg #[.int .i64 0, .int .i64 0, .string ⟨#[]⟩, .slice none 0 0, .slice none 0 0, .slice none 0 0]) (by simp [results, Tryd.results24, go_sem, r0, r1, r2, r3, r4, r5]) rfl (blk_zero HB.out HR.out)

theorem told11 : Told11 where
  of := fun s w h => ofP_any s (by omega) w
  head := fun s w h => headP_any s (by omega) w
  opens := fun s w h => openP_any s (by omega) w
  closes := fun s n w h _ _ => closesP_any s n (by omega) w
  unquote := fun s w h => unquoteP_any s (by omega) w
  unitem := fun s w h => unitemP_any s (by omega) w
  inner := fun s w h => innerP_any s (by omega) w
  defines := fun s w h => defineP_any s (by omega) w

end Go.Proofs.YtpenjdnbnacebaaDoor.Kd
