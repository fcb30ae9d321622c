import Derived.Test.YthpnbialpkkpgaaGreatDoorPkB
import Derived.Test.YthpnbialpkkpgaaGreatDoorPkC
import Derived.Test.YthpnbialpkkpgaaGreatDoorPkT
namespace Go.Proofs.YthpnbialpkkpgaaGreatDoor.Bt
open Go.RowKit
open Go.Proofs.YthpnbialpkkpgaaGreatDoor.Tk (S S_of S_list S_size S_toList S_app ret_int eq8 ne8 at_data len_data)
open Go.Proofs.YthpnbialpkkpgaaGreatDoor.Sp (hsB spB ret_bool)
open Go.Proofs.YthpnbialpkkpgaaGreatDoor.Utf (chk)
set_option linter.unusedVariables false
def ckB (s : List UInt8) : Bool := decide (chk (S s) = 0)
def lineB (s : List UInt8) : Bool := ckB s && !hsB 10 s && !hsB 13 s
def tgB (s : List UInt8) : Bool := s.isEmpty || (!spB (s.headD 0) && !spB (s.getLastD 0))
def labB (s : List UInt8) : Bool := !s.isEmpty && lineB s && tgB s && !hsB 91 s && !hsB 93 s && !hsB 92 s
def infB (s : List UInt8) : Bool := lineB s && tgB s && !hsB 96 s
theorem drop_all (s : ByteArray) (k : Nat) (h : ¬ k < s.size) : s.data.toList.drop k = [] := List.drop_eq_nil_of_le (by simp; omega)
theorem has_any (s : ByteArray) (c : UInt8) (hs : s.size ≤ 140737488355328) (w : World) :
    Calls Tryz.prog 88 #[.string s, .int .u8 c.toNat] w fun e w' => e = .returned (.bool (hsB c s.data.toList)) ∧ w = w' := by
  have H0 : Hid (hsB c s.data.toList = hsB c (s.data.toList.drop 0)) := Lib.hid (by rw [List.drop_zero])
  obtain ⟨X, hX⟩ : ∃ X, hsB c s.data.toList = X := ⟨_, rfl⟩
  rw [hX] at H0
  rw [hX]
  clear hX
  go_enter Tryz.func88, Tryz.ntmps88
  go_wp2_with fail
  go_loop [5] (fun i => ∃ k : Nat, k ≤ s.size ∧ i = .int .i64 k ∧ Hid (X = hsB c (s.data.toList.drop k))) (fun i => s.size - (intOf i).toNat)
  case atStart => exact ⟨0, Nat.zero_le _, rfl, H0⟩
  case round =>
    clear H0
    obtain ⟨k, hk, rfl, HN⟩ := hrel
    by_cases hlt : k < s.size
    · have hnx := HN.out
      rw [at_data s k hlt] at hnx
      unfold hsB at hnx
      rw [List.any_cons] at hnx
      by_cases hc : s[k] = c
      · have e1 : ((s[k].toNat : Int) == (c.toNat : Int)) = true := eq8 hc
        have HR : Hid (X = true) := Lib.hid (by rw [hnx, decide_eq_true hc]; rfl)
        clear hnx HN hc
        go_wp2_with fail
        go_ret
        exact ⟨ret_bool HR.out.symm, rfl⟩
      · have e1 : ((s[k].toNat : Int) == (c.toNat : Int)) = false := ne8 hc
        have HR : Hid (X = hsB c (s.data.toList.drop (k + 1))) := Lib.hid (by rw [hnx, decide_eq_false hc]; rfl)
        clear hnx HN hc
        go_wp2_with fail
        go_round
        case rel => exact ⟨k + 1, by omega, by go_num, HR⟩
        case measure => simp [intOf]; omega
    · have hnx := HN.out
      rw [drop_all s k hlt] at hnx
      have HR : Hid (X = false) := Lib.hid (by rw [hnx]; rfl)
      clear hnx HN
      go_wp2_with fail
      go_ret
      exact ⟨ret_bool HR.out.symm, rfl⟩
theorem gap_any (c : UInt8) (w : World) :
    Calls Tryz.prog 161 #[.int .u8 c.toNat] w fun e w' => e = .returned (.bool (spB c)) ∧ w = w' := by
  by_cases h1 : c = 9
  · subst h1
    go_enter Tryz.func161, Tryz.ntmps161
    go_wp2_with fail
    go_ret
    exact ⟨rfl, rfl⟩
  · have e1 : ((c.toNat : Int) == 9) = false := ne8 (b := 9) h1
    by_cases h2 : c = 32
    · subst h2
      go_enter Tryz.func161, Tryz.ntmps161
      go_wp2_with fail
      go_ret
      exact ⟨rfl, rfl⟩
    · have e2 : ((c.toNat : Int) == 32) = false := ne8 (b := 32) h2
      have HR : Hid (spB c = false) := Lib.hid (by unfold spB; rw [decide_eq_false h1, decide_eq_false h2]; rfl)
      clear h1 h2
      go_enter Tryz.func161, Tryz.ntmps161
      go_wp2_with fail
      go_ret
      exact ⟨ret_bool HR.out.symm, rfl⟩
theorem head_data (s : ByteArray) (h : 0 < s.size) : s.data.toList.headD 0 = s[0] := by
  have := at_data s 0 h
  rw [List.drop_zero] at this
  rw [this]
  rfl
theorem last_data (s : ByteArray) (h : s.size - 1 < s.size) : s.data.toList.getLastD 0 = s[s.size - 1] := by
  have hl : s.data.toList.getLast? = some s[s.size - 1] := by
    rw [List.getLast?_eq_getElem?, len_data, List.getElem?_eq_getElem (by rw [len_data]; exact h)]
    rfl
  rw [List.getLastD_eq_getLast?, hl]
  rfl
theorem tight_any (s : ByteArray) (hs : s.size ≤ 140737488355328) (w : World) :
    Calls Tryz.prog 130 #[.string s] w fun e w' => e = .returned (.bool (tgB s.data.toList)) ∧ w = w' := by
  have emS : (s.toList == ([] : List UInt8)) = s.data.toList.isEmpty := by rw [Lib.toList_data]; cases s.data.toList <;> rfl
  by_cases h0 : s.size = 0
  · have hn : s.data.toList = [] := List.eq_nil_of_length_eq_zero (by rw [len_data]; exact h0)
    rw [hn] at emS
    have HR : Hid (tgB s.data.toList = true) := Lib.hid (by rw [hn]; rfl)
    clear hn
    obtain ⟨X, hX⟩ : ∃ X, tgB s.data.toList = X := ⟨_, rfl⟩
    rw [hX] at HR ⊢
    clear hX
    go_enter Tryz.func130, Tryz.ntmps130
    go_wp2_with fail
    go_ret
    exact ⟨ret_bool HR.out.symm, rfl⟩
  · have hp : 0 < s.size := by omega
    have hp1 : s.size - 1 < s.size := by omega
    have hne : s.data.toList.isEmpty = false := by
      rw [List.isEmpty_eq_false_iff]
      intro e
      have := congrArg List.length e
      rw [len_data, List.length_nil] at this
      exact h0 this
    rw [hne] at emS
    have HX : Hid (tgB s.data.toList = (!spB s[0] && !spB s[s.size - 1])) := Lib.hid (by
      unfold tgB
      rw [hne, head_data s hp, last_data s hp1]
      rfl)
    obtain ⟨X, hX⟩ : ∃ X, tgB s.data.toList = X := ⟨_, rfl⟩
    rw [hX] at HX ⊢
    have HA := Lib.hid (fun w => gap_any s[0] w)
    have HB := Lib.hid (fun w => gap_any s[s.size - 1] w)
    have z1 : ((s.size : Int) - 1).toNat = s.size - 1 := by omega
    have z2 : (s.size : Int) - 1 = ((s.size - 1 : Nat) : Int) := by omega
    clear hX hne h0
    generalize spB s[0] = a at *
    generalize spB s[s.size - 1] = b at *
    go_enter Tryz.func130, Tryz.ntmps130
    go_wp2_with fail
    refine (HA.out _).mono ?_
    rintro e w1 ⟨rfl, rfl⟩
    clear HA
    cases a with
    | true =>
      go_wp2_with fail
      go_ret
      exact ⟨ret_bool (by rw [HX.out]; simp), rfl⟩
    | false =>
      go_wp2_with fail
      refine (HB.out _).mono ?_
      rintro e w2 ⟨rfl, rfl⟩
      clear HB
      go_wp2_with fail
      go_ret
      exact ⟨ret_bool (by rw [HX.out]; simp), rfl⟩
theorem line_any (s : ByteArray) (hs : s.size ≤ 140737488355328) (w : World) :
    Calls Tryz.prog 90 #[.string s] w fun e w' => e = .returned (.bool (lineB s.data.toList)) ∧ w = w' := by
  have HK := Lib.hid (fun w => Go.Proofs.YthpnbialpkkpgaaGreatDoor.Utf.rcheck_any s hs w)
  have H10 := Lib.hid (fun w => has_any s 10 hs w)
  have H13 := Lib.hid (fun w => has_any s 13 hs w)
  have HX : Hid (lineB s.data.toList = (decide (chk s = 0) && !hsB 10 s.data.toList && !hsB 13 s.data.toList)) := Lib.hid (by unfold lineB ckB; rw [S_of])
  obtain ⟨X, hX⟩ : ∃ X, lineB s.data.toList = X := ⟨_, rfl⟩
  rw [hX] at HX ⊢
  clear hX
  generalize hsB 10 s.data.toList = a at *
  generalize hsB 13 s.data.toList = b at *
  generalize chk s = cv at *
  go_enter Tryz.func90, Tryz.ntmps90
  go_wp2_with fail
  refine (HK.out _).mono ?_
  rintro e w0 ⟨rfl, rfl⟩
  clear HK
  by_cases hc : cv = 0
  · have c1 : (cv == 0) = true := by rw [hc]; rfl
    rw [decide_eq_true hc] at HX
    clear hc
    go_wp2_with fail
    refine (H10.out _).mono ?_
    rintro e w1 ⟨rfl, rfl⟩
    clear H10
    cases a with
    | true =>
      go_wp2_with fail
      go_ret
      exact ⟨ret_bool (by rw [HX.out]; simp), rfl⟩
    | false =>
      go_wp2_with fail
      refine (H13.out _).mono ?_
      rintro e w2 ⟨rfl, rfl⟩
      clear H13
      go_wp2_with fail
      go_ret
      exact ⟨ret_bool (by rw [HX.out]; simp), rfl⟩
  · have c1 : (cv == 0) = false := beq_eq_false_iff_ne.2 hc
    rw [decide_eq_false hc] at HX
    clear hc
    go_wp2_with fail
    go_ret
    exact ⟨ret_bool (by rw [HX.out]; simp), rfl⟩
theorem label_any (s : ByteArray) (hs : s.size ≤ 140737488355328) (w : World) :
    Calls Tryz.prog 92 #[.string s] w fun e w' => e = .returned (.bool (labB s.data.toList)) ∧ w = w' := by
  have emS : (s.toList == ([] : List UInt8)) = s.data.toList.isEmpty := by rw [Lib.toList_data]; cases s.data.toList <;> rfl
  have HL := Lib.hid (fun w => line_any s hs w)
  have HT := Lib.hid (fun w => tight_any s hs w)
  have H91 := Lib.hid (fun w => has_any s 91 hs w)
  have H93 := Lib.hid (fun w => has_any s 93 hs w)
  have H92 := Lib.hid (fun w => has_any s 92 hs w)
  have HX : Hid (labB s.data.toList = (!s.data.toList.isEmpty && lineB s.data.toList && tgB s.data.toList && !hsB 91 s.data.toList && !hsB 93 s.data.toList && !hsB 92 s.data.toList)) := Lib.hid rfl
  obtain ⟨X, hX⟩ : ∃ X, labB s.data.toList = X := ⟨_, rfl⟩
  rw [hX] at HX ⊢
  clear hX
  generalize hsB 91 s.data.toList = b1 at *
  generalize hsB 93 s.data.toList = b3 at *
  generalize hsB 92 s.data.toList = b2 at *
  generalize lineB s.data.toList = bl at *
  generalize tgB s.data.toList = bt at *
  generalize s.data.toList.isEmpty = be at *
  cases be with
  | true =>
    go_enter Tryz.func92, Tryz.ntmps92
    go_wp2_with fail
    go_ret
    exact ⟨ret_bool (by rw [HX.out]; simp), rfl⟩
  | false =>
    go_enter Tryz.func92, Tryz.ntmps92
    go_wp2_with fail
    refine (HL.out _).mono ?_
    rintro e w1 ⟨rfl, rfl⟩
    clear HL
    cases bl with
    | true =>
      go_wp2_with fail
      refine (HT.out _).mono ?_
      rintro e w2 ⟨rfl, rfl⟩
      clear HT
      cases bt with
      | true =>
        go_wp2_with fail
        refine (H91.out _).mono ?_
        rintro e w3 ⟨rfl, rfl⟩
        clear H91
        cases b1 with
        | true =>
          go_wp2_with fail
          go_ret
          exact ⟨ret_bool (by rw [HX.out]; simp), rfl⟩
        | false =>
          go_wp2_with fail
          refine (H93.out _).mono ?_
          rintro e w4 ⟨rfl, rfl⟩
          clear H93
          cases b3 with
          | true =>
            go_wp2_with fail
            go_ret
            exact ⟨ret_bool (by rw [HX.out]; simp), rfl⟩
          | false =>
            go_wp2_with fail
            refine (H92.out _).mono ?_
            rintro e w5 ⟨rfl, rfl⟩
            clear H92
            go_wp2_with fail
            go_ret
            exact ⟨ret_bool (by rw [HX.out]; simp), rfl⟩
      | false =>
        go_wp2_with fail
        go_ret
        exact ⟨ret_bool (by rw [HX.out]; simp), rfl⟩
    | false =>
      go_wp2_with fail
      go_ret
      exact ⟨ret_bool (by rw [HX.out]; simp), rfl⟩
theorem info_any (s : ByteArray) (hs : s.size ≤ 140737488355328) (w : World) :
    Calls Tryz.prog 91 #[.string s] w fun e w' => e = .returned (.bool (infB s.data.toList)) ∧ w = w' := by
  have HL := Lib.hid (fun w => line_any s hs w)
  have HT := Lib.hid (fun w => tight_any s hs w)
  have H96 := Lib.hid (fun w => has_any s 96 hs w)
  have HX : Hid (infB s.data.toList = (lineB s.data.toList && tgB s.data.toList && !hsB 96 s.data.toList)) := Lib.hid rfl
  obtain ⟨X, hX⟩ : ∃ X, infB s.data.toList = X := ⟨_, rfl⟩
  rw [hX] at HX ⊢
  clear hX
  generalize hsB 96 s.data.toList = b1 at *
  generalize lineB s.data.toList = bl at *
  generalize tgB s.data.toList = bt at *
  go_enter Tryz.func91, Tryz.ntmps91
  go_wp2_with fail
  refine (HL.out _).mono ?_
  rintro e w1 ⟨rfl, rfl⟩
  clear HL
  cases bl with
  | true =>
    go_wp2_with fail
    refine (HT.out _).mono ?_
    rintro e w2 ⟨rfl, rfl⟩
    clear HT
    cases bt with
    | true =>
      go_wp2_with fail
      refine (H96.out _).mono ?_
      rintro e w3 ⟨rfl, rfl⟩
      clear H96
      go_wp2_with fail
      go_ret
      exact ⟨ret_bool (by rw [HX.out]; simp), rfl⟩
    | false =>
      go_wp2_with fail
      go_ret
      exact ⟨ret_bool (by rw [HX.out]; simp), rfl⟩
  | false =>
    go_wp2_with fail
    go_ret
    exact ⟨ret_bool (by rw [HX.out]; simp), rfl⟩
end Go.Proofs.YthpnbialpkkpgaaGreatDoor.Bt
namespace Go.Proofs.YthpnbialpkkpgaaGreatDoor.Kd
open Go.Proofs.YthpnbialpkkpgaaGreatDoor.Tk (S S_list S_size)
open Go.Proofs.YthpnbialpkkpgaaGreatDoor.Sp (hsB spB dsB dcB destB alB marksL)
open Go.Proofs.YthpnbialpkkpgaaGreatDoor.Bt (ckB lineB tgB labB)
open Go.Proofs.YthpnbialpkkpgaaGreatDoor.Bk (Tx Env label isDest df define kindOf)
open Go.Proofs.YthpnbialpkkpgaaGreatDoor.Ln (run mx trim dl dr gapB)
set_option linter.unusedVariables false
def E0 : Env := ⟨ckB⟩
theorem hs_con (c : UInt8) (s : Tx) : s.contains c = hsB c s := by
  rw [Bool.eq_iff_iff]
  unfold hsB
  simp
theorem gap_sp (b : UInt8) : Bk.gapB b = spB b := by
  unfold Bk.gapB spB
  rw [Bool.eq_iff_iff]
  simp
theorem gap_ln (b : UInt8) : Bk.gapB b = gapB b := rfl
theorem tight_tg (s : Tx) : Bk.tight s = tgB s := by
  cases s with
  | nil => rfl
  | cons b r =>
    unfold Bk.tight tgB
    rw [List.isEmpty_cons, Bool.false_or, List.headD_cons, List.getLastD_eq_getLast?, List.head?_cons]
    cases hc : (b :: r).getLast? with
    | none => simp at hc
    | some c =>
      have ha : (r.all fun _ => true) = true := by rw [List.all_eq_true]; exact fun _ _ => rfl
      simp [gap_sp, ha]
theorem lab_eq (s : Tx) : label E0 s = labB s := by
  unfold label labB lineB
  rw [tight_tg, hs_con, hs_con, hs_con, hs_con, hs_con]
  have e : decide (s ≠ []) = !s.isEmpty := by cases s <;> simp
  rw [e]
  show (ckB s && _ && _ && _ && _ && _ && _ && _) = _
  generalize ckB s = a
  generalize (!s.isEmpty) = b
  generalize tgB s = c
  generalize hsB 10 s = d
  generalize hsB 13 s = f
  generalize hsB 91 s = g
  generalize hsB 93 s = h
  generalize hsB 92 s = i
  revert a b c d f g h i
  decide
theorem dest_dc (c : UInt8) : destB c = dcB c := by
  unfold destB dcB alB
  have h : ∀ n : Nat, n < 256 → (decide (UInt8.ofNat n ≤ c) = decide ((n : Int) ≤ (c.toNat : Int))) ∧ (decide (c ≤ UInt8.ofNat n) = decide ((c.toNat : Int) ≤ (n : Int))) := fun n hn => by
    have e : (UInt8.ofNat n).toNat = n := by rw [UInt8.toNat_ofNat']; omega
    constructor
    · apply decide_eq_decide.2
      rw [UInt8.le_iff_toNat_le, e]
      omega
    · apply decide_eq_decide.2
      rw [UInt8.le_iff_toNat_le, e]
      omega
  have m : [46, 47, 95, 45, 35, 63, 38, 58, 37].contains c = marksL.any (fun b => decide (c = b)) := by
    rw [Bool.eq_iff_iff, List.contains_iff_mem, List.any_eq_true]
    constructor
    · intro hm; exact ⟨c, hm, by simp⟩
    · rintro ⟨x, hx, he⟩
      have e : c = x := by simpa using he
      rw [e]; exact hx
  rw [m]
  have a1 := (h 97 (by omega)).1
  have a2 := (h 122 (by omega)).2
  have a3 := (h 65 (by omega)).1
  have a4 := (h 90 (by omega)).2
  have a5 := (h 48 (by omega)).1
  have a6 := (h 57 (by omega)).2
  have o97 : (UInt8.ofNat 97) = 97 := rfl
  have o122 : (UInt8.ofNat 122) = 122 := rfl
  have o65 : (UInt8.ofNat 65) = 65 := rfl
  have o90 : (UInt8.ofNat 90) = 90 := rfl
  have o48 : (UInt8.ofNat 48) = 48 := rfl
  have o57 : (UInt8.ofNat 57) = 57 := rfl
  rw [o97] at a1
  rw [o122] at a2
  rw [o65] at a3
  rw [o90] at a4
  rw [o48] at a5
  rw [o57] at a6
  rw [a1, a2, a3, a4, a5, a6]
  rfl
theorem dest_eq (s : Tx) : isDest s = dsB s := by
  unfold isDest dsB
  have e : decide (s ≠ []) = !s.isEmpty := by cases s <;> simp
  rw [e, Bool.and_comm]
  congr 1
  have : destB = dcB := funext dest_dc
  rw [this]
end Go.Proofs.YthpnbialpkkpgaaGreatDoor.Kd
namespace Go.Proofs.YthpnbialpkkpgaaGreatDoor.Pa
open Go.Proofs.YthpnbialpkkpgaaGreatDoor.Bk (Tx Bk Env kindOf define parse joinLF)
open Go.Proofs.YthpnbialpkkpgaaGreatDoor.Ln (run mx trim)
open Go.Proofs.YthpnbialpkkpgaaGreatDoor.Kd (E0)
set_option linter.unusedVariables false
def tot : List Tx → Nat
  | [] => 0
  | s :: l => 1 + s.length + tot l
theorem tot_app : ∀ a b : List Tx, tot (a ++ b) = tot a + tot b
  | [], b => by simp [tot]
  | s :: a, b => by rw [List.cons_append, tot, tot_app a b, tot]; omega
theorem tot_mem : ∀ (l : List Tx) (s : Tx), s ∈ l → 1 + s.length ≤ tot l
  | [], _, h => by cases h
  | x :: l, s, h => by
    rcases List.mem_cons.1 h with rfl | h
    · rw [tot]; omega
    · have := tot_mem l s h; rw [tot]; omega
theorem strip_len (l : Tx) : (Ln.strip l).length ≤ l.length := by
  unfold Ln.strip
  split
  · simp
  · exact Nat.le_refl _
theorem split_tot : ∀ (r cur : Tx), tot (Ln.ls cur r).1 ≤ cur.length + r.length + 1
  | [], cur => by
    unfold Ln.ls
    split
    · simp [tot]
    · simp only [tot, List.length_nil]; omega
  | b :: r, cur => by
    have h1 := split_tot r []
    have h2 := split_tot r (cur ++ [b])
    have h3 := strip_len cur
    unfold Ln.ls
    split
    · simp only [tot, List.length_cons, List.length_nil] at h1 ⊢; omega
    · split
      · simp only [tot, List.length_cons, List.length_nil] at h1 ⊢; omega
      · simp only [List.length_append, List.length_cons, List.length_nil] at h2 ⊢; omega
end Go.Proofs.YthpnbialpkkpgaaGreatDoor.Pa
