/-
  CONTRACTS of the library's Cut at a space, and Itoa of one digit; of digit (html).
-/
import Derived.Test.YtpakjdgddomdjaaDoorHtRefE
import Derived.Test.YtpakjdgddomdjaaDoorShelf
import Derived.Lib.IndexLaws
import Derived.BigQuiet
namespace Go.Proofs.YtpakjdgddomdjaaDoor.Ht
open Go.RowKit
open Go.Proofs.YtpakjdgddomdjaaDoor.Tk (S S_of S_list S_size S_toList S_app len_data ret_int)
open Go.Proofs.YtpakjdgddomdjaaDoor.Bk (Tx)
set_option linter.unusedVariables false

theorem sliceT (x : ByteArray) (k : Nat) (h2 : k ≤ x.size) (w : World) :
    (Instr.slice 9 (.string x) none (some (.int .i64 (k : Int))) none).run Tryd.prog w = .ok (.string (x.extract 0 k)) w := by
  have h4 : (k : Int) ≤ (x.size : Int) := by omega
  have h5 : 0 ≤ (k : Int) := by omega
  go_simp
theorem sliceF (x : ByteArray) (k : Nat) (h2 : k ≤ x.size) (w : World) :
    (Instr.slice 9 (.string x) (some (.int .i64 (k : Int))) none none).run Tryd.prog w = .ok (.string (x.extract k x.size)) w := by
  have h4 : (k : Int) ≤ (x.size : Int) := by omega
  have h5 : 0 ≤ (k : Int) := by omega
  go_simp
/-- What Cut tells of a space: what is ahead, what is behind, and whether there is one. -/
def cuS (s : Tx) : Tx × Tx × Bool := if 0 ≤ Lib.indexByte s 32 then (s.take (Lib.indexByte s 32).toNat, s.drop ((Lib.indexByte s 32).toNat + 1), true) else (s, [], false)
theorem idx_self (c : UInt8) : Lib.indexByte [c] c = 0 := by
  unfold Lib.indexByte
  simp
theorem cuS_wd (t : Tx) : (cuS t).1 = wd t := by
  unfold cuS
  split
  · rename_i h
    obtain ⟨o, ho⟩ : ∃ o : Nat, Lib.indexByte t 32 = o := ⟨(Lib.indexByte t 32).toNat, by omega⟩
    obtain ⟨h1, h2⟩ := Lib.indexByte_some ho
    rw [ho, Int.toNat_natCast]
    have hl : o < t.length := by
      rcases Nat.lt_or_ge o t.length with h | h
      · exact h
      · rw [List.getElem?_eq_none h] at h1; exact absurd h1 (by simp)
    have hg : t[o] = 32 := by rw [List.getElem?_eq_getElem hl] at h1; exact Option.some.inj h1
    have hx : ∀ x ∈ t.take o, x ≠ 32 := by
      intro x hm e
      obtain ⟨k, hk, he⟩ := List.mem_iff_getElem.1 hm
      rw [List.length_take] at hk
      rw [List.getElem_take] at he
      exact h2 k (by omega) (by rw [List.getElem?_eq_getElem (by omega), he, e])
    rw [wd_take t o hx, List.drop_eq_getElem_cons hl, hg]
    show _ = _ ++ (32 :: _).takeWhile (· != 32)
    rw [List.takeWhile_cons, if_neg (by simp), List.append_nil]
  · rename_i h
    have h0 := Lib.indexByte_ge t 32
    have h1 : Lib.indexByte t 32 = -1 := by omega
    have hx : ∀ x ∈ t.take t.length, x ≠ 32 := by
      intro x hm e
      rw [List.take_length] at hm
      obtain ⟨k, hk, he⟩ := List.mem_iff_getElem.1 hm
      exact Lib.indexByte_none h1 k (by rw [List.getElem?_eq_getElem hk, he, e])
    rw [wd_take t _ hx, List.take_length, List.drop_length]
    show t = t ++ []
    rw [List.append_nil]
theorem index1_any (s : ByteArray) (hs : s.size ≤ 140737488355328) (c : UInt8) (w : World) :
    Calls Tryd.prog 47 #[.string s, .string ⟨#[c]⟩] w fun e w' => e = .returned (.int .i64 (Lib.indexByte s.data.toList c)) ∧ w' = w := by
  have HI := Lib.hid (Tryd.stringslite_IndexByte s (c.toNat : Int) w)
  have hc : ((c.toNat : Int)).toNat.toUInt8 = c := by rw [Int.toNat_natCast]; exact UInt8.ofNat_toNat
  rw [hc] at HI
  obtain ⟨X, hX⟩ : ∃ X, Lib.indexByte s.data.toList c = X := ⟨_, rfl⟩
  have hx0 : Hid (((⟨#[c]⟩ : ByteArray).toList == s.toList) = true → X = 0) := Lib.hid (fun h => by
    have h' : (⟨#[c]⟩ : ByteArray).data.toList = s.data.toList := by
      have := eq_of_beq h
      rwa [Lib.toList_data, Lib.toList_data] at this
    rw [← hX, ← h']
    exact idx_self c)
  rw [hX] at HI ⊢
  clear hX hc
  have hl : (⟨#[c]⟩ : ByteArray).toList = [c] := by rw [Lib.toList_data]
  rw [hl] at hx0
  clear hl
  have hg : (⟨#[c]⟩ : ByteArray)[0]'(Nat.zero_lt_one) = c := rfl
  obtain ⟨y, hy⟩ : ∃ y, ([c] == s.toList) = y := ⟨_, rfl⟩
  rw [hy] at hx0
  cases y with
  | true =>
    have HR := Lib.hid (hx0.out rfl)
    clear hx0 HI
    go_enter Tryd.func47, Tryd.ntmps47
    go_wp2_with fail
    go_ret
    exact ⟨ret_int HR.out.symm, rfl⟩
  | false =>
    clear hx0
    go_enter Tryd.func47, Tryd.ntmps47
    go_wp2_with fail
    refine HI.out.mono ?_
    rintro e w2 ⟨rfl, rfl⟩
    go_wp2_with fail
    go_ret
    exact ⟨rfl, rfl⟩
def CutAns (w : World) (p : Tx × Tx × Bool) (e : Ending) (w' : World) : Prop := e = .returned (.tuple #[.string (S p.1), .string (S p.2.1), .bool p.2.2]) ∧ ∃ q, w' = w.drewN q
theorem idx_lt (t : Tx) (h : 0 ≤ Lib.indexByte t 32) : (Lib.indexByte t 32).toNat < t.length := by
  obtain ⟨o, ho⟩ : ∃ o : Nat, Lib.indexByte t 32 = o := ⟨(Lib.indexByte t 32).toNat, by omega⟩
  obtain ⟨h1, _⟩ := Lib.indexByte_some ho
  rw [ho, Int.toNat_natCast]
  rcases Nat.lt_or_ge o t.length with h | h
  · exact h
  · rw [List.getElem?_eq_none h] at h1; exact absurd h1 (by simp)
theorem cutL_any (s : ByteArray) (hs : s.size ≤ 140737488355328) (w : World) :
    Calls Tryd.prog 44 #[.string s, .string ⟨#[32]⟩] w (CutAns w (cuS s.data.toList)) := by
  have HI := Lib.hid (index1_any s hs 32 w)
  have HX : Hid (cuS s.data.toList = if 0 ≤ Lib.indexByte s.data.toList 32 then (s.data.toList.take (Lib.indexByte s.data.toList 32).toNat, s.data.toList.drop ((Lib.indexByte s.data.toList 32).toNat + 1), true) else (s.data.toList, [], false)) := Lib.hid rfl
  have hlt := idx_lt s.data.toList
  rw [len_data] at hlt
  generalize cuS s.data.toList = X at *
  generalize Lib.indexByte s.data.toList 32 = ix at *
  by_cases hi : 0 ≤ ix
  · obtain ⟨k, rfl⟩ : ∃ k : Nat, ix = k := ⟨ix.toNat, by omega⟩
    have hk := hlt hi
    rw [Int.toNat_natCast] at hk
    rw [if_pos hi, Int.toNat_natCast] at HX
    obtain ⟨k1, hk1⟩ : ∃ q, q = k + 1 := ⟨_, rfl⟩
    rw [← hk1] at HX
    have HS1 := Lib.hid (fun w' => sliceT s k (by omega) w')
    have HS2 := Lib.hid (fun w' => sliceF s k1 (by omega) w')
    have e1 : s.extract 0 k = S (s.data.toList.take k) := by rw [ext_S]; rfl
    have e2 : s.extract k1 s.size = S (s.data.toList.drop k1) := by
      rw [ext_S, List.take_of_length_le (by rw [List.length_drop, len_data]; omega)]
    rw [e1] at HS1
    rw [e2] at HS2
    have hw1 : IntKind.i64.wrap ((k : Int) + 1) = (k1 : Int) := by rw [IntKind.wrap_i64]; omega
    have hg1 : decide ((k : Int) ≥ 0) = true := decide_eq_true (by omega)
    have hg2 : decide ((0 : Int) ≤ (k : Int)) = true := decide_eq_true (by omega)
    have s1 := HS1.out
    have s2 := HS2.out
    clear hk1 hk hlt e1 e2 HS1 HS2 hi
    generalize s.data.toList.take k = a1 at *
    generalize s.data.toList.drop k1 = a2 at *
    go_enter Tryd.func44, Tryd.ntmps44
    go_wp2_with fail
    refine HI.out.mono ?_
    rintro e w2 ⟨rfl, rfl⟩
    go_wp2_with fail
    go_quiet (fail)
    go_wp2_with fail
    go_ret3
    exact ⟨by rw [HX.out]; rfl, _, rfl⟩
  · have hg1 : decide (ix ≥ 0) = false := decide_eq_false (by omega)
    have hg2 : decide ((0 : Int) ≤ ix) = false := decide_eq_false (by omega)
    rw [if_neg hi] at HX
    have HSs : Hid (S s.data.toList = s) := Lib.hid (S_of s)
    clear hi hlt
    go_enter Tryd.func44, Tryd.ntmps44
    go_wp2_with fail
    refine HI.out.mono ?_
    rintro e w2 ⟨rfl, rfl⟩
    go_wp2_with fail
    go_ret3
    exact ⟨by rw [HX.out]; show Ending.returned (.tuple #[.string (S s.data.toList), _, _]) = _; rw [HSs.out]; rfl, 0, rfl⟩
theorem cut1_any (s : ByteArray) (hs : s.size ≤ 140737488355328) (w : World) :
    Calls Tryd.prog 41 #[.string s, .string ⟨#[32]⟩] w (CutAns w (cuS s.data.toList)) := by
  have HC := Lib.hid (cutL_any s hs w)
  unfold CutAns at HC
  go_enter Tryd.func41, Tryd.ntmps41
  go_wp2_with fail
  refine HC.out.mono ?_
  rintro e w2 ⟨rfl, q, hq⟩
  have HQ := Lib.hid hq
  clear hq
  go_wp2_with fail
  go_ret3
  exact ⟨rfl, q, HQ.out⟩

/-! One digit. -/
theorem small_any (n : Nat) (h1 : 1 ≤ n) (h9 : n ≤ 9) (w : World) :
    Calls Tryd.prog 48 #[.int .i64 (n : Int)] w fun e w' => e = .returned (.string (S [dg n])) ∧ w = w' := by
  have hsl := fun w' => sliceS ⟨#[48, 49, 50, 51, 52, 53, 54, 55, 56, 57, 97, 98, 99, 100, 101, 102, 103, 104, 105, 106, 107, 108, 109, 110, 111, 112, 113, 114, 115, 116, 117, 118, 119, 120, 121, 122]⟩ n (n + 1) (Nat.le_succ n) (show n + 1 ≤ 36 by omega) w'
  have hx : (⟨#[48, 49, 50, 51, 52, 53, 54, 55, 56, 57, 97, 98, 99, 100, 101, 102, 103, 104, 105, 106, 107, 108, 109, 110, 111, 112, 113, 114, 115, 116, 117, 118, 119, 120, 121, 122]⟩ : ByteArray).extract n (n + 1) = S [dg n] := by
    rw [ext_S]
    congr 1
    match n, h1, h9 with
    | 1, _, _ => rfl
    | 2, _, _ => rfl
    | 3, _, _ => rfl
    | 4, _, _ => rfl
    | 5, _, _ => rfl
    | 6, _, _ => rfl
    | 7, _, _ => rfl
    | 8, _, _ => rfl
    | 9, _, _ => rfl
  rw [hx] at hsl
  have hi1 : (n : Int) < 10 := by omega
  have zz : ((n + 1 : Nat) : Int) = (n : Int) + 1 := by omega
  rw [zz] at hsl
  clear hx zz
  generalize S [dg n] = y at *
  go_enter Tryd.func48, Tryd.ntmps48
  go_wp2_with fail
  go_ret
  exact ⟨rfl, rfl⟩
theorem format_any (n : Nat) (h1 : 1 ≤ n) (h9 : n ≤ 9) (w : World) :
    Calls Tryd.prog 46 #[.int .i64 (n : Int), .int .i64 10] w fun e w' => e = .returned (.string (S [dg n])) ∧ w = w' := by
  have HS := Lib.hid (small_any n h1 h9 w)
  have hi1 : (n : Int) < 100 := by omega
  have hi2 : (0 : Int) ≤ (n : Int) := by omega
  generalize S [dg n] = y at *
  go_enter Tryd.func46, Tryd.ntmps46
  go_wp2_with fail
  refine HS.out.mono ?_
  rintro e w2 ⟨rfl, rfl⟩
  clear HS
  go_wp2_with fail
  go_ret
  exact ⟨rfl, rfl⟩
theorem itoa0_any (n : Nat) (h1 : 1 ≤ n) (h9 : n ≤ 9) (w : World) :
    Calls Tryd.prog 43 #[.int .i64 (n : Int)] w fun e w' => e = .returned (.string (S [dg n])) ∧ w = w' := by
  have HS := Lib.hid (format_any n h1 h9 w)
  generalize S [dg n] = y at *
  go_enter Tryd.func43, Tryd.ntmps43
  go_wp2_with fail
  refine HS.out.mono ?_
  rintro e w2 ⟨rfl, rfl⟩
  clear HS
  go_wp2_with fail
  go_ret
  exact ⟨rfl, rfl⟩
theorem itoa_any (n : Nat) (h1 : 1 ≤ n) (h9 : n ≤ 9) (w : World) :
    Calls Tryd.prog 40 #[.int .i64 (n : Int)] w fun e w' => e = .returned (.string (S [dg n])) ∧ w = w' := by
  have HS := Lib.hid (itoa0_any n h1 h9 w)
  generalize S [dg n] = y at *
  go_enter Tryd.func40, Tryd.ntmps40
  go_wp2_with fail
  refine HS.out.mono ?_
  rintro e w2 ⟨rfl, rfl⟩
  clear HS
  go_wp2_with fail
  go_ret
  exact ⟨rfl, rfl⟩
theorem digit_any (lv : Int) (w : World) :
    Calls Tryd.prog 32 #[.int .i64 lv] w fun e w' => e = .returned (.string (S [dg lv])) ∧ w = w' := by
  by_cases h1 : lv < 1
  · have hd : S [dg lv] = ⟨#[48]⟩ := by unfold dg; rw [if_neg (by omega)]; rfl
    rw [hd]
    clear hd
    go_enter Tryd.func32, Tryd.ntmps32
    go_wp2_with fail
    go_ret
    exact ⟨rfl, rfl⟩
  by_cases h9 : lv > 9
  · have hd : S [dg lv] = ⟨#[48]⟩ := by unfold dg; rw [if_neg (by omega)]; rfl
    rw [hd]
    clear hd
    go_enter Tryd.func32, Tryd.ntmps32
    go_wp2_with fail
    go_ret
    exact ⟨rfl, rfl⟩
  obtain ⟨n, rfl⟩ : ∃ n : Nat, lv = n := ⟨lv.toNat, by omega⟩
  have HS := Lib.hid (itoa_any n (by omega) (by omega) w)
  generalize S [dg (n : Int)] = y at *
  go_enter Tryd.func32, Tryd.ntmps32
  go_wp2_with fail
  refine HS.out.mono ?_
  rintro e w2 ⟨rfl, rfl⟩
  clear HS
  go_wp2_with fail
  go_ret
  exact ⟨rfl, rfl⟩
end Go.Proofs.YtpakjdgddomdjaaDoor.Ht
