/-
  Several texts in one:
  CONTRACTS of the document's gap, Clean (emendationref08).
  READING SPANS, in plain words: a text without the bytes that mean something; one with all of them escaped. No program.
  READING SPANS, in plain words: how much is read; what spans read stands in the text, in order. No program.
-/
import Derived.Test.YtjgmfgnfdaeelaaGreatDoorPkD
import Derived.Test.YtjgmfgnfdaeelaaGreatDoorPkC
import Derived.Test.YtjgmfgnfdaeelaaGreatDoorPkB
namespace Go.Proofs.YtjgmfgnfdaeelaaGreatDoor.Sp
open Go.RowKit
open Go.Proofs.YtjgmfgnfdaeelaaGreatDoor.Tk (S S_of S_list S_size S_toList S_app ret_int eq8 ne8 at_data len_data)
open Go.Proofs.YtjgmfgnfdaeelaaGreatDoor.Cm (calls_at)
open Go.Proofs.YtjgmfgnfdaeelaaGreatDoor.Utf (chk)
set_option linter.unusedVariables false

theorem rgap8_any (c : UInt8) (w : World) :
    Calls Tryz.prog 33 #[.int .u8 c.toNat] w fun e w' => e = .returned (.bool (edB c)) ∧ w = w' := by
  by_cases h9 : c = 9
  · subst h9
    go_enter Tryz.func33, Tryz.ntmps33
    go_wp2_with fail
    go_ret
    exact ⟨rfl, rfl⟩
  · have e9 : ((c.toNat : Int) == 9) = false := ne8 (b := 9) h9
    by_cases h32 : c = 32
    · subst h32
      clear h9 e9
      go_enter Tryz.func33, Tryz.ntmps33
      go_wp2_with fail
      go_ret
      exact ⟨rfl, rfl⟩
    · have e32 : ((c.toNat : Int) == 32) = false := ne8 (b := 32) h32
      by_cases h10 : c = 10
      · subst h10
        clear h9 e9 h32 e32
        go_enter Tryz.func33, Tryz.ntmps33
        go_wp2_with fail
        go_ret
        exact ⟨rfl, rfl⟩
      · have e10 : ((c.toNat : Int) == 10) = false := ne8 (b := 10) h10
        have HR : Hid (edB c = false) := Lib.hid (by unfold edB spB; rw [decide_eq_false h9, decide_eq_false h32, decide_eq_false h10]; rfl)
        clear h9 h32 h10
        go_enter Tryz.func33, Tryz.ntmps33
        go_wp2_with fail
        go_ret
        exact ⟨ret_bool HR.out.symm, rfl⟩

/-- Is it bad at a place: a CR, a gap at an end, an LF beside a gap? -/
def badI (s : ByteArray) (k : Nat) : Bool :=
  if h : k < s.size then
    s[k] == 13 || ((k == 0 || k == s.size - 1) && edB s[k]) || (decide (0 < k) && ((s[k] == 10 && edB (s[k - 1]'(by omega))) || (s[k - 1]'(by omega) == 10 && edB s[k])))
  else false
/-- Is it one of lines as paragraphs have them? -/
def clnB (s : ByteArray) : Bool := decide (chk s = 0) && (List.range s.size).all (fun k => !badI s k)
def okTo (s : ByteArray) (k : Nat) : Bool := (List.range k).all (fun k => !badI s k)
theorem okTo_succ (s : ByteArray) (k : Nat) : okTo s (k + 1) = (okTo s k && !badI s k) := by
  unfold okTo
  rw [List.range_succ, List.all_append]
  simp
theorem okTo_bad {s : ByteArray} {k n : Nat} (h : badI s k = true) (hk : k < n) : okTo s n = false := by
  unfold okTo
  rw [List.all_eq_false]
  exact ⟨k, List.mem_range.2 hk, by simp [h]⟩

set_option maxHeartbeats 6400000 in
theorem rclean_any (s : ByteArray) (hs : s.size ≤ 140737488355328) (w : World) :
    Calls Tryz.prog 18 #[.string s] w fun e w' => e = .returned (.bool (clnB s)) ∧ w = w' := by
  have HC := Lib.hid (Go.Proofs.YtjgmfgnfdaeelaaGreatDoor.Utf.rcheck_any s hs w)
  have HG := Lib.hid (fun c w => rgap8_any c w)
  have HX : Hid (clnB s = (decide (chk s = 0) && okTo s s.size)) := Lib.hid rfl
  obtain ⟨X, hX⟩ : ∃ X, clnB s = X := ⟨_, rfl⟩
  rw [hX] at HX
  rw [hX]
  clear hX
  by_cases hck : chk s = 0
  · rw [decide_eq_true hck, Bool.true_and] at HX
    have c0 : (chk s != 0) = false := by rw [hck]; rfl
    clear hck
    generalize chk s = cv at *
    go_enter Tryz.func18, Tryz.ntmps18
    go_wp2_with fail
    refine HC.out.mono ?_
    rintro e1 w1 ⟨rfl, rfl⟩
    clear HC
    go_wp2_with fail
    go_loop [3] (fun i => ∃ k : Nat, k ≤ s.size ∧ i = .int .i64 k ∧ Hid (okTo s k = true)) (fun i => s.size - (intOf i).toNat)
    case atStart => exact ⟨0, Nat.zero_le _, rfl, Lib.hid rfl⟩
    case round =>
      obtain ⟨k, hk, rfl, HOk⟩ := hrel
      by_cases hlt : k < s.size
      · have hi1 : (k : Int) < (s.size : Int) := by omega
        have HF := Lib.hid (fun h => okTo_bad (s := s) (k := k) (n := s.size) h hlt)
        have HS := Lib.hid (fun c => HG.out c w)
        have HGa := Lib.hid (HG.out s[k] w)
        by_cases h13 : s[k] = 13
        · have e13 : ((s[k].toNat : Int) == 13) = true := eq8 (b := 13) h13
          have HR : Hid (X = false) := Lib.hid (by rw [HX.out, HF.out (by unfold badI; rw [dif_pos hlt]; rw [h13]; try rfl)]; try simp)
          clear HX HF HS
          go_wp2_with fail
          go_ret
          exact ⟨ret_bool HR.out.symm, rfl⟩
        · have e13 : ((s[k].toNat : Int) == 13) = false := ne8 (b := 13) h13
          have b13 : (s[k] == 13) = false := beq_eq_false_iff_ne.2 h13
          by_cases hk0 : k = 0
          · subst hk0
            have n0 : (((0 : Nat) : Int) == 0) = true := rfl
            cases hg : edB (s[0]'hlt) with
            | true =>
              rw [hg] at HGa
              have HR : Hid (X = false) := Lib.hid (by rw [HX.out, HF.out (by unfold badI; rw [dif_pos hlt]; rw [b13, hg]; try simp)]; try simp)
              clear HX HF HS
              go_wp2_with fail
              refine HGa.out.mono ?_
              rintro eHGa wHGa ⟨rfl, rfl⟩
              clear HGa
              go_wp2_with fail
              go_ret
              exact ⟨ret_bool HR.out.symm, rfl⟩
            | false =>
              rw [hg] at HGa
              have HR : Hid (okTo s (0 + 1) = true) := Lib.hid (by rw [okTo_succ, HOk.out]; simp only [Bool.true_and, Bool.not_eq_true']; unfold badI; rw [dif_pos hlt]; rw [b13, hg]; try simp)
              clear HX HF HS HOk
              go_wp2_with fail
              refine HGa.out.mono ?_
              rintro eHGa wHGa ⟨rfl, rfl⟩
              clear HGa
              go_wp2_with fail
              go_round
              case rel => exact ⟨0 + 1, by omega, by go_num, HR⟩
              case measure => simp [intOf]; omega
          · have n0 : ((k : Int) == 0) = false := by rw [beq_eq_false_iff_ne]; omega
            have hk1 : k - 1 < s.size := by omega
            have hi0 : 0 < (k : Int) := by omega
            have hi2 : 1 ≤ (k : Int) := by omega
            have b0 : (k == 0) = false := beq_eq_false_iff_ne.2 hk0
            have HGp := Lib.hid (HG.out (s[k - 1]'hk1) w)
            have d0 : decide (0 < k) = true := decide_eq_true (by omega)
            by_cases hkl : k = s.size - 1
            · have nl : ((k : Int) == (s.size : Int) - 1) = true := by rw [beq_iff_eq]; omega
              have bl : (k == s.size - 1) = true := by rw [beq_iff_eq]; exact hkl
              clear hkl
              cases hg : edB s[k] with
              | true =>
                rw [hg] at HGa
                have HR : Hid (X = false) := Lib.hid (by rw [HX.out, HF.out (by unfold badI; rw [dif_pos hlt]; rw [b13, hg, bl]; try simp)]; try simp)
                clear HX HF HS
                go_wp2_with fail
                refine HGa.out.mono ?_
                rintro eHGa wHGa ⟨rfl, rfl⟩
                clear HGa
                go_wp2_with fail
                go_ret
                exact ⟨ret_bool HR.out.symm, rfl⟩
              | false =>
                rw [hg] at HGa
                have a10 : s[k] ≠ 10 := fun e => by rw [e] at hg; revert hg; decide
                have e10 : ((s[k].toNat : Int) == 10) = false := ne8 (b := 10) a10
                have b10 : (s[k] == 10) = false := beq_eq_false_iff_ne.2 a10
                by_cases p10 : s[k - 1]'hk1 = 10
                · have ep : (((s[k - 1]'hk1).toNat : Int) == 10) = true := eq8 (b := 10) p10
                  have HR : Hid (okTo s (k + 1) = true) := Lib.hid (by rw [okTo_succ, HOk.out]; simp only [Bool.true_and, Bool.not_eq_true']; unfold badI; rw [dif_pos hlt]; rw [b13, hg, b10]; try simp)
                  have HGb := Lib.hid HGa.out
                  clear HX HF HS HOk a10 p10 hg b13 b10 b0 bl d0
                  go_wp2_with fail
                  refine HGa.out.mono ?_
                  rintro eHGa wHGa ⟨rfl, rfl⟩
                  clear HGa
                  go_wp2_with fail
                  refine HGb.out.mono ?_
                  rintro eHGb wHGb ⟨rfl, rfl⟩
                  clear HGb
                  go_wp2_with fail
                  go_round
                  case rel => exact ⟨k + 1, by omega, by go_num, HR⟩
                  case measure => simp [intOf]; omega
                · have ep : (((s[k - 1]'hk1).toNat : Int) == 10) = false := ne8 (b := 10) p10
                  have bp : ((s[k - 1]'hk1) == 10) = false := beq_eq_false_iff_ne.2 p10
                  have HR : Hid (okTo s (k + 1) = true) := Lib.hid (by rw [okTo_succ, HOk.out]; simp only [Bool.true_and, Bool.not_eq_true']; unfold badI; rw [dif_pos hlt]; rw [b13, hg, b10, bp]; try simp)
                  clear HX HF HS HOk
                  go_wp2_with fail
                  refine HGa.out.mono ?_
                  rintro eHGa wHGa ⟨rfl, rfl⟩
                  clear HGa
                  go_wp2_with fail
                  go_round
                  case rel => exact ⟨k + 1, by omega, by go_num, HR⟩
                  case measure => simp [intOf]; omega
            · have nl : ((k : Int) == (s.size : Int) - 1) = false := by rw [beq_eq_false_iff_ne]; omega
              have bl : (k == s.size - 1) = false := beq_eq_false_iff_ne.2 hkl
              by_cases a10 : s[k] = 10
              · have e10 : ((s[k].toNat : Int) == 10) = true := eq8 (b := 10) a10
                have b10 : (s[k] == 10) = true := beq_iff_eq.2 a10
                cases hg : edB (s[k - 1]'hk1) with
                | true =>
                  rw [hg] at HGp
                  have HR : Hid (X = false) := Lib.hid (by rw [HX.out, HF.out (by unfold badI; rw [dif_pos hlt]; rw [b10, hg, d0]; try simp)]; try simp)
                  clear HX HF HS
                  go_wp2_with fail
                  refine HGp.out.mono ?_
                  rintro eHGp wHGp ⟨rfl, rfl⟩
                  clear HGp
                  go_wp2_with fail
                  go_ret
                  exact ⟨ret_bool HR.out.symm, rfl⟩
                | false =>
                  rw [hg] at HGp
                  have p10 : (s[k - 1]'hk1) ≠ 10 := fun e => by rw [e] at hg; revert hg; decide
                  have ep : (((s[k - 1]'hk1).toNat : Int) == 10) = false := ne8 (b := 10) p10
                  have bp : ((s[k - 1]'hk1) == 10) = false := beq_eq_false_iff_ne.2 p10
                  have HR : Hid (okTo s (k + 1) = true) := Lib.hid (by rw [okTo_succ, HOk.out]; simp only [Bool.true_and, Bool.not_eq_true']; unfold badI; rw [dif_pos hlt]; rw [b13, hg, bp, b0, bl]; try simp)
                  clear HX HF HS HOk
                  go_wp2_with fail
                  refine HGp.out.mono ?_
                  rintro eHGp wHGp ⟨rfl, rfl⟩
                  clear HGp
                  go_wp2_with fail
                  go_round
                  case rel => exact ⟨k + 1, by omega, by go_num, HR⟩
                  case measure => simp [intOf]; omega
              · have e10 : ((s[k].toNat : Int) == 10) = false := ne8 (b := 10) a10
                have b10 : (s[k] == 10) = false := beq_eq_false_iff_ne.2 a10
                by_cases p10 : s[k - 1]'hk1 = 10
                · have ep : (((s[k - 1]'hk1).toNat : Int) == 10) = true := eq8 (b := 10) p10
                  have bp : ((s[k - 1]'hk1) == 10) = true := beq_iff_eq.2 p10
                  cases hg : edB s[k] with
                  | true =>
                    rw [hg] at HGa
                    have HR : Hid (X = false) := Lib.hid (by rw [HX.out, HF.out (by unfold badI; rw [dif_pos hlt]; rw [bp, hg, d0]; try simp)]; try simp)
                    clear HX HF HS
                    go_wp2_with fail
                    refine HGa.out.mono ?_
                    rintro eHGa wHGa ⟨rfl, rfl⟩
                    clear HGa
                    go_wp2_with fail
                    go_ret
                    exact ⟨ret_bool HR.out.symm, rfl⟩
                  | false =>
                    rw [hg] at HGa
                    have HR : Hid (okTo s (k + 1) = true) := Lib.hid (by rw [okTo_succ, HOk.out]; simp only [Bool.true_and, Bool.not_eq_true']; unfold badI; rw [dif_pos hlt]; rw [b13, hg, b10]; try simp)
                    clear HX HF HS HOk
                    go_wp2_with fail
                    refine HGa.out.mono ?_
                    rintro eHGa wHGa ⟨rfl, rfl⟩
                    clear HGa
                    go_wp2_with fail
                    go_round
                    case rel => exact ⟨k + 1, by omega, by go_num, HR⟩
                    case measure => simp [intOf]; omega
                · have ep : (((s[k - 1]'hk1).toNat : Int) == 10) = false := ne8 (b := 10) p10
                  have bp : ((s[k - 1]'hk1) == 10) = false := beq_eq_false_iff_ne.2 p10
                  have HR : Hid (okTo s (k + 1) = true) := Lib.hid (by rw [okTo_succ, HOk.out]; simp only [Bool.true_and, Bool.not_eq_true']; unfold badI; rw [dif_pos hlt]; rw [b13, b10, bp, b0, bl]; try simp)
                  clear HX HF HS HOk
                  go_wp2_with fail
                  go_round
                  case rel => exact ⟨k + 1, by omega, by go_num, HR⟩
                  case measure => simp [intOf]; omega
      · obtain rfl : k = s.size := by omega
        have HR : Hid (X = true) := Lib.hid (by rw [HX.out]; exact HOk.out)
        clear HX HOk hlt
        go_wp2_with fail
        go_ret
        exact ⟨ret_bool HR.out.symm, rfl⟩
  · rw [decide_eq_false hck, Bool.false_and] at HX
    have c0 : (chk s != 0) = true := by rw [bne_iff_ne]; exact hck
    have HR : Hid (X = false) := HX
    clear hck
    generalize chk s = cv at *
    go_enter Tryz.func18, Tryz.ntmps18
    go_wp2_with fail
    refine HC.out.mono ?_
    rintro e1 w1 ⟨rfl, rfl⟩
    clear HC
    go_wp2_with fail
    go_ret
    exact ⟨ret_bool HR.out.symm, rfl⟩

end Go.Proofs.YtjgmfgnfdaeelaaGreatDoor.Sp

namespace Go.Proofs.YtjgmfgnfdaeelaaGreatDoor.Sp
open Go.Proofs.YtjgmfgnfdaeelaaGreatDoor.Tk (cls at_data len_data)
set_option linter.unusedVariables false

def spcB (c : UInt8) : Bool := decide (c = 92) || decide (c = 42) || decide (c = 91) || decide (c = 93) || decide (c = 96)
def noSp (l : List UInt8) : List UInt8 := l.filter (fun c => !spcB c)
def escA (l : List UInt8) : List UInt8 := l.flatMap (fun c => if cls c = 4 then [92, c] else [c])
theorem spc_no {c : UInt8} (h : spcB c = false) : c ≠ 92 ∧ c ≠ 42 ∧ c ≠ 91 ∧ c ≠ 93 ∧ c ≠ 96 := by
  unfold spcB at h
  simp only [Bool.or_eq_false_iff, decide_eq_false_iff_not] at h
  exact ⟨h.1.1.1.1, h.1.1.1.2, h.1.1.2, h.1.2, h.2⟩
theorem stp_plain {e l : Bool} {c : UInt8} (h : spcB c = false) (r : List UInt8) : stp e l c r = .text [c] r := by
  obtain ⟨h1, h2, h3, h4, h5⟩ := spc_no h
  unfold stp stepOf
  rw [if_neg (by rintro (⟨h, _⟩ | ⟨h, _⟩); exact h2 h; exact h4 h), if_neg (fun h => h1 h.1), if_neg h5, if_neg h2, if_neg (fun h => h3 h.1)]
theorem cls_spc {c : UInt8} (h : cls c ≠ 4) : spcB c = false := by
  cases hs : spcB c with
  | false => rfl
  | true =>
    exfalso
    unfold spcB at hs
    simp only [Bool.or_eq_true, decide_eq_true_eq] at hs
    rcases hs with (((rfl | rfl) | rfl) | rfl) | rfl <;> exact h (by decide)
def oneT (t : List UInt8) : List Sp := if t = [] then [] else [.mk 1 t []]
theorem oneT_cons (c : UInt8) (r : List UInt8) : consT [c] (oneT r) = oneT (c :: r) := by
  cases r with
  | nil => rfl
  | cons d r => rfl
theorem Rdr_noSp (e l : Bool) : ∀ t : List UInt8, (∀ c ∈ t, spcB c = false) → (Rdr e l t).1 = oneT t
  | [], _ => rfl
  | c :: r, h => by
    rw [Rdr_cons, stp_plain (h c (List.mem_cons_self ..))]
    show consT [c] (Rdr e l r).1 = _
    rw [Rdr_noSp e l r (fun x hx => h x (List.mem_cons_of_mem _ hx)), oneT_cons]
theorem noSp_all (t : List UInt8) : ∀ c ∈ noSp t, spcB c = false := fun c hc => by
  have := (List.mem_filter.1 hc).2
  simpa using this
theorem Rdr_escA (e l : Bool) : ∀ t : List UInt8, (Rdr e l (escA t)).1 = oneT t
  | [] => rfl
  | c :: r => by
    have ih := Rdr_escA e l r
    have he : escA (c :: r) = (if cls c = 4 then [92, c] else [c]) ++ escA r := by unfold escA; rw [List.flatMap_cons]
    rw [he]
    by_cases h : cls c = 4
    · rw [if_pos h]
      show (Rdr e l (92 :: (c :: escA r))).1 = _
      have hs : stp e l 92 (c :: escA r) = .text [c] (escA r) := by
        unfold stp stepOf
        rw [if_neg (by rintro (⟨h, _⟩ | ⟨h, _⟩) <;> exact absurd h (by decide)), if_pos ⟨rfl, by simp [h]⟩]
        rfl
      rw [Rdr_cons, hs]
      show consT [c] (Rdr e l (escA r)).1 = _
      rw [ih, oneT_cons]
    · rw [if_neg h]
      show (Rdr e l (c :: escA r)).1 = _
      rw [Rdr_cons, stp_plain (cls_spc h)]
      show consT [c] (Rdr e l (escA r)).1 = _
      rw [ih, oneT_cons]
theorem noSp_snoc (l : List UInt8) (c : UInt8) : noSp (l ++ [c]) = noSp l ++ (if spcB c = true then [] else [c]) := by
  unfold noSp
  rw [List.filter_append]
  cases h : spcB c <;> simp [h]
theorem escA_snoc (l : List UInt8) (c : UInt8) : escA (l ++ [c]) = escA l ++ (if cls c = 4 then [92, c] else [c]) := by
  unfold escA
  rw [List.flatMap_append]
  simp
theorem noSp_len (l : List UInt8) : (noSp l).length ≤ l.length := List.length_filter_le _ _
theorem escA_len : ∀ l : List UInt8, (escA l).length ≤ 2 * l.length
  | [] => Nat.le_refl _
  | c :: r => by
    have ih := escA_len r
    have he : escA (c :: r) = (if cls c = 4 then [92, c] else [c]) ++ escA r := by unfold escA; rw [List.flatMap_cons]
    rw [he, List.length_append, List.length_cons]
    split <;> simp <;> omega
theorem take_snoc (s : ByteArray) (k : Nat) (h : k < s.size) : s.data.toList.take (k + 1) = s.data.toList.take k ++ [s[k]] := by
  rw [List.take_add, at_data s k h]
  rfl
theorem cls4_iff (c : UInt8) : cls c = 4 ↔ (33 ≤ (c.toNat : Int) ∧ (c.toNat : Int) ≤ 47) ∨ (58 ≤ (c.toNat : Int) ∧ (c.toNat : Int) ≤ 64) ∨ (91 ≤ (c.toNat : Int) ∧ (c.toNat : Int) ≤ 96) ∨ (123 ≤ (c.toNat : Int) ∧ (c.toNat : Int) ≤ 126) := by
  unfold cls
  have e : ∀ d : UInt8, (c = d ↔ (c.toNat : Int) = d.toNat) := fun d => ⟨fun h => by rw [h], fun h => UInt8.toNat_inj.1 (by omega)⟩
  have l : ∀ d : UInt8, (c ≤ d ↔ (c.toNat : Int) ≤ d.toNat) := fun d => by rw [UInt8.le_iff_toNat_le]; omega
  have g : ∀ d : UInt8, (d ≤ c ↔ (d.toNat : Int) ≤ c.toNat) := fun d => by rw [UInt8.le_iff_toNat_le]; omega
  simp only [e, l, g]
  generalize (c.toNat : Int) = x
  show (if x = 10 ∨ x = 13 then (3 : Nat) else if x = 9 ∨ x = 32 then 2 else if (33 ≤ x ∧ x ≤ 47) ∨ (58 ≤ x ∧ x ≤ 64) ∨ (91 ≤ x ∧ x ≤ 96) ∨ (123 ≤ x ∧ x ≤ 126) then 4 else 1) = 4 ↔ _
  constructor
  · intro h
    split at h
    · cases h
    · split at h
      · cases h
      · split at h
        · assumption
        · cases h
  · intro h
    rw [if_neg (by omega), if_neg (by omega), if_pos h]

end Go.Proofs.YtjgmfgnfdaeelaaGreatDoor.Sp

namespace Go.Proofs.YtjgmfgnfdaeelaaGreatDoor.Sp
open Go.Proofs.YtjgmfgnfdaeelaaGreatDoor.Tk (cls at_data len_data)
set_option linter.unusedVariables false

theorem plOne_mk (q : Int) (s : List UInt8) (l : List Sp) : plOne (.mk q s l) = (if q = 1 ∨ q = 2 then s else []) ++ plAll l := plOne_eq _
theorem totOne_mk (q : Int) (s : List UInt8) (l : List Sp) : totOne (.mk q s l) = 1 + s.length + totAll l := totOne_eq _
theorem pl_consT (a : List UInt8) : ∀ R : List Sp, plAll (consT a R) = a ++ plAll R
  | [] => by rw [consT, plAll_cons, plOne_mk, if_pos (Or.inl rfl)]; simp [plAll]
  | .mk k t kids :: r => by
    show plAll (if k = 1 then .mk 1 (a ++ t) kids :: r else .mk 1 a [] :: .mk k t kids :: r) = _
    split
    · rename_i hk
      subst hk
      rw [plAll_cons, plAll_cons, plOne_mk, plOne_mk, if_pos (Or.inl rfl), if_pos (Or.inl rfl)]
      simp
    · rw [plAll_cons, plOne_mk, if_pos (Or.inl rfl)]
      simp [plAll]
theorem tot_consT (a : List UInt8) : ∀ R : List Sp, totAll (consT a R) ≤ 1 + a.length + totAll R
  | [] => by rw [consT, totAll_cons, totOne_mk]; simp [totAll]
  | .mk k t kids :: r => by
    show totAll (if k = 1 then .mk 1 (a ++ t) kids :: r else .mk 1 a [] :: .mk k t kids :: r) ≤ _
    split
    · rename_i hk
      rw [totAll_cons, totAll_cons, totOne_mk, totOne_mk, List.length_append]
      omega
    · rw [totAll_cons, totOne_mk]
      simp [totAll]
theorem strip_sub (x : List UInt8) : (strip x).Sublist x := by
  unfold strip
  split
  · exact (List.dropLast_sublist _).trans (List.tail_sublist _)
  · exact List.Sublist.refl _
def Meas (L : List Sp) (t' t : List UInt8) : Prop := totAll L + 2 * t'.length ≤ 2 * t.length ∧ (plAll L ++ t').Sublist t
theorem stepOf_meas (rec : Bool → Bool → List UInt8 → List Sp × List UInt8) (hrec : ∀ e l t, Meas (rec e l t).1 (rec e l t).2 t) (e l : Bool) (c : UInt8) (r : List UInt8) :
    (∀ a t', stepOf rec e l c r = .text a t' → 1 + a.length + 2 * t'.length ≤ 2 * (c :: r).length ∧ (a ++ t').Sublist (c :: r)) ∧ (∀ x t', stepOf rec e l c r = .span x t' → totOne x + 2 * t'.length ≤ 2 * (c :: r).length ∧ (plOne x ++ t').Sublist (c :: r)) := by
  unfold stepOf
  split
  · exact ⟨fun a t' h => (by cases h), fun x t' h => (by cases h)⟩
  · split
    · rename_i hn he
      refine ⟨fun a t' h => ?_, fun x t' h => (by cases h)⟩
      simp only [Stp.text.injEq] at h
      obtain ⟨rfl, rfl⟩ := h
      cases r with
      | nil => simp at he
      | cons d r =>
        refine ⟨by simp; omega, ?_⟩
        show ([d] ++ r).Sublist _
        exact List.Sublist.cons _ (List.Sublist.refl _)
    · split
      · rename_i hc
        subst hc
        have hp := ticks_pos (r := r) rfl
        have hle := ticks_le (96 :: r)
        have htk := List.take_append_drop (ticks (96 :: r)) (96 :: r)
        rw [ticks_take] at htk
        cases hcode : code (ticks (96 :: r)) (96 :: r).length [] ((96 :: r).drop (ticks (96 :: r))) with
        | none =>
          refine ⟨fun a t' h => ?_, fun x t' h => (by cases h)⟩
          simp only [Stp.text.injEq] at h
          obtain ⟨rfl, rfl⟩ := h
          refine ⟨?_, by rw [htk]; exact List.Sublist.refl _⟩
          rw [List.length_drop, List.length_replicate]
          rw [List.length_cons] at hle ⊢
          omega
        | some q =>
          obtain ⟨x, t1⟩ := q
          refine ⟨fun a t' h => (by cases h), fun y t' h => ?_⟩
          simp only [Stp.span.injEq] at h
          obtain ⟨rfl, rfl⟩ := h
          have h1 := code_len _ hp hcode
          have h2 := strip_len x
          obtain ⟨_, _, y, h3, h4, h5⟩ := code_some _ hp _ _ _ _ _ hcode
          rw [List.nil_append] at h3
          subst h3
          rw [List.length_drop, List.length_cons] at h1
          rw [List.length_cons] at hle
          refine ⟨?_, ?_⟩
          · rw [totOne_mk, List.length_cons]
            simp only [totAll]
            omega
          · rw [plOne_mk, if_pos (Or.inr rfl)]
            conv => rhs; rw [← htk, h4]
            refine List.Sublist.trans ?_ (List.sublist_append_right _ _)
            simp only [plAll, List.append_nil]
            exact List.Sublist.append (strip_sub x) (List.sublist_append_right _ _)
      · have hplain : (∀ a t', (Stp.text [c] r) = .text a t' → 1 + a.length + 2 * t'.length ≤ 2 * (c :: r).length ∧ (a ++ t').Sublist (c :: r)) ∧ (∀ x t', (Stp.text [c] r) = .span x t' → totOne x + 2 * t'.length ≤ 2 * (c :: r).length ∧ (plOne x ++ t').Sublist (c :: r)) := by
          refine ⟨fun a t' h => ?_, fun x t' h => (by cases h)⟩
          simp only [Stp.text.injEq] at h
          obtain ⟨rfl, rfl⟩ := h
          exact ⟨by simp; omega, List.Sublist.refl _⟩
        split
        · split
          · rename_i k kids t1 hr
            obtain ⟨m1, m2⟩ := hrec true l r
            rw [hr] at m1 m2
            refine ⟨fun a t' h => (by cases h), fun y t' h => ?_⟩
            simp only [Stp.span.injEq] at h
            obtain ⟨rfl, rfl⟩ := h
            simp only [List.length_cons] at m1 m2
            refine ⟨?_, ?_⟩
            · rw [totOne_mk, List.length_cons]
              simp only [List.length_nil]
              omega
            · rw [plOne_mk, if_neg (by decide), List.nil_append]
              refine List.Sublist.cons _ (List.Sublist.trans ?_ m2)
              exact List.Sublist.append (List.Sublist.refl _) (List.Sublist.cons _ (List.Sublist.refl _))
          · exact hplain
        · split
          · split
            · rename_i k kids t1 hr
              obtain ⟨m1, m2⟩ := hrec e true r
              rw [hr] at m1 m2
              cases hd : dest t1 with
              | none => exact hplain
              | some q =>
                obtain ⟨d, t2⟩ := q
                obtain ⟨d1, d2, d3⟩ := dest_some hd
                refine ⟨fun a t' h => (by cases h), fun y t' h => ?_⟩
                simp only [Stp.span.injEq] at h
                obtain ⟨rfl, rfl⟩ := h
                have hl := congrArg List.length d3
                simp only [List.length_cons, List.length_append] at m1 m2 hl
                refine ⟨?_, ?_⟩
                · rw [totOne_mk, List.length_cons]
                  omega
                · rw [plOne_mk, if_neg (by decide), List.nil_append]
                  refine List.Sublist.cons _ (List.Sublist.trans ?_ m2)
                  refine List.Sublist.append (List.Sublist.refl _) ?_
                  rw [d3]
                  refine List.Sublist.cons _ (List.Sublist.cons _ ?_)
                  refine List.Sublist.trans ?_ (List.sublist_append_right _ _)
                  exact List.Sublist.cons _ (List.Sublist.refl _)
            · exact hplain
          · exact hplain
theorem read_meas : ∀ (f : Nat) (e l : Bool) (t : List UInt8), Meas (read f e l t).1 (read f e l t).2 t
  | 0, e, l, t => ⟨by show totAll [] + _ ≤ _; simp [totAll, read], by show (plAll [] ++ _).Sublist _; simp [plAll, read]⟩
  | f + 1, e, l, [] => ⟨by show totAll [] + _ ≤ _; simp [totAll, read], by show (plAll [] ++ _).Sublist _; simp [plAll, read]⟩
  | f + 1, e, l, c :: r => by
    have hl := stepOf_meas (read f) (read_meas f) e l c r
    rw [read_step]
    cases hs : stepOf (read f) e l c r with
    | stop => exact ⟨by show totAll [] + _ ≤ _; simp [totAll, finOf], by show (plAll [] ++ _).Sublist _; simp [plAll, finOf]⟩
    | text a t' =>
      obtain ⟨h1, h2⟩ := hl.1 a t' hs
      obtain ⟨g1, g2⟩ := read_meas f e l t'
      have ht := tot_consT a (read f e l t').1
      refine ⟨?_, ?_⟩
      · show totAll (consT a (read f e l t').1) + 2 * (read f e l t').2.length ≤ _
        omega
      · show (plAll (consT a (read f e l t').1) ++ (read f e l t').2).Sublist _
        rw [pl_consT, List.append_assoc]
        exact (List.Sublist.append (List.Sublist.refl a) g2).trans h2
    | span x t' =>
      obtain ⟨h1, h2⟩ := hl.2 x t' hs
      obtain ⟨g1, g2⟩ := read_meas f e l t'
      refine ⟨?_, ?_⟩
      · show totAll (x :: (read f e l t').1) + 2 * (read f e l t').2.length ≤ _
        rw [totAll_cons]
        omega
      · show (plAll (x :: (read f e l t').1) ++ (read f e l t').2).Sublist _
        rw [plAll_cons, List.append_assoc]
        exact (List.Sublist.append (List.Sublist.refl (plOne x)) g2).trans h2
theorem Rdr_meas (e l : Bool) (t : List UInt8) : Meas (Rdr e l t).1 (Rdr e l t).2 t := read_meas _ e l t
theorem Rdr_tot (e l : Bool) (t : List UInt8) : totAll (Rdr e l t).1 ≤ 2 * t.length := by have := (Rdr_meas e l t).1; omega
theorem Rdr_sub (e l : Bool) (t : List UInt8) : (plAll (Rdr e l t).1).Sublist t := (List.sublist_append_left _ _).trans (Rdr_meas e l t).2

end Go.Proofs.YtjgmfgnfdaeelaaGreatDoor.Sp
