/-
  THE WALK of the statement KindPlain.
-/
import Derived.Test.YtpenjdnbnacebaaDoorKd11Told
import Derived.Deep.Cut
import Derived.Lib.SlBytesRow
import Derived.Lib.BytesEntry
namespace Go.Proofs.YtpenjdnbnacebaaDoor.Kd
open Go.RowKit
open Go.Proofs.YtpenjdnbnacebaaDoor.Tk (S S_of S_list S_size S_toList S_app ret_int eq8 ne8 at_data len_data Rd)
open Go.Proofs.YtpenjdnbnacebaaDoor.Sp (ret_bool OkAns)
open Go.Proofs.YtpenjdnbnacebaaDoor.Bk (Tx Bk define kindOf inner unquote trim_ne run_head kind_other)
open Go.Proofs.YtpenjdnbnacebaaDoor.Ln (trim dl dr gapB dr_last)
set_option linter.unusedVariables false

theorem dw_nil (p : UInt8 → Bool) : ∀ l : Tx, l.dropWhile p = [] ↔ ∀ x ∈ l, p x = true
  | [] => by simp
  | x :: r => by
    rw [List.dropWhile_cons]
    by_cases h : p x = true
    · rw [if_pos h, dw_nil p r]
      simp [h]
    · rw [if_neg h]
      simp [h]
theorem trim_nil (l : Tx) : trim l = [] ↔ l.all gapB = true := by
  rw [List.all_eq_true]
  constructor
  · intro h
    have h1 : ∀ x ∈ dr l, gapB x = true := by
      have h2 : (dr l).dropWhile gapB = [] := h
      exact (dw_nil _ _).1 h2
    have h3 : dr l = [] := by
      cases hd : (dr l).getLast? with
      | none => simpa using hd
      | some b =>
        have h4 := dr_last l b hd
        have h5 := h1 b (List.mem_of_getLast? hd)
        rw [h4] at h5
        cases h5
    have h6 : (l.reverse.dropWhile gapB) = [] := by
      unfold dr at h3
      simpa using h3
    intro x hx
    exact (dw_nil _ _).1 h6 x (by simpa using hx)
  · intro h
    have h6 : (l.reverse.dropWhile gapB) = [] := (dw_nil _ _).2 (fun x hx => h x (by simpa using hx))
    unfold trim dr
    rw [h6]
    rfl
theorem kind_sp (l : Tx) : kindOf E0 (32 :: l) = if l.all gapB then 1 else 8 := by
  have hd : define E0 (32 :: l) = none := rfl
  have ht : (trim (32 :: l) = []) ↔ l.all gapB = true := by
    rw [trim_nil, List.all_cons]
    simp [gapB]
  unfold kindOf
  by_cases h : l.all gapB = true
  · rw [if_pos (ht.2 h), if_pos h]
  · rw [if_neg (fun e => h (ht.1 e)), if_neg h, hd, run_head (by decide), run_head (by decide), run_head (by decide), if_neg (by omega), if_neg (by omega), if_neg (by omega), if_neg (by simp), if_neg (by simp), if_neg (by simp)]
def ltB (c : UInt8) : Bool := decide ((97 ≤ c.toNat ∧ c.toNat ≤ 122) ∨ (65 ≤ c.toNat ∧ c.toNat ≤ 90) ∨ (48 ≤ c.toNat ∧ c.toNat ≤ 57) ∨ 128 ≤ c.toNat ∨ c.toNat = 92 ∨ c.toNat = 42)
theorem kind_lt (c : UInt8) (l : Tx) (h : ltB c = true) : kindOf E0 (c :: l) = 8 := by
  unfold ltB at h
  have h := of_decide_eq_true h
  have hne : ∀ n : UInt8, c = n → c.toNat = n.toNat := fun n e => by rw [e]
  have n35 : (35 : UInt8).toNat = 35 := rfl
  have n45 : (45 : UInt8).toNat = 45 := rfl
  have n96 : (96 : UInt8).toNat = 96 := rfl
  have n62 : (62 : UInt8).toNat = 62 := rfl
  have n91 : (91 : UInt8).toNat = 91 := rfl
  have n32 : (32 : UInt8).toNat = 32 := rfl
  have n9 : (9 : UInt8).toNat = 9 := rfl
  refine kind_other E0 c l ?_ (fun e => ?_) (fun e => ?_) (fun e => ?_) (fun e => ?_) (fun e => ?_)
  · unfold gapB
    rw [Bool.or_eq_false_iff, beq_eq_false_iff_ne, beq_eq_false_iff_ne]
    exact ⟨fun e => by have := hne _ e; omega, fun e => by have := hne _ e; omega⟩
  · have := hne _ e; omega
  · have := hne _ e; omega
  · have := hne _ e; omega
  · have := hne _ e; omega
  · have := hne _ e; omega
theorem one_byteK (w : World) (c : UInt8) :
    (convert 41 9 (.slice (some ⟨w.heap.size, 0, none⟩) 1 1)).run Tryd.prog (w.alloc (.cells #[.int .u8 c.toNat] 5)) = .ok (.string (S [c])) (w.alloc (.cells #[.int .u8 c.toNat] 5)) := by
  refine Lib.run_convert_whole (P := Tryd.prog) _ 41 5 9 Tryd.underlying41 Tryd.underlying5 Tryd.underlying9 w.heap.size 0 (S [c]) ?_ 1
  intro i hi
  obtain rfl : i = 0 := by have : i < 1 := hi; omega
  rw [Nat.zero_add, World.cell?_alloc_new]
  rfl

set_option maxHeartbeats 6400000 in
set_option maxRecDepth 100000 in
theorem kindPlain_walk (K : Told11) (w : World) (s : ByteArray) (hs : s.size ≤ maxLen) (hr : s.size ≤ reachBytes) (c : UInt8) :
    Calls Tryd.prog 7 #[.string s, .int .u8 c.toNat] w (OkAns w true) := by
  have HA := Lib.hid (awake11_any K)
  have hrb : reachBytes ≤ 140737488355328 := by decide
  by_cases hl : s.size ≤ 1000
  · have g0 : ¬ 1000 < (s.size : Int) := by omega
    have g0b : decide ((s.size : Int) > 1000) = false := decide_eq_false (by omega)
    have app : ∀ (a : Tx), S a ++ s = S (a ++ s.data.toList) := fun a => by rw [← S_app, S_of]
    have sz : ∀ (a : Tx), a.length ≤ 10 → (S (a ++ s.data.toList)).size ≤ 20000 := fun a h => by rw [S_size, List.length_append, len_data]; omega
    have K1 := Lib.hid (fun w' => K.of (S ([c] ++ s.data.toList)) w' (sz _ (by simp)))
    have K2 := Lib.hid (fun w' => K.of (S ([32] ++ s.data.toList)) w' (sz _ (by simp)))
    simp only [S_list] at K1 K2
    have e2 : kindOf E0 ([32] ++ s.data.toList) = if s.data.toList.all gapB then 1 else 8 := kind_sp _
    have HK1 : Hid (ltB c = true → kindOf E0 ([c] ++ s.data.toList) = 8) := Lib.hid (fun h => kind_lt c _ h)
    simp only [e2] at K2
    have hob := fun w' => one_byteK w' c
    have x1 : S [c] ++ s = S ([c] ++ s.data.toList) := app [c]
    have x2 : (⟨#[32]⟩ : ByteArray) ++ s = S ([32] ++ s.data.toList) := app [32]
    have z1 : (S [c]).size = 1 := by rw [S_size]; rfl
    have z2 : (⟨#[32]⟩ : ByteArray).size = 1 := rfl
    have zl1 : ¬ (9223372036854775807 < 1 + s.size) := by omega
    have hLT : Hid (ltB c = decide ((97 ≤ c.toNat ∧ c.toNat ≤ 122) ∨ (65 ≤ c.toNat ∧ c.toNat ≤ 90) ∨ (48 ≤ c.toNat ∧ c.toNat ≤ 57) ∨ 128 ≤ c.toNat ∨ c.toNat = 92 ∨ c.toNat = 42)) := Lib.hid rfl
    have h256 : c.toNat < 256 := c.toNat_lt
    have HG : Hid (s.data.toList.all gapB = (s.data.toList.drop 0).all gapB) := Lib.hid (by rw [List.drop_zero])
    obtain ⟨A, hA⟩ : ∃ A, s.data.toList.all gapB = A := ⟨_, rfl⟩
    rw [hA] at HG
    simp only [hA] at K2
    clear K e2 app sz hs hr hrb hA
    generalize kindOf E0 ([c] ++ s.data.toList) = k1 at *
    generalize S ([c] ++ s.data.toList) = s1 at *
    generalize S ([32] ++ s.data.toList) = s2 at *
    generalize S [c] = sc at *
    generalize ltB c = lt at *
    generalize c.toNat = m at *
    go_enter Tryd.func7, Tryd.ntmps7
    go_wp2_with fail
    refine (HA.out _).mono ?_
    rintro e w2 ⟨rfl, b2⟩
    have B2 := Lib.hid b2
    clear b2 HA
    go_upto_region 3 with fail
    go_cut [5] from 6 to 93 (fun v wx => v = .bool lt ∧ w2 = wx)
    case first =>
      clear K1 K2 HK1 hob x1 x2 z1 z2 zl1 B2 HG
      by_cases p1 : 97 ≤ m
      · by_cases p2 : m ≤ 122
        ·
          have t0a : decide ((m : Int) ≥ 97) = true := decide_eq_true (by omega)
          have t0b : decide ((97 : Int) ≤ (m : Int)) = true := decide_eq_true (by omega)
          have t0c : decide (97 ≤ m) = true := decide_eq_true (by omega)
          have t0d : ((97 : Int) ≤ (m : Int)) := by omega
          have t1a : decide ((m : Int) ≤ 122) = true := decide_eq_true (by omega)
          have t1c : decide (m ≤ 122) = true := decide_eq_true (by omega)
          have t1d : ((m : Int) ≤ 122) := by omega
          have t2a : decide ((m : Int) ≥ 65) = true := decide_eq_true (by omega)
          have t2b : decide ((65 : Int) ≤ (m : Int)) = true := decide_eq_true (by omega)
          have t2c : decide (65 ≤ m) = true := decide_eq_true (by omega)
          have t2d : ((65 : Int) ≤ (m : Int)) := by omega
          have t3a : decide ((m : Int) ≤ 90) = false := decide_eq_false (by omega)
          have t3c : decide (m ≤ 90) = false := decide_eq_false (by omega)
          have t3d : ¬ ((m : Int) ≤ 90) := by omega
          have t4a : decide ((m : Int) ≥ 48) = true := decide_eq_true (by omega)
          have t4b : decide ((48 : Int) ≤ (m : Int)) = true := decide_eq_true (by omega)
          have t4c : decide (48 ≤ m) = true := decide_eq_true (by omega)
          have t4d : ((48 : Int) ≤ (m : Int)) := by omega
          have t5a : decide ((m : Int) ≤ 57) = false := decide_eq_false (by omega)
          have t5c : decide (m ≤ 57) = false := decide_eq_false (by omega)
          have t5d : ¬ ((m : Int) ≤ 57) := by omega
          have t6a : decide ((m : Int) ≥ 128) = false := decide_eq_false (by omega)
          have t6b : decide ((128 : Int) ≤ (m : Int)) = false := decide_eq_false (by omega)
          have t6c : decide (128 ≤ m) = false := decide_eq_false (by omega)
          have t6d : ¬ ((128 : Int) ≤ (m : Int)) := by omega
          have v7a : ((m : Int) == 92) = false := beq_eq_false_iff_ne.2 (by omega)
          have v8a : ((m : Int) == 42) = false := beq_eq_false_iff_ne.2 (by omega)
          have HR : Hid (lt = true) := Lib.hid (by rw [hLT.out]; exact decide_eq_true (by omega))
          clear hLT 
          go_wp2_with fail
          go_meet
          exact ⟨by rw [HR.out], rfl⟩
        · by_cases p3 : 128 ≤ m
          ·
            have t0a : decide ((m : Int) ≥ 97) = true := decide_eq_true (by omega)
            have t0b : decide ((97 : Int) ≤ (m : Int)) = true := decide_eq_true (by omega)
            have t0c : decide (97 ≤ m) = true := decide_eq_true (by omega)
            have t0d : ((97 : Int) ≤ (m : Int)) := by omega
            have t1a : decide ((m : Int) ≤ 122) = false := decide_eq_false (by omega)
            have t1c : decide (m ≤ 122) = false := decide_eq_false (by omega)
            have t1d : ¬ ((m : Int) ≤ 122) := by omega
            have t2a : decide ((m : Int) ≥ 65) = true := decide_eq_true (by omega)
            have t2b : decide ((65 : Int) ≤ (m : Int)) = true := decide_eq_true (by omega)
            have t2c : decide (65 ≤ m) = true := decide_eq_true (by omega)
            have t2d : ((65 : Int) ≤ (m : Int)) := by omega
            have t3a : decide ((m : Int) ≤ 90) = false := decide_eq_false (by omega)
            have t3c : decide (m ≤ 90) = false := decide_eq_false (by omega)
            have t3d : ¬ ((m : Int) ≤ 90) := by omega
            have t4a : decide ((m : Int) ≥ 48) = true := decide_eq_true (by omega)
            have t4b : decide ((48 : Int) ≤ (m : Int)) = true := decide_eq_true (by omega)
            have t4c : decide (48 ≤ m) = true := decide_eq_true (by omega)
            have t4d : ((48 : Int) ≤ (m : Int)) := by omega
            have t5a : decide ((m : Int) ≤ 57) = false := decide_eq_false (by omega)
            have t5c : decide (m ≤ 57) = false := decide_eq_false (by omega)
            have t5d : ¬ ((m : Int) ≤ 57) := by omega
            have t6a : decide ((m : Int) ≥ 128) = true := decide_eq_true (by omega)
            have t6b : decide ((128 : Int) ≤ (m : Int)) = true := decide_eq_true (by omega)
            have t6c : decide (128 ≤ m) = true := decide_eq_true (by omega)
            have t6d : ((128 : Int) ≤ (m : Int)) := by omega
            have v7a : ((m : Int) == 92) = false := beq_eq_false_iff_ne.2 (by omega)
            have v8a : ((m : Int) == 42) = false := beq_eq_false_iff_ne.2 (by omega)
            have HR : Hid (lt = true) := Lib.hid (by rw [hLT.out]; exact decide_eq_true (by omega))
            clear hLT 
            go_wp2_with fail
            go_meet
            exact ⟨by rw [HR.out], rfl⟩
          ·
            have t0a : decide ((m : Int) ≥ 97) = true := decide_eq_true (by omega)
            have t0b : decide ((97 : Int) ≤ (m : Int)) = true := decide_eq_true (by omega)
            have t0c : decide (97 ≤ m) = true := decide_eq_true (by omega)
            have t0d : ((97 : Int) ≤ (m : Int)) := by omega
            have t1a : decide ((m : Int) ≤ 122) = false := decide_eq_false (by omega)
            have t1c : decide (m ≤ 122) = false := decide_eq_false (by omega)
            have t1d : ¬ ((m : Int) ≤ 122) := by omega
            have t2a : decide ((m : Int) ≥ 65) = true := decide_eq_true (by omega)
            have t2b : decide ((65 : Int) ≤ (m : Int)) = true := decide_eq_true (by omega)
            have t2c : decide (65 ≤ m) = true := decide_eq_true (by omega)
            have t2d : ((65 : Int) ≤ (m : Int)) := by omega
            have t3a : decide ((m : Int) ≤ 90) = false := decide_eq_false (by omega)
            have t3c : decide (m ≤ 90) = false := decide_eq_false (by omega)
            have t3d : ¬ ((m : Int) ≤ 90) := by omega
            have t4a : decide ((m : Int) ≥ 48) = true := decide_eq_true (by omega)
            have t4b : decide ((48 : Int) ≤ (m : Int)) = true := decide_eq_true (by omega)
            have t4c : decide (48 ≤ m) = true := decide_eq_true (by omega)
            have t4d : ((48 : Int) ≤ (m : Int)) := by omega
            have t5a : decide ((m : Int) ≤ 57) = false := decide_eq_false (by omega)
            have t5c : decide (m ≤ 57) = false := decide_eq_false (by omega)
            have t5d : ¬ ((m : Int) ≤ 57) := by omega
            have t6a : decide ((m : Int) ≥ 128) = false := decide_eq_false (by omega)
            have t6b : decide ((128 : Int) ≤ (m : Int)) = false := decide_eq_false (by omega)
            have t6c : decide (128 ≤ m) = false := decide_eq_false (by omega)
            have t6d : ¬ ((128 : Int) ≤ (m : Int)) := by omega
            have v7a : ((m : Int) == 92) = false := beq_eq_false_iff_ne.2 (by omega)
            have v8a : ((m : Int) == 42) = false := beq_eq_false_iff_ne.2 (by omega)
            have HR : Hid (lt = false) := Lib.hid (by rw [hLT.out]; exact decide_eq_false (by omega))
            clear hLT 
            go_wp2_with fail
            go_meet
            exact ⟨by rw [HR.out], rfl⟩
      · by_cases p2 : 65 ≤ m
        · by_cases p3 : m ≤ 90
          ·
            have t0a : decide ((m : Int) ≥ 97) = false := decide_eq_false (by omega)
            have t0b : decide ((97 : Int) ≤ (m : Int)) = false := decide_eq_false (by omega)
            have t0c : decide (97 ≤ m) = false := decide_eq_false (by omega)
            have t0d : ¬ ((97 : Int) ≤ (m : Int)) := by omega
            have t1a : decide ((m : Int) ≤ 122) = true := decide_eq_true (by omega)
            have t1c : decide (m ≤ 122) = true := decide_eq_true (by omega)
            have t1d : ((m : Int) ≤ 122) := by omega
            have t2a : decide ((m : Int) ≥ 65) = true := decide_eq_true (by omega)
            have t2b : decide ((65 : Int) ≤ (m : Int)) = true := decide_eq_true (by omega)
            have t2c : decide (65 ≤ m) = true := decide_eq_true (by omega)
            have t2d : ((65 : Int) ≤ (m : Int)) := by omega
            have t3a : decide ((m : Int) ≤ 90) = true := decide_eq_true (by omega)
            have t3c : decide (m ≤ 90) = true := decide_eq_true (by omega)
            have t3d : ((m : Int) ≤ 90) := by omega
            have t4a : decide ((m : Int) ≥ 48) = true := decide_eq_true (by omega)
            have t4b : decide ((48 : Int) ≤ (m : Int)) = true := decide_eq_true (by omega)
            have t4c : decide (48 ≤ m) = true := decide_eq_true (by omega)
            have t4d : ((48 : Int) ≤ (m : Int)) := by omega
            have t5a : decide ((m : Int) ≤ 57) = false := decide_eq_false (by omega)
            have t5c : decide (m ≤ 57) = false := decide_eq_false (by omega)
            have t5d : ¬ ((m : Int) ≤ 57) := by omega
            have t6a : decide ((m : Int) ≥ 128) = false := decide_eq_false (by omega)
            have t6b : decide ((128 : Int) ≤ (m : Int)) = false := decide_eq_false (by omega)
            have t6c : decide (128 ≤ m) = false := decide_eq_false (by omega)
            have t6d : ¬ ((128 : Int) ≤ (m : Int)) := by omega
            have v7a : ((m : Int) == 92) = false := beq_eq_false_iff_ne.2 (by omega)
            have v8a : ((m : Int) == 42) = false := beq_eq_false_iff_ne.2 (by omega)
            have HR : Hid (lt = true) := Lib.hid (by rw [hLT.out]; exact decide_eq_true (by omega))
            clear hLT 
            go_wp2_with fail
            go_meet
            exact ⟨by rw [HR.out], rfl⟩
          · by_cases p4 : m = 92
            ·
              have t0a : decide ((m : Int) ≥ 97) = false := decide_eq_false (by omega)
              have t0b : decide ((97 : Int) ≤ (m : Int)) = false := decide_eq_false (by omega)
              have t0c : decide (97 ≤ m) = false := decide_eq_false (by omega)
              have t0d : ¬ ((97 : Int) ≤ (m : Int)) := by omega
              have t1a : decide ((m : Int) ≤ 122) = true := decide_eq_true (by omega)
              have t1c : decide (m ≤ 122) = true := decide_eq_true (by omega)
              have t1d : ((m : Int) ≤ 122) := by omega
              have t2a : decide ((m : Int) ≥ 65) = true := decide_eq_true (by omega)
              have t2b : decide ((65 : Int) ≤ (m : Int)) = true := decide_eq_true (by omega)
              have t2c : decide (65 ≤ m) = true := decide_eq_true (by omega)
              have t2d : ((65 : Int) ≤ (m : Int)) := by omega
              have t3a : decide ((m : Int) ≤ 90) = false := decide_eq_false (by omega)
              have t3c : decide (m ≤ 90) = false := decide_eq_false (by omega)
              have t3d : ¬ ((m : Int) ≤ 90) := by omega
              have t4a : decide ((m : Int) ≥ 48) = true := decide_eq_true (by omega)
              have t4b : decide ((48 : Int) ≤ (m : Int)) = true := decide_eq_true (by omega)
              have t4c : decide (48 ≤ m) = true := decide_eq_true (by omega)
              have t4d : ((48 : Int) ≤ (m : Int)) := by omega
              have t5a : decide ((m : Int) ≤ 57) = false := decide_eq_false (by omega)
              have t5c : decide (m ≤ 57) = false := decide_eq_false (by omega)
              have t5d : ¬ ((m : Int) ≤ 57) := by omega
              have t6a : decide ((m : Int) ≥ 128) = false := decide_eq_false (by omega)
              have t6b : decide ((128 : Int) ≤ (m : Int)) = false := decide_eq_false (by omega)
              have t6c : decide (128 ≤ m) = false := decide_eq_false (by omega)
              have t6d : ¬ ((128 : Int) ≤ (m : Int)) := by omega
              have v7a : ((m : Int) == 92) = true := by rw [beq_iff_eq]; omega
              have v8a : ((m : Int) == 42) = false := beq_eq_false_iff_ne.2 (by omega)
              have HR : Hid (lt = true) := Lib.hid (by rw [hLT.out]; exact decide_eq_true (by omega))
              clear hLT p4
              go_wp2_with fail
              go_meet
              exact ⟨by rw [HR.out], rfl⟩
            ·
              have t0a : decide ((m : Int) ≥ 97) = false := decide_eq_false (by omega)
              have t0b : decide ((97 : Int) ≤ (m : Int)) = false := decide_eq_false (by omega)
              have t0c : decide (97 ≤ m) = false := decide_eq_false (by omega)
              have t0d : ¬ ((97 : Int) ≤ (m : Int)) := by omega
              have t1a : decide ((m : Int) ≤ 122) = true := decide_eq_true (by omega)
              have t1c : decide (m ≤ 122) = true := decide_eq_true (by omega)
              have t1d : ((m : Int) ≤ 122) := by omega
              have t2a : decide ((m : Int) ≥ 65) = true := decide_eq_true (by omega)
              have t2b : decide ((65 : Int) ≤ (m : Int)) = true := decide_eq_true (by omega)
              have t2c : decide (65 ≤ m) = true := decide_eq_true (by omega)
              have t2d : ((65 : Int) ≤ (m : Int)) := by omega
              have t3a : decide ((m : Int) ≤ 90) = false := decide_eq_false (by omega)
              have t3c : decide (m ≤ 90) = false := decide_eq_false (by omega)
              have t3d : ¬ ((m : Int) ≤ 90) := by omega
              have t4a : decide ((m : Int) ≥ 48) = true := decide_eq_true (by omega)
              have t4b : decide ((48 : Int) ≤ (m : Int)) = true := decide_eq_true (by omega)
              have t4c : decide (48 ≤ m) = true := decide_eq_true (by omega)
              have t4d : ((48 : Int) ≤ (m : Int)) := by omega
              have t5a : decide ((m : Int) ≤ 57) = false := decide_eq_false (by omega)
              have t5c : decide (m ≤ 57) = false := decide_eq_false (by omega)
              have t5d : ¬ ((m : Int) ≤ 57) := by omega
              have t6a : decide ((m : Int) ≥ 128) = false := decide_eq_false (by omega)
              have t6b : decide ((128 : Int) ≤ (m : Int)) = false := decide_eq_false (by omega)
              have t6c : decide (128 ≤ m) = false := decide_eq_false (by omega)
              have t6d : ¬ ((128 : Int) ≤ (m : Int)) := by omega
              have v7a : ((m : Int) == 92) = false := beq_eq_false_iff_ne.2 (by omega)
              have v8a : ((m : Int) == 42) = false := beq_eq_false_iff_ne.2 (by omega)
              have HR : Hid (lt = false) := Lib.hid (by rw [hLT.out]; exact decide_eq_false (by omega))
              clear hLT 
              go_wp2_with fail
              go_meet
              exact ⟨by rw [HR.out], rfl⟩
        · by_cases p3 : 48 ≤ m
          · by_cases p4 : m ≤ 57
            ·
              have t0a : decide ((m : Int) ≥ 97) = false := decide_eq_false (by omega)
              have t0b : decide ((97 : Int) ≤ (m : Int)) = false := decide_eq_false (by omega)
              have t0c : decide (97 ≤ m) = false := decide_eq_false (by omega)
              have t0d : ¬ ((97 : Int) ≤ (m : Int)) := by omega
              have t1a : decide ((m : Int) ≤ 122) = true := decide_eq_true (by omega)
              have t1c : decide (m ≤ 122) = true := decide_eq_true (by omega)
              have t1d : ((m : Int) ≤ 122) := by omega
              have t2a : decide ((m : Int) ≥ 65) = false := decide_eq_false (by omega)
              have t2b : decide ((65 : Int) ≤ (m : Int)) = false := decide_eq_false (by omega)
              have t2c : decide (65 ≤ m) = false := decide_eq_false (by omega)
              have t2d : ¬ ((65 : Int) ≤ (m : Int)) := by omega
              have t3a : decide ((m : Int) ≤ 90) = true := decide_eq_true (by omega)
              have t3c : decide (m ≤ 90) = true := decide_eq_true (by omega)
              have t3d : ((m : Int) ≤ 90) := by omega
              have t4a : decide ((m : Int) ≥ 48) = true := decide_eq_true (by omega)
              have t4b : decide ((48 : Int) ≤ (m : Int)) = true := decide_eq_true (by omega)
              have t4c : decide (48 ≤ m) = true := decide_eq_true (by omega)
              have t4d : ((48 : Int) ≤ (m : Int)) := by omega
              have t5a : decide ((m : Int) ≤ 57) = true := decide_eq_true (by omega)
              have t5c : decide (m ≤ 57) = true := decide_eq_true (by omega)
              have t5d : ((m : Int) ≤ 57) := by omega
              have t6a : decide ((m : Int) ≥ 128) = false := decide_eq_false (by omega)
              have t6b : decide ((128 : Int) ≤ (m : Int)) = false := decide_eq_false (by omega)
              have t6c : decide (128 ≤ m) = false := decide_eq_false (by omega)
              have t6d : ¬ ((128 : Int) ≤ (m : Int)) := by omega
              have v7a : ((m : Int) == 92) = false := beq_eq_false_iff_ne.2 (by omega)
              have v8a : ((m : Int) == 42) = false := beq_eq_false_iff_ne.2 (by omega)
              have HR : Hid (lt = true) := Lib.hid (by rw [hLT.out]; exact decide_eq_true (by omega))
              clear hLT 
              go_wp2_with fail
              go_meet
              exact ⟨by rw [HR.out], rfl⟩
            ·
              have t0a : decide ((m : Int) ≥ 97) = false := decide_eq_false (by omega)
              have t0b : decide ((97 : Int) ≤ (m : Int)) = false := decide_eq_false (by omega)
              have t0c : decide (97 ≤ m) = false := decide_eq_false (by omega)
              have t0d : ¬ ((97 : Int) ≤ (m : Int)) := by omega
              have t1a : decide ((m : Int) ≤ 122) = true := decide_eq_true (by omega)
              have t1c : decide (m ≤ 122) = true := decide_eq_true (by omega)
              have t1d : ((m : Int) ≤ 122) := by omega
              have t2a : decide ((m : Int) ≥ 65) = false := decide_eq_false (by omega)
              have t2b : decide ((65 : Int) ≤ (m : Int)) = false := decide_eq_false (by omega)
              have t2c : decide (65 ≤ m) = false := decide_eq_false (by omega)
              have t2d : ¬ ((65 : Int) ≤ (m : Int)) := by omega
              have t3a : decide ((m : Int) ≤ 90) = true := decide_eq_true (by omega)
              have t3c : decide (m ≤ 90) = true := decide_eq_true (by omega)
              have t3d : ((m : Int) ≤ 90) := by omega
              have t4a : decide ((m : Int) ≥ 48) = true := decide_eq_true (by omega)
              have t4b : decide ((48 : Int) ≤ (m : Int)) = true := decide_eq_true (by omega)
              have t4c : decide (48 ≤ m) = true := decide_eq_true (by omega)
              have t4d : ((48 : Int) ≤ (m : Int)) := by omega
              have t5a : decide ((m : Int) ≤ 57) = false := decide_eq_false (by omega)
              have t5c : decide (m ≤ 57) = false := decide_eq_false (by omega)
              have t5d : ¬ ((m : Int) ≤ 57) := by omega
              have t6a : decide ((m : Int) ≥ 128) = false := decide_eq_false (by omega)
              have t6b : decide ((128 : Int) ≤ (m : Int)) = false := decide_eq_false (by omega)
              have t6c : decide (128 ≤ m) = false := decide_eq_false (by omega)
              have t6d : ¬ ((128 : Int) ≤ (m : Int)) := by omega
              have v7a : ((m : Int) == 92) = false := beq_eq_false_iff_ne.2 (by omega)
              have v8a : ((m : Int) == 42) = false := beq_eq_false_iff_ne.2 (by omega)
              have HR : Hid (lt = false) := Lib.hid (by rw [hLT.out]; exact decide_eq_false (by omega))
              clear hLT 
              go_wp2_with fail
              go_meet
              exact ⟨by rw [HR.out], rfl⟩
          · by_cases p4 : m = 42
            ·
              have t0a : decide ((m : Int) ≥ 97) = false := decide_eq_false (by omega)
              have t0b : decide ((97 : Int) ≤ (m : Int)) = false := decide_eq_false (by omega)
              have t0c : decide (97 ≤ m) = false := decide_eq_false (by omega)
              have t0d : ¬ ((97 : Int) ≤ (m : Int)) := by omega
              have t1a : decide ((m : Int) ≤ 122) = true := decide_eq_true (by omega)
              have t1c : decide (m ≤ 122) = true := decide_eq_true (by omega)
              have t1d : ((m : Int) ≤ 122) := by omega
              have t2a : decide ((m : Int) ≥ 65) = false := decide_eq_false (by omega)
              have t2b : decide ((65 : Int) ≤ (m : Int)) = false := decide_eq_false (by omega)
              have t2c : decide (65 ≤ m) = false := decide_eq_false (by omega)
              have t2d : ¬ ((65 : Int) ≤ (m : Int)) := by omega
              have t3a : decide ((m : Int) ≤ 90) = true := decide_eq_true (by omega)
              have t3c : decide (m ≤ 90) = true := decide_eq_true (by omega)
              have t3d : ((m : Int) ≤ 90) := by omega
              have t4a : decide ((m : Int) ≥ 48) = false := decide_eq_false (by omega)
              have t4b : decide ((48 : Int) ≤ (m : Int)) = false := decide_eq_false (by omega)
              have t4c : decide (48 ≤ m) = false := decide_eq_false (by omega)
              have t4d : ¬ ((48 : Int) ≤ (m : Int)) := by omega
              have t5a : decide ((m : Int) ≤ 57) = true := decide_eq_true (by omega)
              have t5c : decide (m ≤ 57) = true := decide_eq_true (by omega)
              have t5d : ((m : Int) ≤ 57) := by omega
              have t6a : decide ((m : Int) ≥ 128) = false := decide_eq_false (by omega)
              have t6b : decide ((128 : Int) ≤ (m : Int)) = false := decide_eq_false (by omega)
              have t6c : decide (128 ≤ m) = false := decide_eq_false (by omega)
              have t6d : ¬ ((128 : Int) ≤ (m : Int)) := by omega
              have v7a : ((m : Int) == 92) = false := beq_eq_false_iff_ne.2 (by omega)
              have v8a : ((m : Int) == 42) = true := by rw [beq_iff_eq]; omega
              have HR : Hid (lt = true) := Lib.hid (by rw [hLT.out]; exact decide_eq_true (by omega))
              clear hLT p4
              go_wp2_with fail
              go_meet
              exact ⟨by rw [HR.out], rfl⟩
            ·
              have t0a : decide ((m : Int) ≥ 97) = false := decide_eq_false (by omega)
              have t0b : decide ((97 : Int) ≤ (m : Int)) = false := decide_eq_false (by omega)
              have t0c : decide (97 ≤ m) = false := decide_eq_false (by omega)
              have t0d : ¬ ((97 : Int) ≤ (m : Int)) := by omega
              have t1a : decide ((m : Int) ≤ 122) = true := decide_eq_true (by omega)
              have t1c : decide (m ≤ 122) = true := decide_eq_true (by omega)
              have t1d : ((m : Int) ≤ 122) := by omega
              have t2a : decide ((m : Int) ≥ 65) = false := decide_eq_false (by omega)
              have t2b : decide ((65 : Int) ≤ (m : Int)) = false := decide_eq_false (by omega)
              have t2c : decide (65 ≤ m) = false := decide_eq_false (by omega)
              have t2d : ¬ ((65 : Int) ≤ (m : Int)) := by omega
              have t3a : decide ((m : Int) ≤ 90) = true := decide_eq_true (by omega)
              have t3c : decide (m ≤ 90) = true := decide_eq_true (by omega)
              have t3d : ((m : Int) ≤ 90) := by omega
              have t4a : decide ((m : Int) ≥ 48) = false := decide_eq_false (by omega)
              have t4b : decide ((48 : Int) ≤ (m : Int)) = false := decide_eq_false (by omega)
              have t4c : decide (48 ≤ m) = false := decide_eq_false (by omega)
              have t4d : ¬ ((48 : Int) ≤ (m : Int)) := by omega
              have t5a : decide ((m : Int) ≤ 57) = true := decide_eq_true (by omega)
              have t5c : decide (m ≤ 57) = true := decide_eq_true (by omega)
              have t5d : ((m : Int) ≤ 57) := by omega
              have t6a : decide ((m : Int) ≥ 128) = false := decide_eq_false (by omega)
              have t6b : decide ((128 : Int) ≤ (m : Int)) = false := decide_eq_false (by omega)
              have t6c : decide (128 ≤ m) = false := decide_eq_false (by omega)
              have t6d : ¬ ((128 : Int) ≤ (m : Int)) := by omega
              have v7a : ((m : Int) == 92) = false := beq_eq_false_iff_ne.2 (by omega)
              have v8a : ((m : Int) == 42) = false := beq_eq_false_iff_ne.2 (by omega)
              have HR : Hid (lt = false) := Lib.hid (by rw [hLT.out]; exact decide_eq_false (by omega))
              clear hLT 
              go_wp2_with fail
              go_meet
              exact ⟨by rw [HR.out], rfl⟩
    case rest =>
      obtain ⟨rfl, rfl⟩ := hcut
      clear hLT h256
      cases lt with
      | true =>
        have hk1 := HK1.out rfl
        rw [hk1] at K1
        have n8 : (((8 : Nat) : Int) != 8) = false := rfl
        have BA := Lib.hid (B2.out.alloc B2.out.size (.cells #[.int .u8 m] 5))
        clear hk1 HK1 B2
        go_wp2_with fail
        refine (K1.out _).mono ?_
        rintro e w3 ⟨rfl, b3⟩
        have B3 := Lib.hid (BA.out.trans (b3.mono BA.out.size))
        clear b3 K1 BA hob
        go_wp2_with fail
        go_loop [6, 63] (fun v i => ∃ (k : Nat) (b : Bool), k ≤ s.size ∧ i = .int .i64 k ∧ v = .bool b ∧ Hid (A = (b && (s.data.toList.drop k).all gapB))) (fun _ i => s.size - (intOf i).toNat)
        case atStart => exact ⟨0, true, Nat.zero_le _, rfl, rfl, HG⟩
        case round =>
          clear HG
          obtain ⟨k, b, hk, rfl, rfl, HN⟩ := hrel
          by_cases hlt : k < s.size
          · have hi1 : (k : Int) < (s.size : Int) := by omega
            have hnx := HN.out
            rw [at_data s k hlt, List.all_cons] at hnx
            obtain ⟨x, hx⟩ : ∃ x, s[k] = x := ⟨_, rfl⟩
            rw [hx] at hnx
            have HQ := Lib.hid hnx
            clear hnx HN
            cases b with
            | false =>
              have HR : Hid (A = (false && (s.data.toList.drop (k + 1)).all gapB)) := Lib.hid (by rw [HQ.out]; simp)
              go_wp2_with fail
              go_round
              case rel => exact ⟨k + 1, false, by omega, by go_num, rfl, HR⟩
              case measure => simp [intOf] <;> omega
            | true =>
              by_cases x32 : x = 32
              · have e1 : ((x.toNat : Int) == 32) = true := eq8 (b := 32) x32
                have HR : Hid (A = (true && (s.data.toList.drop (k + 1)).all gapB)) := Lib.hid (by rw [HQ.out, x32]; simp [gapB])
                clear x32 HQ
                go_wp2_with fail
                go_round
                case rel => exact ⟨k + 1, true, by omega, by go_num, rfl, HR⟩
                case measure => simp [intOf] <;> omega
              · have e1 : ((x.toNat : Int) == 32) = false := ne8 (b := 32) x32
                by_cases x9 : x = 9
                · have e2 : ((x.toNat : Int) == 9) = true := eq8 (b := 9) x9
                  have HR : Hid (A = (true && (s.data.toList.drop (k + 1)).all gapB)) := Lib.hid (by rw [HQ.out, x9]; simp [gapB])
                  clear x9 x32 HQ
                  go_wp2_with fail
                  go_round
                  case rel => exact ⟨k + 1, true, by omega, by go_num, rfl, HR⟩
                  case measure => simp [intOf] <;> omega
                · have e2 : ((x.toNat : Int) == 9) = false := ne8 (b := 9) x9
                  have HR : Hid (A = (false && (s.data.toList.drop (k + 1)).all gapB)) := Lib.hid (by rw [HQ.out]; simp [gapB, x32, x9])
                  clear x9 x32 HQ
                  go_wp2_with fail
                  go_round
                  case rel => exact ⟨k + 1, false, by omega, by go_num, rfl, HR⟩
                  case measure => simp [intOf] <;> omega
          · obtain rfl : k = s.size := by omega
            have hnx := HN.out
            rw [List.drop_eq_nil_of_le (by rw [len_data]; exact Nat.le_refl _)] at hnx
            have HR : A = b := by rw [hnx]; simp
            clear hnx HN hlt
            subst HR
            cases A with
            | true =>
              have n1 : (((1 : Nat) : Int) == 1) = true := rfl
              simp only [if_true] at K2
              go_wp2_with fail
              refine (K2.out _).mono ?_
              rintro e w5 ⟨rfl, b5⟩
              have B5 := Lib.hid (B3.out.trans (b5.mono B3.out.size))
              clear b5
              go_wp2_with fail
              go_ret
              exact ⟨by simp, B5.out⟩
            | false =>
              have n1 : (((8 : Nat) : Int) == 1) = false := rfl
              have n2 : (((8 : Nat) : Int) == 8) = true := rfl
              simp only [Bool.false_eq_true, if_false] at K2
              go_wp2_with fail
              refine (K2.out _).mono ?_
              rintro e w5 ⟨rfl, b5⟩
              have B5 := Lib.hid (B3.out.trans (b5.mono B3.out.size))
              clear b5
              go_wp2_with fail
              go_ret
              exact ⟨by simp, B5.out⟩
      | false =>
        clear HK1 K1 hob
        go_wp2_with fail
        go_loop [6, 63] (fun v i => ∃ (k : Nat) (b : Bool), k ≤ s.size ∧ i = .int .i64 k ∧ v = .bool b ∧ Hid (A = (b && (s.data.toList.drop k).all gapB))) (fun _ i => s.size - (intOf i).toNat)
        case atStart => exact ⟨0, true, Nat.zero_le _, rfl, rfl, HG⟩
        case round =>
          clear HG
          obtain ⟨k, b, hk, rfl, rfl, HN⟩ := hrel
          by_cases hlt : k < s.size
          · have hi1 : (k : Int) < (s.size : Int) := by omega
            have hnx := HN.out
            rw [at_data s k hlt, List.all_cons] at hnx
            obtain ⟨x, hx⟩ : ∃ x, s[k] = x := ⟨_, rfl⟩
            rw [hx] at hnx
            have HQ := Lib.hid hnx
            clear hnx HN
            cases b with
            | false =>
              have HR : Hid (A = (false && (s.data.toList.drop (k + 1)).all gapB)) := Lib.hid (by rw [HQ.out]; simp)
              go_wp2_with fail
              go_round
              case rel => exact ⟨k + 1, false, by omega, by go_num, rfl, HR⟩
              case measure => simp [intOf] <;> omega
            | true =>
              by_cases x32 : x = 32
              · have e1 : ((x.toNat : Int) == 32) = true := eq8 (b := 32) x32
                have HR : Hid (A = (true && (s.data.toList.drop (k + 1)).all gapB)) := Lib.hid (by rw [HQ.out, x32]; simp [gapB])
                clear x32 HQ
                go_wp2_with fail
                go_round
                case rel => exact ⟨k + 1, true, by omega, by go_num, rfl, HR⟩
                case measure => simp [intOf] <;> omega
              · have e1 : ((x.toNat : Int) == 32) = false := ne8 (b := 32) x32
                by_cases x9 : x = 9
                · have e2 : ((x.toNat : Int) == 9) = true := eq8 (b := 9) x9
                  have HR : Hid (A = (true && (s.data.toList.drop (k + 1)).all gapB)) := Lib.hid (by rw [HQ.out, x9]; simp [gapB])
                  clear x9 x32 HQ
                  go_wp2_with fail
                  go_round
                  case rel => exact ⟨k + 1, true, by omega, by go_num, rfl, HR⟩
                  case measure => simp [intOf] <;> omega
                · have e2 : ((x.toNat : Int) == 9) = false := ne8 (b := 9) x9
                  have HR : Hid (A = (false && (s.data.toList.drop (k + 1)).all gapB)) := Lib.hid (by rw [HQ.out]; simp [gapB, x32, x9])
                  clear x9 x32 HQ
                  go_wp2_with fail
                  go_round
                  case rel => exact ⟨k + 1, false, by omega, by go_num, rfl, HR⟩
                  case measure => simp [intOf] <;> omega
          · obtain rfl : k = s.size := by omega
            have hnx := HN.out
            rw [List.drop_eq_nil_of_le (by rw [len_data]; exact Nat.le_refl _)] at hnx
            have HR : A = b := by rw [hnx]; simp
            clear hnx HN hlt
            subst HR
            cases A with
            | true =>
              have n1 : (((1 : Nat) : Int) == 1) = true := rfl
              simp only [if_true] at K2
              go_wp2_with fail
              refine (K2.out _).mono ?_
              rintro e w5 ⟨rfl, b5⟩
              have B5 := Lib.hid (B2.out.trans (b5.mono B2.out.size))
              clear b5
              go_wp2_with fail
              go_ret
              exact ⟨by simp, B5.out⟩
            | false =>
              have n1 : (((8 : Nat) : Int) == 1) = false := rfl
              have n2 : (((8 : Nat) : Int) == 8) = true := rfl
              simp only [Bool.false_eq_true, if_false] at K2
              go_wp2_with fail
              refine (K2.out _).mono ?_
              rintro e w5 ⟨rfl, b5⟩
              have B5 := Lib.hid (B2.out.trans (b5.mono B2.out.size))
              clear b5
              go_wp2_with fail
              go_ret
              exact ⟨by simp, B5.out⟩
  · have g0 : 1000 < (s.size : Int) := by omega
    have g0b : decide ((s.size : Int) > 1000) = true := decide_eq_true (by omega)
    clear K hs hr hrb hl
    go_enter Tryd.func7, Tryd.ntmps7
    go_wp2_with fail
    refine (HA.out _).mono ?_
    rintro e w2 ⟨rfl, b2⟩
    have B2 := Lib.hid b2
    clear b2
    go_wp2_with fail
    refine (HA.out _).mono ?_
    rintro e w3 ⟨rfl, b3⟩
    have B3 := Lib.hid (B2.out.trans (b3.mono B2.out.size))
    clear b3
    go_wp2_with fail
    go_ret
    exact ⟨rfl, B3.out⟩

end Go.Proofs.YtpenjdnbnacebaaDoor.Kd
