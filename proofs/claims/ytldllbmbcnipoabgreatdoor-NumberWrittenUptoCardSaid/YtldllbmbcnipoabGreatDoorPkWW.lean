/-
  Several texts in one:
  
  
-/
import Derived.Test.YtldllbmbcnipoabGreatDoorPkWV
import Derived.Test.YtldllbmbcnipoabGreatDoorLnSplit
import Derived.Test.YtldllbmbcnipoabGreatDoorPkWU
namespace Go.Proofs.YtldllbmbcnipoabGreatDoor.Wr
open Go.RowKit
open Go.Proofs.YtldllbmbcnipoabGreatDoor.Tk (S S_of S_list S_size S_toList S_app ret_int len_data Rd)
open Go.Proofs.YtldllbmbcnipoabGreatDoor.Cm (Keep own_keep)
open Go.Proofs.YtldllbmbcnipoabGreatDoor.Sp (Sp Tr rtB wrs totAll fitAll wrs_le)
open Go.Proofs.YtldllbmbcnipoabGreatDoor.Bk (Tx Bk ticksL)
open Go.Proofs.YtldllbmbcnipoabGreatDoor.Pa (OutG OutS encX encX_map)
set_option linter.unusedVariables false
theorem out_of {B : Nat} {w : World} {u : Value} {xs : List Tx} (hB : B ≤ w.heap.size) (h : w.ownsRow B 9 1 u xs.length (xs.map encStr)) : OutS B w u xs :=
  ⟨hB, by rw [encX_map]; exact h, fun _ _ _ _ => trivial⟩
set_option maxHeartbeats 1600000 in
theorem wpara_any {B b : Nat} {g : Option Nat} {ls : List Tx} {w : World} (h : Pg B b g ls w) (v : Value) (l : List Sp) (ht : Tr w v l) (hn : totAll l ≤ 20000) (hf : fitAll 140737488355328 l) (hr : rtB l = true) (hl : ls.length + (Ln.split (wrs l)).1.length ≤ 1000000) :
    Calls Tryz.prog 57 #[.pointer (some ⟨b, 0, none⟩), v] w (PutAns B b g (ls ++ (Ln.split (wrs l)).1) w) := by
  have HW := Lib.hid (written_any v l w ht hn hf hr)
  have hwl := wrs_le l
  have HS := Lib.hid (fun w' => Ln.split_any (S (wrs l)) (by rw [S_size]; omega) w')
  simp only [S_list] at HS
  have HP := Lib.hid h
  have HPut := Lib.hid (fun (g' : Option Nat) (ls' : List Tx) (w' : World) (h' : Pg B b g' ls' w') (s : Tx) (hl' : ls'.length + 1 ≤ 1000000) => put_any h' s hl')
  clear ht hn hf hr hwl
  generalize (Ln.split (wrs l)).1 = xs at *
  generalize (Ln.split (wrs l)).2 = xe at *
  generalize S (wrs l) = y at *
  unfold PutAns at HPut
  go_enter Tryz.func57, Tryz.ntmps57
  go_wp2_with fail
  refine HW.out.mono ?_
  rintro e w1 ⟨rfl, b1⟩
  have P1 := Lib.hid (HP.out.below b1)
  have B1 := Lib.hid b1
  clear b1 HW
  go_wp2_with fail
  refine (HS.out _).mono ?_
  rintro e w2 ⟨u, rfl, hown, b2⟩
  have HO := Lib.hid (out_of b2.size hown)
  have P2 := Lib.hid (P1.out.below b2)
  have B2 := Lib.hid (B1.out.trans (b2.mono B1.out.size))
  obtain ⟨ao, ca, hu⟩ := (Rd.of_own hown).len
  subst hu
  clear hown b2 HS
  go_wp2_with fail
  go_loopw [16] (fun iv wr => ∃ j : Nat, j ≤ xs.length ∧ iv = .int .i64 j ∧ Hid (∃ g', Pt B b g g' (ls ++ xs.take j) w2 wr)) (fun iv _ => xs.length - (intOf iv).toNat)
  case atStart => exact ⟨0, Nat.zero_le _, rfl, Lib.hid ⟨g, by rw [List.take_zero, List.append_nil]; exact Pt.refl P2.out⟩⟩
  case round =>
    obtain ⟨j, hj, rfl, HT⟩ := hrel
    obtain ⟨g1, t1⟩ := HT.out
    have HT1 := Lib.hid t1
    clear t1 HT
    by_cases hlt : j < xs.length
    · have hi1 : (j : Int) < (xs.length : Int) := by omega
      obtain ⟨bb, o, rfl, c0⟩ := Bt.Rd.at (HT1.out.rd P1.out HO.out) j hlt
      have HPj := Lib.hid (HPut.out _ _ _ HT1.out.pg xs[j] (by rw [List.length_append, List.length_take]; omega))
      have HE : Hid (ls ++ xs.take j ++ [xs[j]] = ls ++ xs.take (j + 1)) := Lib.hid (by rw [List.append_assoc, List.take_succ_eq_append_getElem hlt])
      clear HPut
      generalize S xs[j] = sx at *
      go_wp2_with fail
      refine HPj.out.mono ?_
      rintro e w3 ⟨rfl, g2, t2⟩
      have HT2 : Hid (∃ g', Pt B b g g' (ls ++ xs.take (j + 1)) w2 w3) := Lib.hid ⟨g2, by rw [← HE.out]; exact HT1.out.trans t2⟩
      clear t2 HPj
      go_wp2_with fail
      go_roundw
      case rel => exact ⟨j + 1, by omega, by go_num, HT2⟩
      case measure => simp [intOf] <;> omega
    · have hi1 : ¬ (j : Int) < (xs.length : Int) := by omega
      have HX2 : Hid (Pt B b g g1 (ls ++ xs) w wr) := Lib.hid (by
        have h2 := HT1.out
        rw [List.take_of_length_le (by omega)] at h2
        exact Pt.ahead HP.out B2.out h2)
      clear HT1 hlt
      go_wp2_with fail
      go_end0
      exact ⟨rfl, _, HX2.out⟩
theorem reps (c : UInt8) (n : Nat) (hn : n ≤ 1000000) (w : World) : Calls Tryz.prog 92 #[.string (S [c]), .int .i64 (n : Nat)] w fun e w' => e = .returned (.string (S (List.replicate n c))) ∧ Below w.heap.size w w' := by
  have h := Tryz.strings_Repeat (S [c]) n w (by omega) (by rw [S_size]; show 1 * _ ≤ _; omega)
  rw [S_list, Sp.repeat_rep9 c] at h
  exact h
set_option maxHeartbeats 1600000 in
theorem wheading_any {B b : Nat} {g : Option Nat} {ls : List Tx} {w : World} (h : Pg B b g ls w) (lv : Nat) (hlv : lv ≤ 6) (v : Value) (l : List Sp) (ht : Tr w v l) (hn : totAll l ≤ 20000) (hf : fitAll 140737488355328 l) (hr : rtB l = true) (hl : ls.length + 1 ≤ 1000000) :
    Calls Tryz.prog 58 #[.pointer (some ⟨b, 0, none⟩), .int .i64 (lv : Nat), v] w (PutAns B b g (ls ++ [List.replicate lv 35 ++ (if l = [] then [] else 32 :: wrs l)]) w) := by
  have HR := Lib.hid (reps 35 lv (by omega) w)
  have HW := Lib.hid (fun w' (hb : Below w.heap.size w w') => written_any v l w' (ht.below hb) hn hf hr)
  have hwl := wrs_le l
  have HP := Lib.hid h
  have HPut := Lib.hid (fun (w' : World) (h' : Below w.heap.size w w') (s : Tx) (x : ByteArray) (hx : x = S s) => (show Calls Tryz.prog 36 #[.pointer (some ⟨b, 0, none⟩), .string x] w' (PutAns B b g (ls ++ [s]) w') by rw [hx]; exact put_any (h.below h') s hl))
  obtain ⟨ao, ca, rfl⟩ := ht.len
  have hz1 : (S (List.replicate lv (35 : UInt8))).size ≤ 6 := by rw [S_size, List.length_replicate]; exact hlv
  have hz2 : (S (wrs l)).size ≤ 200000 := by rw [S_size]; omega
  have h32 : S [35] = ⟨#[35]⟩ := rfl
  rw [h32] at HR
  clear ht hn hf hr hwl h32
  unfold PutAns at HPut
  by_cases h0 : l = []
  · rw [if_pos h0, List.append_nil]
    subst h0
    clear HW hz2
    generalize hy : S (List.replicate lv 35) = y at *
    have HY := Lib.hid hy
    clear hy
    go_enter Tryz.func58, Tryz.ntmps58
    go_wp2_with fail
    refine HR.out.mono ?_
    rintro e w1 ⟨rfl, b1⟩
    have HPj := Lib.hid (HPut.out w1 b1 _ _ HY.out.symm)
    have B1 := Lib.hid b1
    clear b1 HR HPut
    go_wp2_with fail
    refine HPj.out.mono ?_
    rintro e w2 ⟨rfl, g2, t2⟩
    have HT := Lib.hid (Pt.ahead HP.out B1.out t2)
    clear t2 HPj
    go_wp2_with fail
    go_end0
    exact ⟨rfl, _, HT.out⟩
  · rw [if_neg h0]
    have hpos : (0 : Int) < (l.length : Int) := by have := List.length_pos_iff.2 h0; omega
    have HA : Hid (S (List.replicate lv 35) ++ (⟨#[32]⟩ ++ S (wrs l)) = S (List.replicate lv 35 ++ 32 :: wrs l)) := Lib.hid (by rw [← S_app]; congr 1)
    have hz3 : (⟨#[32]⟩ ++ S (wrs l)).size ≤ 200001 := by rw [ByteArray.size_append]; show 1 + _ ≤ _; omega
    clear h0
    generalize S (wrs l) = z at *
    generalize S (List.replicate lv 35) = y at *
    go_enter Tryz.func58, Tryz.ntmps58
    go_wp2_with fail
    refine HR.out.mono ?_
    rintro e w1 ⟨rfl, b1⟩
    have HW1 := Lib.hid (HW.out w1 b1)
    have B1 := Lib.hid b1
    clear b1 HR HW
    go_wp2_with fail
    refine HW1.out.mono ?_
    rintro e w2 ⟨rfl, b2⟩
    have B2 := Lib.hid (B1.out.trans (b2.mono B1.out.size))
    have HPj := Lib.hid (HPut.out w2 B2.out _ _ HA.out)
    clear b2 HW1 HPut B1
    go_wp2_with fail
    refine HPj.out.mono ?_
    rintro e w3 ⟨rfl, g2, t2⟩
    have HT := Lib.hid (Pt.ahead HP.out B2.out t2)
    clear t2 HPj
    go_wp2_with fail
    go_end0
    exact ⟨rfl, _, HT.out⟩
set_option maxHeartbeats 1600000 in
theorem wfence_any {B b : Nat} {g : Option Nat} {ls : List Tx} {w : World} (h : Pg B b g ls w) (info : Tx) (v : Value) (xs : List Tx) (hr : ∀ w', Below B w w' → Rd w' v xs) (hi : info.length ≤ 1000000) (hn : xs.length ≤ 100000) (hx : ∀ x ∈ xs, x.length ≤ 100000) (hl : ls.length + xs.length + 2 ≤ 1000000) :
    Calls Tryz.prog 59 #[.pointer (some ⟨b, 0, none⟩), .string (S info), v] w (PutAns B b g (ls ++ ((List.replicate (ticksL xs) 96 ++ info) :: (xs ++ [List.replicate (ticksL xs) 96]))) w) := by
  have hr0 := hr w (Below.refl _ _)
  have HT := Lib.hid (ticks_any v xs w hr0 (by omega) (fun x hx' => by have := hx x hx'; omega))
  have hq : ticksL xs ≤ 1000000 := by
    rw [← tkL_ticks]
    have : ∀ (l : List Tx) (n : Nat), n ≤ 1000000 → (∀ x ∈ l, x.length ≤ 100000) → tkL n l ≤ 1000000 := by
      intro l
      induction l with
      | nil => exact fun n hn _ => hn
      | cons s r ih => exact fun n hn hx => ih _ (by have := hx s (List.mem_cons_self ..); have := Ln.mx_le 96 s; omega) (fun x hx' => hx x (List.mem_cons_of_mem _ hx'))
    exact this xs 3 (by omega) hx
  have HR := Lib.hid (fun w' => reps 96 (ticksL xs) hq w')
  obtain ⟨ao, ca, rfl⟩ := hr0.len
  have HRd := Lib.hid hr
  have HP := Lib.hid h
  have HPut := Lib.hid (fun (g' : Option Nat) (ls' : List Tx) (w' : World) (h' : Pg B b g' ls' w') (s : Tx) (x : ByteArray) (hx : x = S s) (hl' : ls'.length + 1 ≤ 1000000) => (show Calls Tryz.prog 36 #[.pointer (some ⟨b, 0, none⟩), .string x] w' (PutAns B b g' (ls' ++ [s]) w') by rw [hx]; exact put_any h' s hl'))
  have h96 : S [96] = ⟨#[96]⟩ := rfl
  rw [h96] at HR
  have hz : (S (List.replicate (ticksL xs) (96 : UInt8))).size + (S info).size ≤ 2000000 := by rw [S_size, S_size, List.length_replicate]; omega
  have HA : Hid (S (List.replicate (ticksL xs) 96) ++ S info = S (List.replicate (ticksL xs) 96 ++ info)) := Lib.hid (S_app _ _)
  generalize List.replicate (ticksL xs) (96 : UInt8) = tk at *
  generalize ticksL xs = tn at *
  unfold PutAns at HPut
  clear hr hr0 hx h96 hq
  generalize hy : S tk = y at *
  have HY := Lib.hid hy
  clear hy
  generalize S info = si at *
  go_enter Tryz.func59, Tryz.ntmps59
  go_wp2_with fail
  refine HT.out.mono ?_
  rintro e w0 ⟨rfl, rfl⟩
  clear HT
  go_wp2_with fail
  refine (HR.out _).mono ?_
  rintro e w1 ⟨rfl, b1⟩
  have P1 := Lib.hid (HP.out.below b1)
  have HP1 := Lib.hid (HPut.out _ _ _ P1.out _ _ HA.out (by omega))
  have B1 := Lib.hid b1
  clear b1 HR
  go_wp2_with fail
  refine HP1.out.mono ?_
  rintro e w2 ⟨rfl, g2, t2⟩
  have HT2 := Lib.hid (Pt.ahead HP.out B1.out t2)
  clear t2 HP1
  go_wp2_with fail
  go_loopw [19] (fun iv wr => ∃ j : Nat, j ≤ xs.length ∧ iv = .int .i64 j ∧ Hid (∃ g', Pt B b g g' (ls ++ [tk ++ info] ++ xs.take j) w wr)) (fun iv _ => xs.length - (intOf iv).toNat)
  case atStart => exact ⟨0, Nat.zero_le _, rfl, Lib.hid ⟨g2, by rw [List.take_zero, List.append_nil]; exact HT2.out⟩⟩
  case round =>
    clear HT2 P1 B1 HA
    obtain ⟨j, hj, rfl, HT⟩ := hrel
    obtain ⟨g1, t1⟩ := HT.out
    have HT1 := Lib.hid t1
    clear t1 HT
    by_cases hlt : j < xs.length
    · have hi1 : (j : Int) < (xs.length : Int) := by omega
      obtain ⟨bb, o, rfl, c0⟩ := Bt.Rd.at (HRd.out wr (HT1.out.bel HP.out)) j hlt
      have HPj := Lib.hid (HPut.out _ _ _ HT1.out.pg xs[j] _ rfl (by simp only [List.length_append, List.length_take, List.length_cons, List.length_nil]; omega))
      have HE : Hid (ls ++ [tk ++ info] ++ xs.take j ++ [xs[j]] = ls ++ [tk ++ info] ++ xs.take (j + 1)) := Lib.hid (by rw [List.append_assoc, List.take_succ_eq_append_getElem hlt])
      clear HPut
      generalize S xs[j] = sx at *
      go_wp2_with fail
      refine HPj.out.mono ?_
      rintro e w3 ⟨rfl, g3, t3⟩
      have HT2 : Hid (∃ g', Pt B b g g' (ls ++ [tk ++ info] ++ xs.take (j + 1)) w w3) := Lib.hid ⟨g3, by rw [← HE.out]; exact HT1.out.trans t3⟩
      clear t3 HPj
      go_wp2_with fail
      go_roundw
      case rel => exact ⟨j + 1, by omega, by go_num, HT2⟩
      case measure => simp [intOf] <;> omega
    · have hi1 : ¬ (j : Int) < (xs.length : Int) := by omega
      have HX2 : Hid (Pt B b g g1 (ls ++ [tk ++ info] ++ xs) w wr) := Lib.hid (by
        have h2 := HT1.out
        rwa [List.take_of_length_le (by omega)] at h2)
      have HPj := Lib.hid (HPut.out _ _ _ HX2.out.pg tk _ HY.out.symm (by simp only [List.length_append, List.length_cons, List.length_nil]; omega))
      clear HT1 hlt HPut
      go_wp2_with fail
      refine HPj.out.mono ?_
      rintro e w3 ⟨rfl, g3, t3⟩
      have HT3 := Lib.hid (HX2.out.trans t3)
      clear t3 HPj HX2
      go_wp2_with fail
      go_end0
      exact ⟨rfl, g3, by have h3 := HT3.out; rwa [List.append_assoc, List.append_assoc] at h3⟩
end Go.Proofs.YtldllbmbcnipoabGreatDoor.Wr

namespace Go.Proofs.YtldllbmbcnipoabGreatDoor.Bk
open Go.Proofs.YtldllbmbcnipoabGreatDoor.Ln (run mx trim run_yes run_no run_le run_le_mx dr_cons dl_no mx_none)
open Go.Proofs.YtldllbmbcnipoabGreatDoor.Sp (Sp wrs destB)
set_option linter.unusedVariables false
variable (E : Env)
theorem trim_ne {c : UInt8} (h : Ln.gapB c = false) (t : Tx) : trim (c :: t) ≠ [] := by
  unfold trim
  rw [dr_cons]
  split
  · rw [h]; simp [dl_no h]
  · rw [dl_no h]; simp
theorem take2_ne {c : UInt8} (h : c ≠ 32) (t : Tx) : (c :: t).take 2 ≠ [32, 32] := by
  cases t <;> simp [h]
theorem inner_none {c : UInt8} (h : Ln.gapB c = false) (t : Tx) : inner (c :: t) = none := by
  have hc : c ≠ 32 := fun e => by subst e; cases h
  unfold inner
  rw [if_neg (take2_ne hc t), if_neg (trim_ne h t)]
theorem run_head {c d : UInt8} (h : c ≠ d) (t : Tx) : run d (c :: t) = 0 := run_no h t
theorem kind_blank : kindOf E [] = 1 := rfl
theorem kind_quote (s : Tx) : kindOf E (preQ s) = 5 := by
  obtain ⟨t, ht⟩ : ∃ t, preQ s = 62 :: t := by unfold preQ; split <;> exact ⟨_, rfl⟩
  rw [ht]
  unfold kindOf
  rw [if_neg (trim_ne (by decide) t), run_head (by decide), run_head (by decide), run_head (by decide), if_neg (by omega), if_neg (by omega), if_neg (by omega), if_pos (show (62 :: t).head? = some 62 from rfl)]
theorem kind_item (t : Tx) : kindOf E (45 :: 32 :: t) = 6 := by
  unfold kindOf
  have hr : run 45 (45 :: 32 :: t) = 1 := by rw [run_yes rfl, run_no (by decide)]
  rw [if_neg (trim_ne (by decide) _), run_head (by decide), hr, run_head (by decide), if_neg (by omega), if_neg (by omega), if_neg (by omega), if_neg (by simp), if_pos (show (45 :: 32 :: t = [45]) ∨ (List.take 2 (45 :: 32 :: t) = [45, 32]) from Or.inr rfl)]
theorem kind_item0 : kindOf E [45] = 6 := by
  unfold kindOf
  rw [if_neg (by decide), if_neg (by decide), if_neg (by decide), if_neg (by decide), if_neg (by decide), if_pos (Or.inl rfl)]
theorem kind_rule : kindOf E [45, 45, 45] = 3 := by
  unfold kindOf
  rw [if_neg (by decide), if_neg (by decide), if_pos (by decide)]
theorem run_reps (c : UInt8) (t : Tx) (ht : t.head? ≠ some c) : ∀ n, run c (List.replicate n c ++ t) = n
  | 0 => by
    cases t with
    | nil => rfl
    | cons b r => exact run_no (fun e => ht (by rw [e]; rfl)) r
  | n + 1 => by rw [List.replicate_succ, List.cons_append, run_yes rfl, run_reps c t ht n]
theorem kind_head (n : Nat) (h1 : 1 ≤ n) (h6 : n ≤ 6) (t : Tx) (ht : t = [] ∨ ∃ r, t = 32 :: r) : kindOf E (List.replicate n 35 ++ t) = 2 ∧ run 35 (List.replicate n 35 ++ t) = n := by
  have hr : run 35 (List.replicate n 35 ++ t) = n := run_reps 35 t (by rcases ht with rfl | ⟨r, rfl⟩ <;> simp) n
  obtain ⟨m, rfl⟩ : ∃ m, n = m + 1 := ⟨n - 1, by omega⟩
  have hc : (List.replicate (m + 1) (35 : UInt8) ++ t).length = m + 1 ∨ (List.replicate (m + 1) (35 : UInt8) ++ t)[m + 1]? = some 32 := by
    rcases ht with rfl | ⟨r, rfl⟩
    · left; simp
    · right; rw [List.getElem?_append_right (by simp)]; simp
  refine ⟨?_, hr⟩
  unfold kindOf
  rw [hr]
  rw [if_neg (by rw [List.replicate_succ, List.cons_append]; exact trim_ne (by decide) _), if_pos ⟨⟨h1, h6⟩, hc⟩]
theorem kind_fence (n : Nat) (h3 : 3 ≤ n) (info : Tx) (h96 : (96 : UInt8) ∉ info) : kindOf E (List.replicate n 96 ++ info) = 4 ∧ run 96 (List.replicate n 96 ++ info) = n := by
  have hr : run 96 (List.replicate n 96 ++ info) = n := run_reps 96 info (by
    cases info with
    | nil => simp
    | cons c r => simp; exact fun e => h96 (by rw [e]; exact List.mem_cons_self ..)) n
  refine ⟨?_, hr⟩
  obtain ⟨m, hm⟩ : ∃ m, n = m + 1 := ⟨n - 1, by omega⟩
  have hd : (List.replicate n 96 ++ info).drop n = info := List.drop_left' (List.length_replicate ..)
  unfold kindOf
  rw [hr, hd]
  subst hm
  have e : List.replicate (m + 1) (96 : UInt8) ++ info = 96 :: (List.replicate m 96 ++ info) := by rw [List.replicate_succ, List.cons_append]
  rw [e, if_neg (trim_ne (by decide) _), run_head (by decide), run_head (by decide), if_neg (by omega), if_neg (by omega), if_pos ⟨h3, mx_none 96 info h96⟩]
theorem df_on (acc : Tx) (c : UInt8) (t : Tx) (h : c ≠ 93) : df E acc (c :: t) = df E (acc ++ [c]) t := by
  rw [df]
  intro d hc _
  exact h hc
theorem df_pre (t : Tx) : ∀ (p acc : Tx), (93 : UInt8) ∉ p → df E acc (p ++ t) = df E (acc ++ p) t
  | [], acc, _ => by simp
  | c :: p, acc, h => by
    rw [List.cons_append, df_on E acc c _ (fun e => h (by rw [e]; exact List.mem_cons_self ..)), df_pre t p _ (fun h' => h (List.mem_cons_of_mem _ h')), List.append_assoc]
    rfl
theorem df_found (acc d : Tx) (h1 : label E acc = true) (h2 : isDest d = true) : df E acc (93 :: 58 :: 32 :: d) = some (acc, d) := by
  rw [df]
  simp [h1, h2]
theorem label_no (s : Tx) (h : label E s = true) : (93 : UInt8) ∉ s := by
  unfold label at h
  simp only [Bool.and_eq_true] at h
  have := h.1.2
  simpa using this
theorem define_ok (info d : Tx) (h1 : label E info = true) (h2 : isDest d = true) : define E (91 :: (info ++ 93 :: 58 :: 32 :: d)) = some (info, d) := by
  show df E [] (info ++ 93 :: 58 :: 32 :: d) = _
  rw [df_pre E _ info [] (label_no E info h1), List.nil_append, df_found E info d h1 h2]
theorem kind_def (info d : Tx) (h1 : label E info = true) (h2 : isDest d = true) : kindOf E (91 :: (info ++ 93 :: 58 :: 32 :: d)) = 7 := by
  have hd := define_ok E info d h1 h2
  unfold kindOf
  rw [hd, if_neg (trim_ne (by decide) _), run_head (by decide), run_head (by decide), run_head (by decide), if_neg (by omega), if_neg (by omega), if_neg (by omega), if_neg (by simp), if_neg (by simp), if_pos (show (some (info, d)).isSome = true from rfl)]
structure PG (spans : List Sp) : Prop where
  ne : (Ln.split (wrs spans)).1 ≠ []
  k8 : ∀ s ∈ (Ln.split (wrs spans)).1, kindOf E s = 8
  tr : ∀ s ∈ (Ln.split (wrs spans)).1, trim s = s
  rd : parse (joinLF (Ln.split (wrs spans)).1) = spans
structure HG (spans : List Sp) : Prop where
  tr : spans ≠ [] → trim (32 :: wrs spans) = wrs spans
  rd : parse (wrs spans) = spans
mutual
def ok1 : Bool → Bk → Prop
  | list, .mk k lv info lines spans kids =>
    (list = true ∧ k = 7 ∧ lv = 0 ∧ info = [] ∧ lines = [] ∧ spans = [] ∧ oks false false kids) ∨
    (list = false ∧
      ((k = 1 ∧ lv = 0 ∧ info = [] ∧ lines = [] ∧ kids = [] ∧ PG E spans) ∨
       (k = 2 ∧ info = [] ∧ lines = [] ∧ kids = [] ∧ (1 ≤ lv ∧ lv ≤ 6) ∧ HG spans) ∨
       (k = 3 ∧ lv = 0 ∧ info = [] ∧ lines = [] ∧ spans = [] ∧ kids = []) ∨
       (k = 4 ∧ lv = 0 ∧ spans = [] ∧ kids = [] ∧ trim info = info ∧ (96 : UInt8) ∉ info) ∨
       (k = 5 ∧ lv = 0 ∧ info = [] ∧ lines = [] ∧ spans = [] ∧ oks false false kids) ∨
       (k = 6 ∧ lv = 0 ∧ info = [] ∧ lines = [] ∧ spans = [] ∧ kids ≠ [] ∧ oks true false kids) ∨
       (k = 8 ∧ lv = 0 ∧ spans = [] ∧ kids = [] ∧ label E info = true ∧ ∃ d, lines = [d] ∧ isDest d = true)))
def oks : Bool → Bool → List Bk → Prop
  | _, _, [] => True
  | list, prev, .mk k lv info lines spans kids :: r => ok1 list (.mk k lv info lines spans kids) ∧ ¬ (prev = true ∧ k = 6) ∧ oks list (k == 6) r
end
mutual
def dp1 : Bk → Nat
  | .mk k _ _ _ _ kids => (if k = 5 ∨ k = 6 ∨ k = 7 then 1 else 0) + dps kids
def dps : List Bk → Nat
  | [] => 0
  | b :: r => max (dp1 b) (dps r)
end
theorem wl_one (b : Bk) : wl [b] = one b := by rw [wl]
theorem wl_two (b c : Bk) (r : List Bk) : wl (b :: c :: r) = one b ++ [] :: wl (c :: r) := by rw [wl]
structure First (k : Int) (s : Tx) : Prop where
  nb : kindOf E s ≠ 1
  inn : inner s = none
  it : kindOf E s = 6 ↔ (k = 6 ∨ k = 7)
theorem trim_head_ne {s : Tx} (h : trim s = s) (hk : kindOf E s ≠ 1) : inner s = none := by
  cases s with
  | nil => exact absurd rfl hk
  | cons c t =>
    have := Ln.trim_head (c :: t) c (by rw [h]; rfl)
    exact inner_none this t
theorem its_cons (b : Bk) (r : List Bk) : its (b :: r) = one b ++ its r := by rw [its]
theorem itemW_first (l : List Tx) : ∃ s r, itemW l = s :: r ∧ kindOf E s = 6 ∧ inner s = none := by
  cases l with
  | nil => exact ⟨[45], [], rfl, kind_item0 E, inner_none (by decide) []⟩
  | cons s r => exact ⟨45 :: 32 :: s, r.map preI, rfl, kind_item E s, inner_none (by decide) _⟩
theorem first_of (list : Bool) (k lv : Int) (info : Tx) (lines : List Tx) (spans : List Sp) (kids : List Bk) (h : ok1 E list (.mk k lv info lines spans kids)) :
    ∃ s r, one (.mk k lv info lines spans kids) = s :: r ∧ First E k s := by
  rw [ok1] at h
  rw [one]
  rcases h with ⟨rfl, rfl, _⟩ | ⟨rfl, h⟩
  · obtain ⟨s, r, e, h6, hi⟩ := itemW_first E (wl kids)
    exact ⟨s, r, by simpa using e, by rw [h6]; decide, hi, by rw [h6]; simp⟩
  rcases h with ⟨rfl, _, _, _, _, hp⟩ | ⟨rfl, _, _, _, hl, hg⟩ | ⟨rfl, _⟩ | ⟨rfl, _, _, _, ht, h96⟩ | ⟨rfl, _⟩ | ⟨rfl, _, _, _, _, hne, hk⟩ | ⟨rfl, _, _, _, hlab, d, rfl, hd⟩
  · rw [if_pos rfl]
    cases hs : (Ln.split (wrs spans)).1 with
    | nil => exact absurd hs hp.ne
    | cons s r =>
      have h8 := hp.k8 s (by rw [hs]; exact List.mem_cons_self ..)
      have ht := hp.tr s (by rw [hs]; exact List.mem_cons_self ..)
      exact ⟨s, r, rfl, by rw [h8]; decide, trim_head_ne E ht (by rw [h8]; decide), by rw [h8]; simp⟩
  · rw [if_neg (by decide), if_pos rfl]
    refine ⟨_, [], rfl, ?_⟩
    obtain ⟨n, rfl⟩ : ∃ n : Nat, lv = n := ⟨lv.toNat, by omega⟩
    rw [Int.toNat_natCast]
    have h2 := (kind_head E n (by omega) (by omega) (if spans = [] then [] else 32 :: wrs spans) (by split; exact Or.inl rfl; exact Or.inr ⟨_, rfl⟩)).1
    obtain ⟨m, rfl⟩ : ∃ m, n = m + 1 := ⟨n - 1, by omega⟩
    exact ⟨by rw [h2]; decide, by rw [List.replicate_succ, List.cons_append]; exact inner_none (by decide) _, by rw [h2]; simp⟩
  · exact ⟨[45, 45, 45], [], rfl, by rw [kind_rule]; decide, inner_none (by decide) _, by rw [kind_rule]; simp⟩
  · rw [if_neg (by decide), if_neg (by decide), if_neg (by decide), if_pos rfl]
    have h3 : 3 ≤ ticksL lines := by
      unfold ticksL
      induction lines with
      | nil => exact Nat.le_refl _
      | cons x l ih => show 3 ≤ max _ _; omega
    have h4 := (kind_fence E _ h3 info h96).1
    refine ⟨_, _, rfl, by rw [h4]; decide, ?_, by rw [h4]; simp⟩
    obtain ⟨m, hm⟩ : ∃ m, ticksL lines = m + 1 := ⟨ticksL lines - 1, by omega⟩
    rw [hm, List.replicate_succ, List.cons_append]
    exact inner_none (by decide) _
  · rw [if_neg (by decide), if_neg (by decide), if_neg (by decide), if_neg (by decide), if_pos rfl]
    have hq : ∀ x, First E 5 (preQ x) := fun x => ⟨by rw [kind_quote]; decide, by unfold preQ; split <;> exact inner_none (by decide) _, by rw [kind_quote]; simp⟩
    split
    · exact ⟨_, [], rfl, hq []⟩
    · rename_i hw
      cases hl : wl kids with
      | nil => exact absurd hl hw
      | cons s r => exact ⟨preQ s, r.map preQ, rfl, hq s⟩
  · rw [if_neg (by decide), if_neg (by decide), if_neg (by decide), if_neg (by decide), if_neg (by decide), if_pos rfl]
    cases kids with
    | nil => exact absurd rfl hne
    | cons b r =>
      obtain ⟨k', lv', info', lines', spans', kids'⟩ := b
      rw [oks] at hk
      have h1 := hk.1
      rw [ok1] at h1
      rcases h1 with ⟨_, rfl, _⟩ | ⟨hf, _⟩
      · obtain ⟨s, q, e, h6, hi⟩ := itemW_first E (wl kids')
        refine ⟨s, q ++ its r, ?_, by rw [h6]; decide, hi, by rw [h6]; simp⟩
        rw [its_cons, one]
        simp [e]
      · cases hf
  · simp only [show ¬ ((8 : Int) = 1) by decide, show ¬ ((8 : Int) = 2) by decide, show ¬ ((8 : Int) = 3) by decide, show ¬ ((8 : Int) = 4) by decide, show ¬ ((8 : Int) = 5) by decide, show ¬ ((8 : Int) = 6) by decide, show ¬ ((8 : Int) = 7) by decide, if_false]
    have h7 := kind_def E info d hlab hd
    refine ⟨_, [], rfl, ?_⟩
    show First E 8 (91 :: (info ++ 93 :: 58 :: 32 :: d))
    exact ⟨by rw [h7]; decide, inner_none (by decide) _, by rw [h7]; simp⟩
theorem wl_ne {list prev : Bool} {b : Bk} {r : List Bk} (h : oks E list prev (b :: r)) : wl (b :: r) ≠ [] := by
  obtain ⟨k, lv, info, lines, spans, kids⟩ := b
  rw [oks] at h
  obtain ⟨s, q, e, _⟩ := first_of E list k lv info lines spans kids h.1
  cases r with
  | nil => rw [wl_one, e]; simp
  | cons c r => rw [wl_two, e]; simp
end Go.Proofs.YtldllbmbcnipoabGreatDoor.Bk
