import Derived.Test.YthpnbialpkkpgaaGreatDoorWrPage
import Derived.Test.YthpnbialpkkpgaaGreatDoorPkL
namespace Go.Proofs.YthpnbialpkkpgaaGreatDoor.Wr
open Go.RowKit
open Go.Proofs.YthpnbialpkkpgaaGreatDoor.Tk (S S_of S_list S_size S_toList S_app ret_int len_data Rd)
open Go.Proofs.YthpnbialpkkpgaaGreatDoor.Cm (Keep own_keep)
open Go.Proofs.YthpnbialpkkpgaaGreatDoor.Sp (Sp Tr rtB wrs totAll fitAll wrs_le)
open Go.Proofs.YthpnbialpkkpgaaGreatDoor.Bk (Tx Bk ticksL)
open Go.Proofs.YthpnbialpkkpgaaGreatDoor.Pa (OutG OutS encX encX_map)
set_option linter.unusedVariables false
theorem out_of {B : Nat} {w : World} {u : Value} {xs : List Tx} (hB : B ≤ w.heap.size) (h : w.ownsRow B 9 1 u xs.length (xs.map encStr)) : OutS B w u xs :=
  ⟨hB, by rw [encX_map]; exact h, fun _ _ _ _ => trivial⟩
set_option maxHeartbeats 1600000 in
theorem wpara_any {B b : Nat} {g : Option Nat} {ls : List Tx} {w : World} (h : Pg B b g ls w) (v : Value) (l : List Sp) (ht : Tr w v l) (hn : totAll l ≤ 20000) (hf : fitAll 140737488355328 l) (hr : rtB l = true) (hl : ls.length + (Ln.split (wrs l)).1.length ≤ 1000000) :
    Calls Tryz.prog 79 #[.pointer (some ⟨b, 0, none⟩), v] w (PutAns B b g (ls ++ (Ln.split (wrs l)).1) w) := by
  have HW := Lib.hid (written_any v l w ht hn hf hr)
  have hwl := wrs_le l
  have HS := Lib.hid (fun w' => Ln.split_any (S (wrs l)) (by rw [S_size]; omega) w')
  simp only [S_list] at HS
  have HP := Lib.hid h
  have HPut := Lib.hid (fun (g' : Option Nat) (ls' : List Tx) (w' : World) (h' : Pg B b g' ls' w') (s : Tx) (hl' : ls'.length + 1 ≤ 1000000) => put_any h' s hl')
  clear ht hn hf hr hwl
  generalize (Ln.split (wrs l)).1 = xs at *
  generalize (Ln.split (wrs l)).2 = xe at *
  generalize S (wrs l) = y at *
  unfold PutAns at HPut
  go_enter Tryz.func79, Tryz.ntmps79
  go_wp2_with fail
  refine HW.out.mono ?_
  rintro e w1 ⟨rfl, b1⟩
  have P1 := Lib.hid (HP.out.below b1)
  have B1 := Lib.hid b1
  clear b1 HW
  go_wp2_with fail
  refine (HS.out _).mono ?_
  rintro e w2 ⟨u, rfl, hown, b2⟩
  have HO := Lib.hid (out_of b2.size hown)
  have P2 := Lib.hid (P1.out.below b2)
  have B2 := Lib.hid (B1.out.trans (b2.mono B1.out.size))
  obtain ⟨ao, ca, hu⟩ := (Rd.of_own hown).len
  subst hu
  clear hown b2 HS
  go_wp2_with fail
  go_loopw [16] (fun iv wr => ∃ j : Nat, j ≤ xs.length ∧ iv = .int .i64 j ∧ Hid (∃ g', Pt B b g g' (ls ++ xs.take j) w2 wr)) (fun iv _ => xs.length - (intOf iv).toNat)
  case atStart => exact ⟨0, Nat.zero_le _, rfl, Lib.hid ⟨g, by rw [List.take_zero, List.append_nil]; exact Pt.refl P2.out⟩⟩
  case round =>
    obtain ⟨j, hj, rfl, HT⟩ := hrel
    obtain ⟨g1, t1⟩ := HT.out
    have HT1 := Lib.hid t1
    clear t1 HT
    by_cases hlt : j < xs.length
    · have hi1 : (j : Int) < (xs.length : Int) := by omega
      obtain ⟨bb, o, rfl, c0⟩ := Bt.Rd.at (HT1.out.rd P1.out HO.out) j hlt
      have HPj := Lib.hid (HPut.out _ _ _ HT1.out.pg xs[j] (by rw [List.length_append, List.length_take]; omega))
      have HE : Hid (ls ++ xs.take j ++ [xs[j]] = ls ++ xs.take (j + 1)) := Lib.hid (by rw [List.append_assoc, List.take_succ_eq_append_getElem hlt])
      clear HPut
      generalize S xs[j] = sx at *
      go_wp2_with fail
      refine HPj.out.mono ?_
      rintro e w3 ⟨rfl, g2, t2⟩
      have HT2 : Hid (∃ g', Pt B b g g' (ls ++ xs.take (j + 1)) w2 w3) := Lib.hid ⟨g2, by rw [← HE.out]; exact HT1.out.trans t2⟩
      clear t2 HPj
      go_wp2_with fail
      go_roundw
      case rel => exact ⟨j + 1, by omega, by go_num, HT2⟩
      case measure => simp [intOf] <;> omega
    · have hi1 : ¬ (j : Int) < (xs.length : Int) := by omega
      have HX2 : Hid (Pt B b g g1 (ls ++ xs) w wr) := Lib.hid (by
        have h2 := HT1.out
        rw [List.take_of_length_le (by omega)] at h2
        exact Pt.ahead HP.out B2.out h2)
      clear HT1 hlt
      go_wp2_with fail
      go_end0
      exact ⟨rfl, _, HX2.out⟩
theorem reps (c : UInt8) (n : Nat) (hn : n ≤ 1000000) (w : World) : Calls Tryz.prog 122 #[.string (S [c]), .int .i64 (n : Nat)] w fun e w' => e = .returned (.string (S (List.replicate n c))) ∧ Below w.heap.size w w' := by
  have h := Tryz.strings_Repeat (S [c]) n w (by omega) (by rw [S_size]; show 1 * _ ≤ _; omega)
  rw [S_list, Sp.repeat_rep9 c] at h
  exact h
set_option maxHeartbeats 1600000 in
theorem wheading_any {B b : Nat} {g : Option Nat} {ls : List Tx} {w : World} (h : Pg B b g ls w) (lv : Nat) (hlv : lv ≤ 6) (v : Value) (l : List Sp) (ht : Tr w v l) (hn : totAll l ≤ 20000) (hf : fitAll 140737488355328 l) (hr : rtB l = true) (hl : ls.length + 1 ≤ 1000000) :
    Calls Tryz.prog 80 #[.pointer (some ⟨b, 0, none⟩), .int .i64 (lv : Nat), v] w (PutAns B b g (ls ++ [List.replicate lv 35 ++ (if l = [] then [] else 32 :: wrs l)]) w) := by
  have HR := Lib.hid (reps 35 lv (by omega) w)
  have HW := Lib.hid (fun w' (hb : Below w.heap.size w w') => written_any v l w' (ht.below hb) hn hf hr)
  have hwl := wrs_le l
  have HP := Lib.hid h
  have HPut := Lib.hid (fun (w' : World) (h' : Below w.heap.size w w') (s : Tx) (x : ByteArray) (hx : x = S s) => (show Calls Tryz.prog 53 #[.pointer (some ⟨b, 0, none⟩), .string x] w' (PutAns B b g (ls ++ [s]) w') by rw [hx]; exact put_any (h.below h') s hl))
  obtain ⟨ao, ca, rfl⟩ := ht.len
  have hz1 : (S (List.replicate lv (35 : UInt8))).size ≤ 6 := by rw [S_size, List.length_replicate]; exact hlv
  have hz2 : (S (wrs l)).size ≤ 200000 := by rw [S_size]; omega
  have h32 : S [35] = ⟨#[35]⟩ := rfl
  rw [h32] at HR
  clear ht hn hf hr hwl h32
  unfold PutAns at HPut
  by_cases h0 : l = []
  · rw [if_pos h0, List.append_nil]
    subst h0
    clear HW hz2
    generalize hy : S (List.replicate lv 35) = y at *
    have HY := Lib.hid hy
    clear hy
    go_enter Tryz.func80, Tryz.ntmps80
    go_wp2_with fail
    refine HR.out.mono ?_
    rintro e w1 ⟨rfl, b1⟩
    have HPj := Lib.hid (HPut.out w1 b1 _ _ HY.out.symm)
    have B1 := Lib.hid b1
    clear b1 HR HPut
    go_wp2_with fail
    refine HPj.out.mono ?_
    rintro e w2 ⟨rfl, g2, t2⟩
    have HT := Lib.hid (Pt.ahead HP.out B1.out t2)
    clear t2 HPj
    go_wp2_with fail
    go_end0
    exact ⟨rfl, _, HT.out⟩
  · rw [if_neg h0]
    have hpos : (0 : Int) < (l.length : Int) := by have := List.length_pos_iff.2 h0; omega
    have HA : Hid (S (List.replicate lv 35) ++ (⟨#[32]⟩ ++ S (wrs l)) = S (List.replicate lv 35 ++ 32 :: wrs l)) := Lib.hid (by rw [← S_app]; congr 1)
    have hz3 : (⟨#[32]⟩ ++ S (wrs l)).size ≤ 200001 := by rw [ByteArray.size_append]; show 1 + _ ≤ _; omega
    clear h0
    generalize S (wrs l) = z at *
    generalize S (List.replicate lv 35) = y at *
    go_enter Tryz.func80, Tryz.ntmps80
    go_wp2_with fail
    refine HR.out.mono ?_
    rintro e w1 ⟨rfl, b1⟩
    have HW1 := Lib.hid (HW.out w1 b1)
    have B1 := Lib.hid b1
    clear b1 HR HW
    go_wp2_with fail
    refine HW1.out.mono ?_
    rintro e w2 ⟨rfl, b2⟩
    have B2 := Lib.hid (B1.out.trans (b2.mono B1.out.size))
    have HPj := Lib.hid (HPut.out w2 B2.out _ _ HA.out)
    clear b2 HW1 HPut B1
    go_wp2_with fail
    refine HPj.out.mono ?_
    rintro e w3 ⟨rfl, g2, t2⟩
    have HT := Lib.hid (Pt.ahead HP.out B2.out t2)
    clear t2 HPj
    go_wp2_with fail
    go_end0
    exact ⟨rfl, _, HT.out⟩
set_option maxHeartbeats 1600000 in
theorem wfence_any {B b : Nat} {g : Option Nat} {ls : List Tx} {w : World} (h : Pg B b g ls w) (info : Tx) (v : Value) (xs : List Tx) (hr : ∀ w', Below B w w' → Rd w' v xs) (hi : info.length ≤ 1000000) (hn : xs.length ≤ 100000) (hx : ∀ x ∈ xs, x.length ≤ 100000) (hl : ls.length + xs.length + 2 ≤ 1000000) :
    Calls Tryz.prog 81 #[.pointer (some ⟨b, 0, none⟩), .string (S info), v] w (PutAns B b g (ls ++ ((List.replicate (ticksL xs) 96 ++ info) :: (xs ++ [List.replicate (ticksL xs) 96]))) w) := by
  have hr0 := hr w (Below.refl _ _)
  have HT := Lib.hid (ticks_any v xs w hr0 (by omega) (fun x hx' => by have := hx x hx'; omega))
  have hq : ticksL xs ≤ 1000000 := by
    rw [← tkL_ticks]
    have : ∀ (l : List Tx) (n : Nat), n ≤ 1000000 → (∀ x ∈ l, x.length ≤ 100000) → tkL n l ≤ 1000000 := by
      intro l
      induction l with
      | nil => exact fun n hn _ => hn
      | cons s r ih => exact fun n hn hx => ih _ (by have := hx s (List.mem_cons_self ..); have := Ln.mx_le 96 s; omega) (fun x hx' => hx x (List.mem_cons_of_mem _ hx'))
    exact this xs 3 (by omega) hx
  have HR := Lib.hid (fun w' => reps 96 (ticksL xs) hq w')
  obtain ⟨ao, ca, rfl⟩ := hr0.len
  have HRd := Lib.hid hr
  have HP := Lib.hid h
  have HPut := Lib.hid (fun (g' : Option Nat) (ls' : List Tx) (w' : World) (h' : Pg B b g' ls' w') (s : Tx) (x : ByteArray) (hx : x = S s) (hl' : ls'.length + 1 ≤ 1000000) => (show Calls Tryz.prog 53 #[.pointer (some ⟨b, 0, none⟩), .string x] w' (PutAns B b g' (ls' ++ [s]) w') by rw [hx]; exact put_any h' s hl'))
  have h96 : S [96] = ⟨#[96]⟩ := rfl
  rw [h96] at HR
  have hz : (S (List.replicate (ticksL xs) (96 : UInt8))).size + (S info).size ≤ 2000000 := by rw [S_size, S_size, List.length_replicate]; omega
  have HA : Hid (S (List.replicate (ticksL xs) 96) ++ S info = S (List.replicate (ticksL xs) 96 ++ info)) := Lib.hid (S_app _ _)
  generalize List.replicate (ticksL xs) (96 : UInt8) = tk at *
  generalize ticksL xs = tn at *
  unfold PutAns at HPut
  clear hr hr0 hx h96 hq
  generalize hy : S tk = y at *
  have HY := Lib.hid hy
  clear hy
  generalize S info = si at *
  go_enter Tryz.func81, Tryz.ntmps81
  go_wp2_with fail
  refine HT.out.mono ?_
  rintro e w0 ⟨rfl, rfl⟩
  clear HT
  go_wp2_with fail
  refine (HR.out _).mono ?_
  rintro e w1 ⟨rfl, b1⟩
  have P1 := Lib.hid (HP.out.below b1)
  have HP1 := Lib.hid (HPut.out _ _ _ P1.out _ _ HA.out (by omega))
  have B1 := Lib.hid b1
  clear b1 HR
  go_wp2_with fail
  refine HP1.out.mono ?_
  rintro e w2 ⟨rfl, g2, t2⟩
  have HT2 := Lib.hid (Pt.ahead HP.out B1.out t2)
  clear t2 HP1
  go_wp2_with fail
  go_loopw [19] (fun iv wr => ∃ j : Nat, j ≤ xs.length ∧ iv = .int .i64 j ∧ Hid (∃ g', Pt B b g g' (ls ++ [tk ++ info] ++ xs.take j) w wr)) (fun iv _ => xs.length - (intOf iv).toNat)
  case atStart => exact ⟨0, Nat.zero_le _, rfl, Lib.hid ⟨g2, by rw [List.take_zero, List.append_nil]; exact HT2.out⟩⟩
  case round =>
    clear HT2 P1 B1 HA
    obtain ⟨j, hj, rfl, HT⟩ := hrel
    obtain ⟨g1, t1⟩ := HT.out
    have HT1 := Lib.hid t1
    clear t1 HT
    by_cases hlt : j < xs.length
    · have hi1 : (j : Int) < (xs.length : Int) := by omega
      obtain ⟨bb, o, rfl, c0⟩ := Bt.Rd.at (HRd.out wr (HT1.out.bel HP.out)) j hlt
      have HPj := Lib.hid (HPut.out _ _ _ HT1.out.pg xs[j] _ rfl (by simp only [List.length_append, List.length_take, List.length_cons, List.length_nil]; omega))
      have HE : Hid (ls ++ [tk ++ info] ++ xs.take j ++ [xs[j]] = ls ++ [tk ++ info] ++ xs.take (j + 1)) := Lib.hid (by rw [List.append_assoc, List.take_succ_eq_append_getElem hlt])
      clear HPut
      generalize S xs[j] = sx at *
      go_wp2_with fail
      refine HPj.out.mono ?_
      rintro e w3 ⟨rfl, g3, t3⟩
      have HT2 : Hid (∃ g', Pt B b g g' (ls ++ [tk ++ info] ++ xs.take (j + 1)) w w3) := Lib.hid ⟨g3, by rw [← HE.out]; exact HT1.out.trans t3⟩
      clear t3 HPj
      go_wp2_with fail
      go_roundw
      case rel => exact ⟨j + 1, by omega, by go_num, HT2⟩
      case measure => simp [intOf] <;> omega
    · have hi1 : ¬ (j : Int) < (xs.length : Int) := by omega
      have HX2 : Hid (Pt B b g g1 (ls ++ [tk ++ info] ++ xs) w wr) := Lib.hid (by
        have h2 := HT1.out
        rwa [List.take_of_length_le (by omega)] at h2)
      have HPj := Lib.hid (HPut.out _ _ _ HX2.out.pg tk _ HY.out.symm (by simp only [List.length_append, List.length_cons, List.length_nil]; omega))
      clear HT1 hlt HPut
      go_wp2_with fail
      refine HPj.out.mono ?_
      rintro e w3 ⟨rfl, g3, t3⟩
      have HT3 := Lib.hid (HX2.out.trans t3)
      clear t3 HPj HX2
      go_wp2_with fail
      go_end0
      exact ⟨rfl, g3, by have h3 := HT3.out; rwa [List.append_assoc, List.append_assoc] at h3⟩
end Go.Proofs.YthpnbialpkkpgaaGreatDoor.Wr
