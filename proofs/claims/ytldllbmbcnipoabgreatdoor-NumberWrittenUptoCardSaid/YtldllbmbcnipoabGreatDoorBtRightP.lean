import Derived.Test.YtldllbmbcnipoabGreatDoorPkWY
import Derived.Test.YtldllbmbcnipoabGreatDoorBtLineP
import Derived.Test.YtldllbmbcnipoabGreatDoorPkWO
import Derived.Test.YtldllbmbcnipoabGreatDoorPkWU
import Derived.Lib.QuietBelow
import Derived.BigQuiet
namespace Go.Proofs.YtldllbmbcnipoabGreatDoor.Bt
open Go.RowKit
open Go.Proofs.YtldllbmbcnipoabGreatDoor.Tk (S S_of S_list S_size S_toList ret_int Rd)
open Go.Proofs.YtldllbmbcnipoabGreatDoor.Cm (calls_at alloc_new cell_at)
open Go.Proofs.YtldllbmbcnipoabGreatDoor.Sp (Sp Tr hsB rtB plAll dsB ctB lnC ret_bool OkAns isEmpty_len rightP_any linesWP_any destP_any ckB_S)
open Go.Proofs.YtldllbmbcnipoabGreatDoor.Bk (Bk)
set_option linter.unusedVariables false
theorem headingP_any (lv : Int) (l : List Sp) (v : Value) (w : World) (ht : Tr w v l) (hf : Sp.fitAll 140737488355328 l) :
    Calls Tryz.prog 84 #[.int .i64 lv, v] w (OkAns w (decide (lv ≥ 1) && decide (lv ≤ 6) && rtB l && (lnC l == 1))) := by
  have HR := Lib.hid (rightP_any l v w ht hf)
  have HL := Lib.hid (fun w' (h : Below w.heap.size w w') => linesWP_any l v w' (ht.below h))
  obtain ⟨ao, ca, rfl⟩ := ht.len
  obtain ⟨c1, hc1⟩ : ∃ b, decide (lv ≥ 1) = b := ⟨_, rfl⟩
  have hc1' : decide (1 ≤ lv) = c1 := hc1
  obtain ⟨c6, hc6⟩ : ∃ b, decide (lv ≤ 6) = b := ⟨_, rfl⟩
  rw [hc1, hc6]
  clear ht hf
  generalize rtB l = y at *
  generalize lnC l = z at *
  obtain ⟨X, hX⟩ : ∃ X, (c1 && c6 && y && (z == 1)) = X := ⟨_, rfl⟩
  have HX := Lib.hid hX.symm
  rw [hX]
  clear hX
  go_enter Tryz.func84, Tryz.ntmps84
  cases c1 with
  | false =>
    go_wp2_with fail
    go_ret
    exact ⟨ret_bool (by rw [HX.out]; simp), Below.refl _ _⟩
  | true =>
    cases c6 with
    | false =>
      go_wp2_with fail
      go_ret
      exact ⟨ret_bool (by rw [HX.out]; simp), Below.refl _ _⟩
    | true =>
      go_wp2_with fail
      refine HR.out.mono ?_
      rintro e w2 ⟨rfl, b2⟩
      have HB2 := Lib.hid b2
      have HL2 := Lib.hid (HL.out w2 b2)
      clear HR HL b2
      cases y with
      | false =>
        go_wp2_with fail
        go_ret
        exact ⟨ret_bool (by rw [HX.out]; simp), HB2.out⟩
      | true =>
        go_wp2_with fail
        refine HL2.out.mono ?_
        rintro e w3 ⟨rfl, b3⟩
        have HB3 := Lib.hid (HB2.out.trans (b3.mono HB2.out.size))
        clear HL2 b3
        go_wp2_with fail
        go_ret
        exact ⟨ret_bool (by rw [HX.out]; simp), HB3.out⟩
def usE (k lv : Int) (s : ByteArray) (n ns nk : Int) : Bool :=
  if k = 1 then eqH k lv s n ns nk k 0 ⟨#[]⟩ 0 ns 0
  else if k = 2 then eqH k lv s n ns nk k lv ⟨#[]⟩ 0 ns 0
  else if k = 4 ∨ k = 8 then eqH k lv s n ns nk k 0 s n 0 0
  else if k = 5 ∨ k = 6 ∨ k = 7 then eqH k lv s n ns nk k 0 ⟨#[]⟩ 0 0 nk
  else eqH k lv s n ns nk k 0 ⟨#[]⟩ 0 0 0
theorem run_ne_used (k lv : Int) (s : ByteArray) (n ns nk : Int) (w : World) :
    (binOp .neq 83 (hasV k lv s n ns nk) (usedV k lv s n ns nk)).run Tryz.prog w = .ok (.bool (!usE k lv s n ns nk)) w := by
  unfold usedV usE
  split
  · exact run_ne_has _ _ _ _ _ _ _ _ _ _ _ _ w
  · split
    · exact run_ne_has _ _ _ _ _ _ _ _ _ _ _ _ w
    · split
      · exact run_ne_has _ _ _ _ _ _ _ _ _ _ _ _ w
      · split
        · exact run_ne_has _ _ _ _ _ _ _ _ _ _ _ _ w
        · exact run_ne_has _ _ _ _ _ _ _ _ _ _ _ _ w
theorem guard_used (op : BinOp) (x y : Operand) (k lv : Int) (s : ByteArray) (n ns nk : Int) (w : World) : (eqGuard op 83 x y (hasV k lv s n ns nk) (usedV k lv s n ns nk)).run Tryz.prog w = .ok () w := by
  unfold usedV
  split
  · exact guard_has _ _ _ _ _ w
  · split
    · exact guard_has _ _ _ _ _ w
    · split
      · exact guard_has _ _ _ _ _ w
      · split
        · exact guard_has _ _ _ _ _ w
        · exact guard_has _ _ _ _ _ w
theorem usE_usB (k lv : Int) (i : List UInt8) (ls : List (List UInt8)) (ss : List Sp) (l : List Bk) : usE k lv (S i) (ls.length : Nat) (ss.length : Nat) (l.length : Nat) = usB k lv i ls ss l := by
  have e1 : ((S i).toList == (⟨#[]⟩ : ByteArray).toList) = i.isEmpty := by rw [S_toList, Lib.toList_data]; cases i <;> rfl
  have e2 := isEmpty_len ls
  have e3 := isEmpty_len ss
  have e4 := isEmpty_len l
  unfold usE usB eqH
  rw [e1, e2, e3, e4]
  simp only [beq_self_eq_true, Bool.true_and, Bool.and_true]
set_option maxHeartbeats 12800000 in
set_option maxRecDepth 100000 in
theorem oneP_any (x : Bk) (n : Nat) (hn : n ≤ 1000) (al as' ak : Option Addr) (cl cs ck : Nat) (w : World) (hf : fitOne 140737488355328 x) (hrd : Rd w (.slice al x.lines.length cl) x.lines) (hsh : x.lines.length ≤ 9223372036854775807) (hsp : Tr w (.slice as' x.spans.length cs) x.spans)
    (IHa : ∀ (m : Nat) (w' : World), m ≤ 1000 → Below w.heap.size w w' → Calls Tryz.prog 35 #[.slice ak x.kids.length ck, .int .i64 (m : Nat)] w' (OkAns w' (allW m 0 x.kids)))
    (IHi : ∀ (m : Nat) (w' : World), m ≤ 1000 → Below w.heap.size w w' → Calls Tryz.prog 87 #[.slice ak x.kids.length ck, .int .i64 (m : Nat)] w' (OkAns w' (itmW m x.kids && !x.kids.isEmpty))) :
    Calls Tryz.prog 56 #[.agg #[.int .i64 x.kind, .int .i64 x.level, .string (S x.info), .slice al x.lines.length cl, .slice as' x.spans.length cs, .slice ak x.kids.length ck], .int .i64 (n : Nat)] w (OkAns w (oneW n x)) := by
  obtain ⟨q, lv, i, ls, ss, l⟩ := x
  simp only [Bk.kind, Bk.level, Bk.info, Bk.lines, Bk.spans, Bk.kids] at IHa IHi hrd hsh hsp ⊢
  rw [fitOne] at hf
  obtain ⟨_, hlv, hi, hls, hss, _⟩ := hf
  have hsz : (S i).size ≤ 140737488355328 := by rw [S_size]; exact hi
  have HA := Lib.hid (fun w' (h : Below w.heap.size w w') => IHa (n - 1) w' (by omega) h)
  have HI := Lib.hid (fun w' (h : Below w.heap.size w w') => IHi (n - 1) w' (by omega) h)
  have HR := Lib.hid (fun w' (h : Below w.heap.size w w') => rightP_any ss _ w' (hsp.below h) hss)
  have HH := Lib.hid (fun w' (h : Below w.heap.size w w') => headingP_any lv ss _ w' (hsp.below h) hss)
  have HF := Lib.hid (fun w' => isInfoP_any (S i) hsz w')
  have HC := Lib.hid (fun w' (h : Below w.heap.size w w') => codeRightP_any _ ls w' (hrd.below h) hsh hls)
  have HL := Lib.hid (fun w' => labelP_any (S i) hsz w')
  have HD := Lib.hid (fun (hk : 0 < ls.length) w' => destP_any (S ls[0]) (by rw [S_size]; exact hls _ (List.getElem_mem hk)) w')
  have HRd := Lib.hid (fun w' (h : Below w.heap.size w w') => Rd.at (hrd.below h))
  simp only [S_list] at HF HL HD
  have HX : Hid (oneW n (.mk q lv i ls ss l) = (usB q lv i ls ss l && (
    if q = 1 then !ss.isEmpty && rtB ss
    else if q = 2 then decide (lv ≥ 1) && decide (lv ≤ 6) && rtB ss && (lnC ss == 1)
    else if q = 3 then true
    else if q = 4 then infB i && ls.all lineB
    else if q = 5 then decide (0 < n) && allW (n - 1) 0 l
    else if q = 7 then decide (0 < n) && allW (n - 1) 0 l
    else if q = 6 then decide (0 < n) && (itmW (n - 1) l && !l.isEmpty)
    else if q = 8 then labB i && decide (ls.length = 1) && (ckB (ls.headD []) && dsB (ls.headD []))
    else false))) := Lib.hid (by rw [oneW])
  have HX8 : Hid ((ckB (ls.headD []) && dsB (ls.headD [])) = if h : 0 < ls.length then (ctB (S ls[0]) && dsB ls[0]) else (ckB [] && dsB [])) := Lib.hid (by cases ls <;> rfl)
  have hus := usE_usB q lv i ls ss l
  have hNe := fun w' => run_ne_used q lv (S i) (ls.length : Nat) (ss.length : Nat) (l.length : Nat) w'
  have hGd := fun w' => guard_used .neq (.tmp 8) (.tmp 10) q lv (S i) (ls.length : Nat) (ss.length : Nat) (l.length : Nat) w'
  have HU := Lib.hid (fun w' => used_any q lv (S i) (ls.length : Nat) (ss.length : Nat) (l.length : Nat) w')
  have HO := Lib.hid (fun w' => of_any q lv (S i) al as' ak ls.length ss.length l.length cl cs ck w')
  rw [hus] at hNe
  have n4 := isEmpty_len ss
  obtain ⟨X, hX⟩ : ∃ X, oneW n (.mk q lv i ls ss l) = X := ⟨_, rfl⟩
  rw [hX] at HX ⊢
  clear IHa IHi hX hrd hsp hss hi hls hsz hus
  generalize usB q lv i ls ss l = us at *
  generalize usedV q lv (S i) (ls.length : Nat) (ss.length : Nat) (l.length : Nat) = V2 at *
  generalize allW (n - 1) 0 l = y0 at *
  generalize (itmW (n - 1) l && !l.isEmpty) = y1 at *
  generalize rtB ss = rt at *
  generalize (lnC ss == 1) = l1 at *
  generalize infB i = nf at *
  generalize labB i = lb at *
  generalize ls.all lineB = L4 at *
  generalize ss.isEmpty = em at *
  generalize (ckB (ls.headD []) && dsB (ls.headD [])) = ds at *
  generalize l.length = kn at *
  generalize ss.length = sn at *
  generalize S i = si at *
  obtain ⟨hh, hhh⟩ : ∃ b, (decide (lv ≥ 1) && decide (lv ≤ 6) && rt && l1) = b := ⟨_, rfl⟩
  rw [hhh] at HX HH
  clear hhh
  have hV1 : hasV q lv si (ls.length : Nat) (sn : Nat) (kn : Nat) = .agg #[.int .i64 q, .int .i64 lv, .string si, .int .i64 (ls.length : Nat), .int .i64 (sn : Nat), .int .i64 (kn : Nat)] := rfl
  rw [hV1] at hNe hGd HU HO
  clear hV1
  go_enter Tryz.func56, Tryz.ntmps56
  go_upto_region 1 with fail
  have HC1 := Lib.hid (alloc_new w (.cells #[.int .i64 q, .int .i64 lv, .string si, .slice al ls.length cl, .slice as' sn cs, .slice ak kn ck] 32))
  have HB1 := Lib.hid ((Below.refl w.heap.size w).alloc (Nat.le_refl _) (.cells #[.int .i64 q, .int .i64 lv, .string si, .slice al ls.length cl, .slice as' sn cs, .slice ak kn ck] 32))
  have hlt1 : w.heap.size < (w.alloc (.cells #[.int .i64 q, .int .i64 lv, .string si, .slice al ls.length cl, .slice as' sn cs, .slice ak kn ck] 32)).heap.size := by simp
  generalize w.alloc (.cells #[.int .i64 q, .int .i64 lv, .string si, .slice al ls.length cl, .slice as' sn cs, .slice ak kn ck] 32) = w1 at *
  have k0 : w1.cell? ⟨w.heap.size, 0, none⟩ = some (.int .i64 q) := cell_at HC1.out 0
  have k1 : w1.cell? ⟨w.heap.size, 1, none⟩ = some (.int .i64 lv) := cell_at HC1.out 1
  have k2 : w1.cell? ⟨w.heap.size, 2, none⟩ = some (.string si) := cell_at HC1.out 2
  have k3 : w1.cell? ⟨w.heap.size, 3, none⟩ = some (.slice al ls.length cl) := cell_at HC1.out 3
  have k4 : w1.cell? ⟨w.heap.size, 4, none⟩ = some (.slice as' sn cs) := cell_at HC1.out 4
  have k5 : w1.cell? ⟨w.heap.size, 5, none⟩ = some (.slice ak kn ck) := cell_at HC1.out 5
  have HK0 : Hid (∀ w', Below w1.heap.size w1 w' → w'.cell? ⟨w.heap.size, 0, none⟩ = some (.int .i64 q)) := Lib.hid (fun w' h => (h.cell (p := ⟨w.heap.size, 0, none⟩) (by exact hlt1)).trans k0)
  have HK1 : Hid (∀ w', Below w1.heap.size w1 w' → w'.cell? ⟨w.heap.size, 1, none⟩ = some (.int .i64 lv)) := Lib.hid (fun w' h => (h.cell (p := ⟨w.heap.size, 1, none⟩) (by exact hlt1)).trans k1)
  have HK2 : Hid (∀ w', Below w1.heap.size w1 w' → w'.cell? ⟨w.heap.size, 2, none⟩ = some (.string si)) := Lib.hid (fun w' h => (h.cell (p := ⟨w.heap.size, 2, none⟩) (by exact hlt1)).trans k2)
  have HK3 : Hid (∀ w', Below w1.heap.size w1 w' → w'.cell? ⟨w.heap.size, 3, none⟩ = some (.slice al ls.length cl)) := Lib.hid (fun w' h => (h.cell (p := ⟨w.heap.size, 3, none⟩) (by exact hlt1)).trans k3)
  have HK4 : Hid (∀ w', Below w1.heap.size w1 w' → w'.cell? ⟨w.heap.size, 4, none⟩ = some (.slice as' sn cs)) := Lib.hid (fun w' h => (h.cell (p := ⟨w.heap.size, 4, none⟩) (by exact hlt1)).trans k4)
  have HK5 : Hid (∀ w', Below w1.heap.size w1 w' → w'.cell? ⟨w.heap.size, 5, none⟩ = some (.slice ak kn ck)) := Lib.hid (fun w' h => (h.cell (p := ⟨w.heap.size, 5, none⟩) (by exact hlt1)).trans k5)
  clear HC1 hlt1
  go_wp2_with fail
  refine (HO.out _).mono ?_
  rintro e w2 ⟨rfl, b2⟩
  have HB2 := Lib.hid b2
  clear HO b2 k0 k1 k2 k3 k4 k5
  have HA3 := Lib.hid (alloc_new w2 (.cells #[.int .i64 q, .int .i64 lv, .string si, .int .i64 (ls.length : Nat), .int .i64 (sn : Nat), .int .i64 (kn : Nat)] 83))
  have HB3 := Lib.hid (HB2.out.alloc HB2.out.size (.cells #[.int .i64 q, .int .i64 lv, .string si, .int .i64 (ls.length : Nat), .int .i64 (sn : Nat), .int .i64 (kn : Nat)] 83))
  go_upto_region 2 with fail
  generalize w2.alloc (.cells #[.int .i64 q, .int .i64 lv, .string si, .int .i64 (ls.length : Nat), .int .i64 (sn : Nat), .int .i64 (kn : Nat)] 83) = w3 at *
  have p0 := fun d os => cell_regrown (w := w3) (cell_at HA3.out 0 : w3.cell? ⟨w2.heap.size, 0, none⟩ = some (.int .i64 q)) d os
  have p1 := fun d os => cell_regrown (w := w3) (cell_at HA3.out 1 : w3.cell? ⟨w2.heap.size, 1, none⟩ = some (.int .i64 lv)) d os
  have p2 := fun d os => cell_regrown (w := w3) (cell_at HA3.out 2 : w3.cell? ⟨w2.heap.size, 2, none⟩ = some (.string si)) d os
  have p3 := fun d os => cell_regrown (w := w3) (cell_at HA3.out 3 : w3.cell? ⟨w2.heap.size, 3, none⟩ = some (.int .i64 (ls.length : Nat))) d os
  have p4 := fun d os => cell_regrown (w := w3) (cell_at HA3.out 4 : w3.cell? ⟨w2.heap.size, 4, none⟩ = some (.int .i64 (sn : Nat))) d os
  have p5 := fun d os => cell_regrown (w := w3) (cell_at HA3.out 5 : w3.cell? ⟨w2.heap.size, 5, none⟩ = some (.int .i64 (kn : Nat))) d os
  have R1 := Lib.hid (fun d os => Calls.regrown_of (HU.out (Go.Sort.grow (redrawn w3 d) os)))
  clear HU HA3 HB2
  cases us with
  | false =>
    refine wp_region_quiet_below (by kernel_rfl) (by kernel_rfl) ?_
    repeat (go_big_quiet_step (first | (go_at_call 82; exact R1.out _ _)))
    refine wpQuiet_nil ?_
    intro w5 hw5
    obtain ⟨⟨dq, osq⟩, hw5'⟩ := hw5
    have HB5 := Lib.hid (HB3.out.trans ((below_regrown w3 dq osq).mono HB3.out.size))
    rw [← hw5'] at HB5
    have HW5 := Lib.hid (HB1.out.trans (HB5.out.mono HB1.out.size))
    clear hw5' p0 p1 p2 p3 p4 p5 R1 hNe hGd HB3
    have HR0 : Hid (X = false) := Lib.hid (by rw [HX.out]; simp)
    clear HX HA HI HR HH HF HC HL HD HRd HK0 HK1 HK2 HK3 HK4 HK5
    go_wp2_with fail
    go_ret
    exact ⟨ret_bool HR0.out.symm, HW5.out⟩
  | true =>
    refine wp_region_quiet_below (by kernel_rfl) (by kernel_rfl) ?_
    repeat (go_big_quiet_step (first | (go_at_call 82; exact R1.out _ _)))
    refine wpQuiet_nil ?_
    intro w5 hw5
    obtain ⟨⟨dq, osq⟩, hw5'⟩ := hw5
    have HB5 := Lib.hid (HB3.out.trans ((below_regrown w3 dq osq).mono HB3.out.size))
    rw [← hw5'] at HB5
    have HW5 := Lib.hid (HB1.out.trans (HB5.out.mono HB1.out.size))
    clear hw5' p0 p1 p2 p3 p4 p5 R1 hNe hGd HB3
    have k0 := HK0.out w5 HB5.out
    have k1 := HK1.out w5 HB5.out
    have k2 := HK2.out w5 HB5.out
    have k3 := HK3.out w5 HB5.out
    have k4 := HK4.out w5 HB5.out
    have k5 := HK5.out w5 HB5.out
    by_cases q1 : q = 1
    · have qq := q1
      have f1 : (q == 1) = true := by rw [q1]; rfl
      have f2 : (q == 2) = false := beq_eq_false_iff_ne.2 (by omega)
      have f3 : (q == 3) = false := beq_eq_false_iff_ne.2 (by omega)
      have f4 : (q == 4) = false := beq_eq_false_iff_ne.2 (by omega)
      have f5 : (q == 5) = false := beq_eq_false_iff_ne.2 (by omega)
      have f7 : (q == 7) = false := beq_eq_false_iff_ne.2 (by omega)
      have f6 : (q == 6) = false := beq_eq_false_iff_ne.2 (by omega)
      have f8 : (q == 8) = false := beq_eq_false_iff_ne.2 (by omega)
      have HXk : Hid (X = (!em && rt)) := Lib.hid (by rw [HX.out, q1]; simp)
      clear HX HA HI HH HF HC HL HD HRd
      cases em with
      | true =>
        have hs : (sn : Int) = 0 := by simpa using n4
        have g1 : decide ((sn : Int) > 0) = false := decide_eq_false (by omega)
        have g2 : decide ((0 : Int) < (sn : Int)) = false := decide_eq_false (by omega)
        have g3 : decide (0 < sn) = false := decide_eq_false (by omega)
        have g4 : ¬ 0 < sn := by omega
        clear hs n4
        go_wp2_with fail
        go_ret
        exact ⟨ret_bool (by rw [HXk.out]; simp), HW5.out⟩
      | false =>
        have hs : (sn : Int) ≠ 0 := by simpa using n4
        have g1 : decide ((sn : Int) > 0) = true := decide_eq_true (by omega)
        have g2 : decide ((0 : Int) < (sn : Int)) = true := decide_eq_true (by omega)
        have g3 : decide (0 < sn) = true := decide_eq_true (by omega)
        have g4 : 0 < sn := by omega
        clear hs n4
        go_wp2_with fail
        refine (HR.out _ HW5.out).mono ?_
        rintro e w9 ⟨rfl, b9⟩
        have HW9 := Lib.hid (HW5.out.trans (b9.mono HW5.out.size))
        go_wp2_with fail
        go_ret
        exact ⟨ret_bool (by rw [HXk.out]; simp), HW9.out⟩
    ·
      by_cases q2 : q = 2
      · have qq := q2
        have f1 : (q == 1) = false := beq_eq_false_iff_ne.2 (by omega)
        have f2 : (q == 2) = true := by rw [q2]; rfl
        have f3 : (q == 3) = false := beq_eq_false_iff_ne.2 (by omega)
        have f4 : (q == 4) = false := beq_eq_false_iff_ne.2 (by omega)
        have f5 : (q == 5) = false := beq_eq_false_iff_ne.2 (by omega)
        have f7 : (q == 7) = false := beq_eq_false_iff_ne.2 (by omega)
        have f6 : (q == 6) = false := beq_eq_false_iff_ne.2 (by omega)
        have f8 : (q == 8) = false := beq_eq_false_iff_ne.2 (by omega)
        have HXk : Hid (X = hh) := Lib.hid (by rw [HX.out, q2]; simp)
        clear HX HA HI HR HF HC HL HD HRd
        go_wp2_with fail
        refine (HH.out _ HW5.out).mono ?_
        rintro e w9 ⟨rfl, b9⟩
        have HW9 := Lib.hid (HW5.out.trans (b9.mono HW5.out.size))
        go_wp2_with fail
        go_ret
        exact ⟨ret_bool (by rw [HXk.out]), HW9.out⟩
      ·
        by_cases q3 : q = 3
        · have qq := q3
          have f1 : (q == 1) = false := beq_eq_false_iff_ne.2 (by omega)
          have f2 : (q == 2) = false := beq_eq_false_iff_ne.2 (by omega)
          have f3 : (q == 3) = true := by rw [q3]; rfl
          have f4 : (q == 4) = false := beq_eq_false_iff_ne.2 (by omega)
          have f5 : (q == 5) = false := beq_eq_false_iff_ne.2 (by omega)
          have f7 : (q == 7) = false := beq_eq_false_iff_ne.2 (by omega)
          have f6 : (q == 6) = false := beq_eq_false_iff_ne.2 (by omega)
          have f8 : (q == 8) = false := beq_eq_false_iff_ne.2 (by omega)
          have HXk : Hid (X = true) := Lib.hid (by rw [HX.out, q3]; simp)
          clear HX HA HI HR HH HF HC HL HD HRd
          go_wp2_with fail
          go_ret
          exact ⟨ret_bool (by rw [HXk.out]), HW5.out⟩
        ·
          by_cases q4 : q = 4
          · have qq := q4
            have f1 : (q == 1) = false := beq_eq_false_iff_ne.2 (by omega)
            have f2 : (q == 2) = false := beq_eq_false_iff_ne.2 (by omega)
            have f3 : (q == 3) = false := beq_eq_false_iff_ne.2 (by omega)
            have f4 : (q == 4) = true := by rw [q4]; rfl
            have f5 : (q == 5) = false := beq_eq_false_iff_ne.2 (by omega)
            have f7 : (q == 7) = false := beq_eq_false_iff_ne.2 (by omega)
            have f6 : (q == 6) = false := beq_eq_false_iff_ne.2 (by omega)
            have f8 : (q == 8) = false := beq_eq_false_iff_ne.2 (by omega)
            have HXk : Hid (X = (nf && L4)) := Lib.hid (by rw [HX.out, q4]; simp)
            clear HX HA HI HR HH HL HD HRd
            go_wp2_with fail
            refine (HF.out _).mono ?_
            rintro e w9 ⟨rfl, b9⟩
            have HW9 := Lib.hid (HW5.out.trans (b9.mono HW5.out.size))
            have k3' := HK3.out w9 (HB5.out.trans (b9.mono HB5.out.size))
            clear b9
            cases nf with
            | false =>
              go_wp2_with fail
              go_ret
              exact ⟨ret_bool (by rw [HXk.out]; simp), HW9.out⟩
            | true =>
              go_wp2_with fail
              refine (HC.out _ HW9.out).mono ?_
              rintro e wA ⟨rfl, bA⟩
              have HWA := Lib.hid (HW9.out.trans (bA.mono HW9.out.size))
              go_wp2_with fail
              go_ret
              exact ⟨ret_bool (by rw [HXk.out]; simp), HWA.out⟩
          ·
            by_cases q5 : q = 5
            · have qq := q5
              have f1 : (q == 1) = false := beq_eq_false_iff_ne.2 (by omega)
              have f2 : (q == 2) = false := beq_eq_false_iff_ne.2 (by omega)
              have f3 : (q == 3) = false := beq_eq_false_iff_ne.2 (by omega)
              have f4 : (q == 4) = false := beq_eq_false_iff_ne.2 (by omega)
              have f5 : (q == 5) = true := by rw [q5]; rfl
              have f7 : (q == 7) = false := beq_eq_false_iff_ne.2 (by omega)
              have f6 : (q == 6) = false := beq_eq_false_iff_ne.2 (by omega)
              have f8 : (q == 8) = false := beq_eq_false_iff_ne.2 (by omega)
              have HXk : Hid (X = (decide (0 < n) && y0)) := Lib.hid (by rw [HX.out, q5]; simp)
              clear HX HI HR HH HF HC HL HD HRd
              by_cases hn0 : 0 < n
              · rw [decide_eq_true hn0] at HXk
                have g1 : decide ((n : Int) > 0) = true := decide_eq_true (by omega)
                have g2 : decide ((0 : Int) < (n : Int)) = true := decide_eq_true (by omega)
                have g3 : decide (0 < n) = true := decide_eq_true hn0
                have wn : IntKind.i64.wrap ((n : Int) - 1) = ((n - 1 : Nat) : Int) := by rw [IntKind.wrap_i64]; omega
                generalize n - 1 = nm at *
                go_wp2_with fail
                refine (HA.out _ HW5.out).mono ?_
                rintro e w9 ⟨rfl, b9⟩
                have HW9 := Lib.hid (HW5.out.trans (b9.mono HW5.out.size))
                go_wp2_with fail
                go_ret
                exact ⟨ret_bool (by rw [HXk.out]; simp), HW9.out⟩
              · rw [decide_eq_false hn0] at HXk
                have g1 : decide ((n : Int) > 0) = false := decide_eq_false (by omega)
                have g2 : decide ((0 : Int) < (n : Int)) = false := decide_eq_false (by omega)
                have g3 : decide (0 < n) = false := decide_eq_false hn0
                go_wp2_with fail
                go_ret
                exact ⟨ret_bool (by rw [HXk.out]; simp), HW5.out⟩
            ·
              by_cases q7 : q = 7
              · have qq := q7
                have f1 : (q == 1) = false := beq_eq_false_iff_ne.2 (by omega)
                have f2 : (q == 2) = false := beq_eq_false_iff_ne.2 (by omega)
                have f3 : (q == 3) = false := beq_eq_false_iff_ne.2 (by omega)
                have f4 : (q == 4) = false := beq_eq_false_iff_ne.2 (by omega)
                have f5 : (q == 5) = false := beq_eq_false_iff_ne.2 (by omega)
                have f7 : (q == 7) = true := by rw [q7]; rfl
                have f6 : (q == 6) = false := beq_eq_false_iff_ne.2 (by omega)
                have f8 : (q == 8) = false := beq_eq_false_iff_ne.2 (by omega)
                have HXk : Hid (X = (decide (0 < n) && y0)) := Lib.hid (by rw [HX.out, q7]; simp)
                clear HX HI HR HH HF HC HL HD HRd
                by_cases hn0 : 0 < n
                · rw [decide_eq_true hn0] at HXk
                  have g1 : decide ((n : Int) > 0) = true := decide_eq_true (by omega)
                  have g2 : decide ((0 : Int) < (n : Int)) = true := decide_eq_true (by omega)
                  have g3 : decide (0 < n) = true := decide_eq_true hn0
                  have wn : IntKind.i64.wrap ((n : Int) - 1) = ((n - 1 : Nat) : Int) := by rw [IntKind.wrap_i64]; omega
                  generalize n - 1 = nm at *
                  go_wp2_with fail
                  refine (HA.out _ HW5.out).mono ?_
                  rintro e w9 ⟨rfl, b9⟩
                  have HW9 := Lib.hid (HW5.out.trans (b9.mono HW5.out.size))
                  go_wp2_with fail
                  go_ret
                  exact ⟨ret_bool (by rw [HXk.out]; simp), HW9.out⟩
                · rw [decide_eq_false hn0] at HXk
                  have g1 : decide ((n : Int) > 0) = false := decide_eq_false (by omega)
                  have g2 : decide ((0 : Int) < (n : Int)) = false := decide_eq_false (by omega)
                  have g3 : decide (0 < n) = false := decide_eq_false hn0
                  go_wp2_with fail
                  go_ret
                  exact ⟨ret_bool (by rw [HXk.out]; simp), HW5.out⟩
              ·
                by_cases q6 : q = 6
                · have qq := q6
                  have f1 : (q == 1) = false := beq_eq_false_iff_ne.2 (by omega)
                  have f2 : (q == 2) = false := beq_eq_false_iff_ne.2 (by omega)
                  have f3 : (q == 3) = false := beq_eq_false_iff_ne.2 (by omega)
                  have f4 : (q == 4) = false := beq_eq_false_iff_ne.2 (by omega)
                  have f5 : (q == 5) = false := beq_eq_false_iff_ne.2 (by omega)
                  have f7 : (q == 7) = false := beq_eq_false_iff_ne.2 (by omega)
                  have f6 : (q == 6) = true := by rw [q6]; rfl
                  have f8 : (q == 8) = false := beq_eq_false_iff_ne.2 (by omega)
                  have HXk : Hid (X = (decide (0 < n) && y1)) := Lib.hid (by rw [HX.out, q6]; simp)
                  clear HX HA HR HH HF HC HL HD HRd
                  by_cases hn0 : 0 < n
                  · rw [decide_eq_true hn0] at HXk
                    have g1 : decide ((n : Int) > 0) = true := decide_eq_true (by omega)
                    have g2 : decide ((0 : Int) < (n : Int)) = true := decide_eq_true (by omega)
                    have g3 : decide (0 < n) = true := decide_eq_true hn0
                    have wn : IntKind.i64.wrap ((n : Int) - 1) = ((n - 1 : Nat) : Int) := by rw [IntKind.wrap_i64]; omega
                    generalize n - 1 = nm at *
                    go_wp2_with fail
                    refine (HI.out _ HW5.out).mono ?_
                    rintro e w9 ⟨rfl, b9⟩
                    have HW9 := Lib.hid (HW5.out.trans (b9.mono HW5.out.size))
                    go_wp2_with fail
                    go_ret
                    exact ⟨ret_bool (by rw [HXk.out]; simp), HW9.out⟩
                  · rw [decide_eq_false hn0] at HXk
                    have g1 : decide ((n : Int) > 0) = false := decide_eq_false (by omega)
                    have g2 : decide ((0 : Int) < (n : Int)) = false := decide_eq_false (by omega)
                    have g3 : decide (0 < n) = false := decide_eq_false hn0
                    go_wp2_with fail
                    go_ret
                    exact ⟨ret_bool (by rw [HXk.out]; simp), HW5.out⟩
                ·
                  by_cases q8 : q = 8
                  · have qq := q8
                    have f1 : (q == 1) = false := beq_eq_false_iff_ne.2 (by omega)
                    have f2 : (q == 2) = false := beq_eq_false_iff_ne.2 (by omega)
                    have f3 : (q == 3) = false := beq_eq_false_iff_ne.2 (by omega)
                    have f4 : (q == 4) = false := beq_eq_false_iff_ne.2 (by omega)
                    have f5 : (q == 5) = false := beq_eq_false_iff_ne.2 (by omega)
                    have f7 : (q == 7) = false := beq_eq_false_iff_ne.2 (by omega)
                    have f6 : (q == 6) = false := beq_eq_false_iff_ne.2 (by omega)
                    have f8 : (q == 8) = true := by rw [q8]; rfl
                    have HXk : Hid (X = (lb && decide (ls.length = 1) && ds)) := Lib.hid (by rw [HX.out, q8]; simp)
                    clear HX HA HI HR HH HF HC
                    go_wp2_with fail
                    refine (HL.out _).mono ?_
                    rintro e w9 ⟨rfl, b9⟩
                    have HW9 := Lib.hid (HW5.out.trans (b9.mono HW5.out.size))
                    have k3' := HK3.out w9 (HB5.out.trans (b9.mono HB5.out.size))
                    clear b9
                    cases lb with
                    | false =>
                      go_wp2_with fail
                      go_ret
                      exact ⟨ret_bool (by rw [HXk.out]; simp), HW9.out⟩
                    | true =>
                      by_cases h1 : ls.length = 1
                      · rw [decide_eq_true h1, HX8.out, dif_pos (by omega)] at HXk
                        have e1 : ((ls.length : Int) == 1) = true := by rw [h1]; rfl
                        have hp : (0 : Int) < (ls.length : Int) := by omega
                        obtain ⟨bl, ol, rfl, kl⟩ := HRd.out w9 HW9.out 0 (by omega)
                        rw [Nat.add_zero] at kl
                        have HDd := Lib.hid (HD.out (by omega) w9)
                        generalize (ctB (S (ls[0]'(by omega))) && dsB (ls[0]'(by omega))) = dd at *
                        generalize S (ls[0]'(by omega)) = sd at *
                        clear HX8 HD HRd h1
                        go_wp2_with fail
                        refine HDd.out.mono ?_
                        rintro e wA ⟨rfl, bA⟩
                        have HWA := Lib.hid (HW9.out.trans (bA.mono HW9.out.size))
                        go_wp2_with fail
                        go_ret
                        exact ⟨ret_bool (by rw [HXk.out]; simp), HWA.out⟩
                      · rw [decide_eq_false h1] at HXk
                        have e1 : ((ls.length : Int) == 1) = false := beq_eq_false_iff_ne.2 (by omega)
                        clear HX8 HD HRd h1
                        go_wp2_with fail
                        go_ret
                        exact ⟨ret_bool (by rw [HXk.out]; simp), HW9.out⟩
                  ·
                    have HXk : Hid (X = false) := Lib.hid (by rw [HX.out, if_neg q1, if_neg q2, if_neg q3, if_neg q4, if_neg q5, if_neg q7, if_neg q6, if_neg q8]; simp)
                    have f1 : (q == 1) = false := beq_eq_false_iff_ne.2 (by omega)
                    have f2 : (q == 2) = false := beq_eq_false_iff_ne.2 (by omega)
                    have f3 : (q == 3) = false := beq_eq_false_iff_ne.2 (by omega)
                    have f4 : (q == 4) = false := beq_eq_false_iff_ne.2 (by omega)
                    have f5 : (q == 5) = false := beq_eq_false_iff_ne.2 (by omega)
                    have f7 : (q == 7) = false := beq_eq_false_iff_ne.2 (by omega)
                    have f6 : (q == 6) = false := beq_eq_false_iff_ne.2 (by omega)
                    have f8 : (q == 8) = false := beq_eq_false_iff_ne.2 (by omega)
                    clear HX HA HI HR HH HF HC HL HD HRd
                    go_wp2_with fail
                    go_ret
                    exact ⟨ret_bool (by rw [HXk.out]), HW5.out⟩
set_option maxHeartbeats 6400000 in
set_option maxRecDepth 100000 in
theorem itemsP_of (l : List Bk) (n : Nat) (v : Value) (w : World) (ht : TrB w v l) (HO : ∀ j (hj : j < l.length) (al as' ak : Option Addr) (cl cs ck : Nat) (w' : World), Rd w' (.slice al l[j].lines.length cl) l[j].lines → l[j].lines.length ≤ 9223372036854775807 → Tr w' (.slice as' l[j].spans.length cs) l[j].spans → TrB w' (.slice ak l[j].kids.length ck) l[j].kids →
        Calls Tryz.prog 56 #[.agg #[.int .i64 l[j].kind, .int .i64 l[j].level, .string (S l[j].info), .slice al l[j].lines.length cl, .slice as' l[j].spans.length cs, .slice ak l[j].kids.length ck], .int .i64 (n : Nat)] w' (OkAns w' (oneW n l[j]))) :
    Calls Tryz.prog 87 #[v, .int .i64 (n : Nat)] w (OkAns w (itmW n l && !l.isEmpty)) := by
  obtain ⟨ao, ca, rfl⟩ := ht.len
  have HT := Lib.hid ht
  have hlen := ht.short
  have HO := Lib.hid HO
  have HE : Hid ((!l.isEmpty) = decide (0 < l.length)) := Lib.hid (by cases l <;> simp)
  have H0 : Hid (itmW n l = itmW n (l.drop 0)) := Lib.hid (by rw [List.drop_zero])
  obtain ⟨Y, hY⟩ : ∃ Y, (itmW n l && !l.isEmpty) = Y := ⟨_, rfl⟩
  have HY := Lib.hid hY.symm
  rw [hY]
  obtain ⟨X, hX⟩ : ∃ X, itmW n l = X := ⟨_, rfl⟩
  rw [hX] at H0 HY
  rw [HE.out] at HY
  clear ht hX hY HE
  go_enter Tryz.func87, Tryz.ntmps87
  go_wp2_with fail
  go_loopw [9] (fun i wr => ∃ j : Nat, j ≤ l.length ∧ i = .int .i64 j ∧ Hid (Below w.heap.size w wr) ∧ Hid (X = itmW n (l.drop j))) (fun i _ => l.length - (intOf i).toNat)
  case atStart => exact ⟨0, Nat.zero_le _, rfl, Lib.hid (Below.refl _ _), H0⟩
  case round =>
      clear H0
      obtain ⟨j, hj, rfl, HB, HN⟩ := hrel
      by_cases hlt : j < l.length
      · have hnx := HN.out
        rw [drop_cons l j hlt, itmW_cons] at hnx
        have hi1 : (j : Int) < (l.length : Int) := by omega
        obtain ⟨b, o, vl, vs, ak, ck, rfl, hbl, hC⟩ := (HT.out.below HB.out).at j hlt
        obtain ⟨al, cl, rfl⟩ := hC.rd.len
        obtain ⟨as', cs, rfl⟩ := hC.sp.len
        have c0 := hC.kind
        have c1 := hC.level
        have c2 := hC.info
        have c3 := hC.lines
        have c4 := hC.spans
        have c5 := hC.kids
        have HC := Lib.hid (fun w' (h : Below wr.heap.size wr w') => HO.out j hlt al as' ak cl cs ck w' (hC.rd.below h) hC.short (hC.sp.below h) (hC.tr.below h))
        have HQ := Lib.hid hnx
        clear hnx HN hC HO
        generalize l[j].kind = q at *
        generalize l[j].lines.length = ln at *
        generalize l[j].spans.length = sn at *
        generalize l[j].kids.length = kn at *
        generalize l[j].level = lv at *
        generalize S l[j].info = si at *
        generalize oneW n l[j] = ok at *
        have HA1 := Lib.hid (alloc_new wr (.cells #[.int .i64 q, .int .i64 lv, .string si, .slice al ln cl, .slice as' sn cs, .slice ak kn ck] 32))
        have HB1 := Lib.hid ((Below.refl wr.heap.size wr).alloc (Nat.le_refl _) (.cells #[.int .i64 q, .int .i64 lv, .string si, .slice al ln cl, .slice as' sn cs, .slice ak kn ck] 32))
        go_upto_region 4 with fail
        generalize wr.alloc (.cells #[.int .i64 q, .int .i64 lv, .string si, .slice al ln cl, .slice as' sn cs, .slice ak kn ck] 32) = w1 at *
        have HW1 := Lib.hid (HB.out.trans (HB1.out.mono HB.out.size))
        have HC1 := Lib.hid (HC.out w1 HB1.out)
        have a0 : w1.cell? ⟨wr.heap.size, 0, none⟩ = some (.int .i64 q) := cell_at HA1.out 0
        have a1 : w1.cell? ⟨wr.heap.size, 1, none⟩ = some (.int .i64 lv) := cell_at HA1.out 1
        have a2 : w1.cell? ⟨wr.heap.size, 2, none⟩ = some (.string si) := cell_at HA1.out 2
        have a3 : w1.cell? ⟨wr.heap.size, 3, none⟩ = some (.slice al ln cl) := cell_at HA1.out 3
        have a4 : w1.cell? ⟨wr.heap.size, 4, none⟩ = some (.slice as' sn cs) := cell_at HA1.out 4
        have a5 : w1.cell? ⟨wr.heap.size, 5, none⟩ = some (.slice ak kn ck) := cell_at HA1.out 5
        clear HC HA1 c0 c1 c2 c3 c4 c5
        by_cases q7 : q = 7
        · have f7 : (q != 7) = false := by rw [q7]; rfl
          rw [decide_eq_true q7, Bool.true_and] at HQ
          clear q7
          go_wp2_with fail
          refine HC1.out.mono ?_
          rintro e w2 ⟨rfl, b2⟩
          have HW2 := Lib.hid (HW1.out.trans (b2.mono HW1.out.size))
          clear b2 HC1 a0 a1 a2 a3 a4 a5
          cases ok with
          | true =>
            have HR : Hid (X = itmW n (l.drop (j + 1))) := Lib.hid (by rw [HQ.out]; rfl)
            go_wp2_with fail
            go_roundw
            case rel => exact ⟨j + 1, by omega, by go_num, HW2, HR⟩
            case measure => simp [intOf] <;> omega
          | false =>
            have HR : Hid (Y = false) := Lib.hid (by rw [HY.out, HQ.out]; rfl)
            go_wp2_with fail
            go_ret
            exact ⟨ret_bool HR.out.symm, HW2.out⟩
        · have f7 : (q != 7) = true := by rw [bne_iff_ne]; exact q7
          have HR : Hid (Y = false) := Lib.hid (by rw [HY.out, HQ.out, decide_eq_false q7]; rfl)
          clear q7 HQ HC1
          go_wp2_with fail
          go_ret
          exact ⟨ret_bool HR.out.symm, HW1.out⟩
      · obtain rfl : j = l.length := by omega
        have hnx := HN.out
        rw [List.drop_length] at hnx
        have HR : Hid (Y = decide (0 < l.length)) := Lib.hid (by rw [HY.out, hnx, itmW]; rfl)
        clear hnx HN hlt HO
        by_cases h0 : 0 < l.length
        · have g1 : decide ((l.length : Int) > 0) = true := decide_eq_true (by omega)
          have g2 : decide ((0 : Int) < (l.length : Int)) = true := decide_eq_true (by omega)
          have g3 : decide (0 < l.length) = true := decide_eq_true h0
          rw [g3] at HR
          go_wp2_with fail
          go_ret
          exact ⟨ret_bool HR.out.symm, HB.out⟩
        · have g1 : decide ((l.length : Int) > 0) = false := decide_eq_false (by omega)
          have g2 : decide ((0 : Int) < (l.length : Int)) = false := decide_eq_false (by omega)
          have g3 : decide (0 < l.length) = false := decide_eq_false h0
          rw [g3] at HR
          go_wp2_with fail
          go_ret
          exact ⟨ret_bool HR.out.symm, HB.out⟩
set_option maxHeartbeats 6400000 in
set_option maxRecDepth 100000 in
theorem allP_of (l : List Bk) (n : Nat) (v : Value) (w : World) (ht : TrB w v l) (HO : ∀ j (hj : j < l.length) (al as' ak : Option Addr) (cl cs ck : Nat) (w' : World), Rd w' (.slice al l[j].lines.length cl) l[j].lines → l[j].lines.length ≤ 9223372036854775807 → Tr w' (.slice as' l[j].spans.length cs) l[j].spans → TrB w' (.slice ak l[j].kids.length ck) l[j].kids →
        Calls Tryz.prog 56 #[.agg #[.int .i64 l[j].kind, .int .i64 l[j].level, .string (S l[j].info), .slice al l[j].lines.length cl, .slice as' l[j].spans.length cs, .slice ak l[j].kids.length ck], .int .i64 (n : Nat)] w' (OkAns w' (oneW n l[j]))) :
    Calls Tryz.prog 35 #[v, .int .i64 (n : Nat)] w (OkAns w (allW n 0 l)) := by
  obtain ⟨ao, ca, rfl⟩ := ht.len
  have HT := Lib.hid ht
  have hlen := ht.short
  have HO := Lib.hid HO
  have H0 : Hid (allW n 0 l = allW n (pkAt l 0) (l.drop 0)) := Lib.hid (by rw [List.drop_zero]; rfl)
  obtain ⟨X, hX⟩ : ∃ X, allW n 0 l = X := ⟨_, rfl⟩
  rw [hX] at H0 ⊢
  clear ht hX
  go_enter Tryz.func35, Tryz.ntmps35
  go_wp2_with fail
  go_loopw [9] (fun i wr => ∃ j : Nat, j ≤ l.length ∧ i = .int .i64 j ∧ Hid (Below w.heap.size w wr) ∧ Hid (X = allW n (pkAt l j) (l.drop j))) (fun i _ => l.length - (intOf i).toNat)
  case atStart => exact ⟨0, Nat.zero_le _, rfl, Lib.hid (Below.refl _ _), H0⟩
  case round =>
      clear H0
      obtain ⟨j, hj, rfl, HB, HN⟩ := hrel
      by_cases hlt : j < l.length
      · have hnx := HN.out
        rw [drop_cons l j hlt, allW_cons] at hnx
        have hi1 : (j : Int) < (l.length : Int) := by omega
        obtain ⟨b, o, vl, vs, ak, ck, rfl, hbl, hC⟩ := (HT.out.below HB.out).at j hlt
        obtain ⟨al, cl, rfl⟩ := hC.rd.len
        obtain ⟨as', cs, rfl⟩ := hC.sp.len
        have c0 := hC.kind
        have c1 := hC.level
        have c2 := hC.info
        have c3 := hC.lines
        have c4 := hC.spans
        have c5 := hC.kids
        have HC := Lib.hid (fun w' (h : Below wr.heap.size wr w') => HO.out j hlt al as' ak cl cs ck w' (hC.rd.below h) hC.short (hC.sp.below h) (hC.tr.below h))
        have HKp : Hid (∀ w', Below wr.heap.size wr w' → 0 < j → w'.cell? ⟨b, o + (j - 1) * 6, none⟩ = some (.int .i64 (pkAt l j))) := Lib.hid (fun w' h h0 => by
          obtain ⟨b', o', vl', vs', ak', ck', hao, _, hD⟩ := (HT.out.below (HB.out.trans (h.mono HB.out.size))).at (j - 1) (by omega)
          simp only [Option.some.injEq, Addr.mk.injEq, and_true] at hao
          obtain ⟨rfl, rfl⟩ := hao
          have e := pkAt_next l (j - 1) (by omega)
          rw [show j - 1 + 1 = j by omega] at e
          rw [e]
          exact hD.kind)
        have hp0 : j = 0 → pkAt l j = 0 := fun h => by rw [h]; rfl
        have hq' := pkAt_next l j hlt
        have HQ := Lib.hid hnx
        clear hnx HN hC HO
        generalize l[j].kind = q at *
        obtain ⟨p, hp⟩ : ∃ p, pkAt l j = p := ⟨_, rfl⟩
        rw [hp] at hp0 HKp HQ
        clear hp
        rw [← hq'] at HQ
        have HQ : Hid (X = (!decide (q = 7) && !(decide (p = 6) && decide (q = 6)) && oneW n l[j] && allW n (pkAt l (j + 1)) (l.drop (j + 1)))) := Lib.hid (by rw [HQ.out, hq'])
        clear hq'
        generalize l[j].lines.length = ln at *
        generalize l[j].spans.length = sn at *
        generalize l[j].kids.length = kn at *
        generalize l[j].level = lv at *
        generalize S l[j].info = si at *
        generalize oneW n l[j] = ok at *
        have HA1 := Lib.hid (alloc_new wr (.cells #[.int .i64 q, .int .i64 lv, .string si, .slice al ln cl, .slice as' sn cs, .slice ak kn ck] 32))
        have HB1 := Lib.hid ((Below.refl wr.heap.size wr).alloc (Nat.le_refl _) (.cells #[.int .i64 q, .int .i64 lv, .string si, .slice al ln cl, .slice as' sn cs, .slice ak kn ck] 32))
        go_upto_region 4 with fail
        generalize wr.alloc (.cells #[.int .i64 q, .int .i64 lv, .string si, .slice al ln cl, .slice as' sn cs, .slice ak kn ck] 32) = w1 at *
        have HW1 := Lib.hid (HB.out.trans (HB1.out.mono HB.out.size))
        have HC1 := Lib.hid (HC.out w1 HB1.out)
        have a0 : w1.cell? ⟨wr.heap.size, 0, none⟩ = some (.int .i64 q) := cell_at HA1.out 0
        have a1 : w1.cell? ⟨wr.heap.size, 1, none⟩ = some (.int .i64 lv) := cell_at HA1.out 1
        have a2 : w1.cell? ⟨wr.heap.size, 2, none⟩ = some (.string si) := cell_at HA1.out 2
        have a3 : w1.cell? ⟨wr.heap.size, 3, none⟩ = some (.slice al ln cl) := cell_at HA1.out 3
        have a4 : w1.cell? ⟨wr.heap.size, 4, none⟩ = some (.slice as' sn cs) := cell_at HA1.out 4
        have a5 : w1.cell? ⟨wr.heap.size, 5, none⟩ = some (.slice ak kn ck) := cell_at HA1.out 5
        have kp := HKp.out w1 HB1.out
        clear HC HA1 HKp c0 c1 c2 c3 c4 c5
        by_cases q7 : q = 7
        · have f7 : (q == 7) = true := by rw [q7]; rfl
          have HR : Hid (X = false) := Lib.hid (by rw [HQ.out, decide_eq_true q7]; rfl)
          clear q7 HQ HC1 kp hp0
          go_wp2_with fail
          go_ret
          exact ⟨ret_bool HR.out.symm, HW1.out⟩
        · have f7 : (q == 7) = false := beq_eq_false_iff_ne.2 q7
          rw [decide_eq_false q7, Bool.not_false, Bool.true_and] at HQ
          clear q7
          by_cases hj0 : j = 0
          · have HQ2 : Hid (X = (ok && allW n (pkAt l (j + 1)) (l.drop (j + 1)))) := Lib.hid (by rw [HQ.out, hp0 hj0]; simp)
            have g0 : decide ((j : Int) > 0) = false := decide_eq_false (by omega)
            have g1 : decide (0 < (j : Int)) = false := decide_eq_false (by omega)
            have g2 : decide (0 < j) = false := decide_eq_false (by omega)
            have g3 : ¬ 0 < j := by omega
            clear HQ hp0 kp hj0
            go_wp2_with fail
            refine HC1.out.mono ?_
            rintro e w2 ⟨rfl, b2⟩
            have HW2 := Lib.hid (HW1.out.trans (b2.mono HW1.out.size))
            clear b2 HC1 a0 a1 a2 a3 a4 a5
            cases ok with
            | true =>
              have HR : Hid (X = allW n (pkAt l (j + 1)) (l.drop (j + 1))) := Lib.hid (by rw [HQ2.out]; rfl)
              go_wp2_with fail
              go_roundw
              case rel => exact ⟨j + 1, by omega, by go_num, HW2, HR⟩
              case measure => simp [intOf] <;> omega
            | false =>
              have HR : Hid (X = false) := Lib.hid (by rw [HQ2.out]; rfl)
              go_wp2_with fail
              go_ret
              exact ⟨ret_bool HR.out.symm, HW2.out⟩
          · have k1 := kp (by omega)
            have g0 : decide ((j : Int) > 0) = true := decide_eq_true (by omega)
            have g1 : decide (0 < (j : Int)) = true := decide_eq_true (by omega)
            have g2 : decide (0 < j) = true := decide_eq_true (by omega)
            have g3 : 0 < j := by omega
            have wj : IntKind.i64.wrap ((j : Int) - 1) = ((j - 1 : Nat) : Int) := by rw [IntKind.wrap_i64]; omega
            have wj1 : ((j - 1 : Nat) : Int) < (l.length : Int) := by omega
            clear kp hp0 hj0
            by_cases q6 : q = 6
            · have f6 : (q == 6) = true := by rw [q6]; rfl
              rw [decide_eq_true q6] at HQ
              clear q6
              by_cases p6 : p = 6
              · have h6 : (p == 6) = true := by rw [p6]; rfl
                have HR : Hid (X = false) := Lib.hid (by rw [HQ.out, decide_eq_true p6]; rfl)
                clear HQ p6 HC1
                go_wp2_with fail
                go_ret
                exact ⟨ret_bool HR.out.symm, HW1.out⟩
              · have h6 : (p == 6) = false := beq_eq_false_iff_ne.2 p6
                have HQ2 : Hid (X = (ok && allW n (pkAt l (j + 1)) (l.drop (j + 1)))) := Lib.hid (by rw [HQ.out, decide_eq_false p6]; simp)
                clear HQ p6
                go_wp2_with fail
                refine HC1.out.mono ?_
                rintro e w2 ⟨rfl, b2⟩
                have HW2 := Lib.hid (HW1.out.trans (b2.mono HW1.out.size))
                clear b2 HC1 a0 a1 a2 a3 a4 a5
                cases ok with
                | true =>
                  have HR : Hid (X = allW n (pkAt l (j + 1)) (l.drop (j + 1))) := Lib.hid (by rw [HQ2.out]; rfl)
                  go_wp2_with fail
                  go_roundw
                  case rel => exact ⟨j + 1, by omega, by go_num, HW2, HR⟩
                  case measure => simp [intOf] <;> omega
                | false =>
                  have HR : Hid (X = false) := Lib.hid (by rw [HQ2.out]; rfl)
                  go_wp2_with fail
                  go_ret
                  exact ⟨ret_bool HR.out.symm, HW2.out⟩
            · have f6 : (q == 6) = false := beq_eq_false_iff_ne.2 q6
              have HQ2 : Hid (X = (ok && allW n (pkAt l (j + 1)) (l.drop (j + 1)))) := Lib.hid (by rw [HQ.out, decide_eq_false q6]; simp)
              clear HQ q6
              go_wp2_with fail
              refine HC1.out.mono ?_
              rintro e w2 ⟨rfl, b2⟩
              have HW2 := Lib.hid (HW1.out.trans (b2.mono HW1.out.size))
              clear b2 HC1 a0 a1 a2 a3 a4 a5
              cases ok with
              | true =>
                have HR : Hid (X = allW n (pkAt l (j + 1)) (l.drop (j + 1))) := Lib.hid (by rw [HQ2.out]; rfl)
                go_wp2_with fail
                go_roundw
                case rel => exact ⟨j + 1, by omega, by go_num, HW2, HR⟩
                case measure => simp [intOf] <;> omega
              | false =>
                have HR : Hid (X = false) := Lib.hid (by rw [HQ2.out]; rfl)
                go_wp2_with fail
                go_ret
                exact ⟨ret_bool HR.out.symm, HW2.out⟩
      · obtain rfl : j = l.length := by omega
        have hnx := HN.out
        rw [List.drop_length] at hnx
        have HR : Hid (X = true) := Lib.hid (by rw [hnx, allW])
        clear hnx HN hlt HO
        go_wp2_with fail
        go_ret
        exact ⟨ret_bool HR.out.symm, HB.out⟩
theorem roomP_any (m : Nat) : ∀ (l : List Bk) (n : Nat) (v : Value) (w : World), szAll l ≤ m → n ≤ 1000 → fitAll 140737488355328 l → TrB w v l →
    Calls Tryz.prog 35 #[v, .int .i64 (n : Nat)] w (OkAns w (allW n 0 l)) ∧ Calls Tryz.prog 87 #[v, .int .i64 (n : Nat)] w (OkAns w (itmW n l && !l.isEmpty)) := by
  induction m using Nat.strongRecOn with
  | ind m ih =>
    intro l n v w hm hn hf ht
    have HO : ∀ j (hj : j < l.length) (al as' ak : Option Addr) (cl cs ck : Nat) (w' : World), Rd w' (.slice al l[j].lines.length cl) l[j].lines → l[j].lines.length ≤ 9223372036854775807 → Tr w' (.slice as' l[j].spans.length cs) l[j].spans → TrB w' (.slice ak l[j].kids.length ck) l[j].kids →
        Calls Tryz.prog 56 #[.agg #[.int .i64 l[j].kind, .int .i64 l[j].level, .string (S l[j].info), .slice al l[j].lines.length cl, .slice as' l[j].spans.length cs, .slice ak l[j].kids.length ck], .int .i64 (n : Nat)] w' (OkAns w' (oneW n l[j])) := by
      intro j hj al as' ak cl cs ck w' hrd hsh hsp htk
      have hfx := fitAll_at hf l[j] (List.getElem_mem hj)
      have hlt := Nat.lt_of_lt_of_le (szAll_kids (List.getElem_mem hj)) hm
      have hfk := (fitOne_eq.1 hfx).2.2.2.2.2
      exact oneP_any l[j] n hn al as' ak cl cs ck w' hfx hrd hsh hsp
        (fun m' w'' hm' hb => (ih (szAll l[j].kids) hlt l[j].kids m' _ w'' (Nat.le_refl _) hm' hfk (htk.below hb)).1)
        (fun m' w'' hm' hb => (ih (szAll l[j].kids) hlt l[j].kids m' _ w'' (Nat.le_refl _) hm' hfk (htk.below hb)).2)
    exact ⟨allP_of l n v w ht HO, itemsP_of l n v w ht HO⟩
theorem rightBP_any (l : List Bk) (v : Value) (w : World) (hf : fitAll 140737488355328 l) (ht : TrB w v l) :
    Calls Tryz.prog 19 #[v] w (OkAns w (rgW l)) := by
  have HA := Lib.hid (roomP_any (szAll l) l 16 v w (Nat.le_refl _) (by decide) hf ht).1
  obtain ⟨ao, ca, rfl⟩ := ht.len
  have HX : Hid (rgW l = allW 16 0 l) := Lib.hid rfl
  rw [← HX.out] at HA
  generalize rgW l = y at *
  clear ht hf HX
  go_enter Tryz.func19, Tryz.ntmps19
  go_wp2_with fail
  refine HA.out.mono ?_
  rintro e w2 ⟨rfl, b2⟩
  have HB2 := Lib.hid b2
  clear HA b2
  go_wp2_with fail
  go_ret
  exact ⟨rfl, HB2.out⟩
end Go.Proofs.YtldllbmbcnipoabGreatDoor.Bt
