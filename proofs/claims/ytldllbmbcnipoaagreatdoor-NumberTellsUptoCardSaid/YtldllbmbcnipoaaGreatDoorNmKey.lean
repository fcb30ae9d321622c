/-
  CONTRACT of the document's Key (emendationref15).
-/
import Derived.Test.YtldllbmbcnipoaaGreatDoorPkTF
import Derived.Test.YtldllbmbcnipoaaGreatDoorPkTG
import Derived.Test.YtldllbmbcnipoaaGreatDoorPkTH
import Derived.Test.YtldllbmbcnipoaaGreatDoorPkTB
namespace Go.Proofs.YtldllbmbcnipoaaGreatDoor.Nm
open Go.RowKit
open Go.Proofs.YtldllbmbcnipoaaGreatDoor.Tk (S S_of S_list S_size S_toList S_app Rd)
open Go.Proofs.YtldllbmbcnipoaaGreatDoor.Cm (cell_at alloc_new)
open Go.Proofs.YtldllbmbcnipoaaGreatDoor.Sp (Sp Tr totAll)
open Go.Proofs.YtldllbmbcnipoaaGreatDoor.Bt (TrB ttAll ttOne lnTot szAll szOne ttAll_mem)
open Go.Proofs.YtldllbmbcnipoaaGreatDoor.Bk (Bk Tx)
set_option linter.unusedVariables false

theorem txs_len : ∀ l : List Tx, lnTot l ≤ 9223372036854775807 → (txs l).length ≤ 21 * lnTot l
  | [], _ => by simp [txs]
  | s :: r, h => by
    rw [lnTot] at h ⊢
    have h1 := tx_len (s := s) (by omega)
    have h2 := txs_len r (by omega)
    rw [txs, List.length_append]
    omega
theorem ln_len : ∀ l : List Tx, l.length ≤ lnTot l
  | [] => Nat.zero_le _
  | s :: r => by have := ln_len r; rw [lnTot, List.length_cons]; omega
theorem tt_len : ∀ l : List Bk, l.length ≤ ttAll l
  | [] => Nat.zero_le _
  | x :: r => by
    have := tt_len r
    rw [Bt.ttAll_cons, Bt.ttOne_eq, List.length_cons]
    omega
theorem ln_memN : ∀ (l : List Tx) (s : Tx), s ∈ l → s.length < lnTot l
  | [], s, h => by cases h
  | y :: r, s, h => by
    rw [lnTot]
    rcases List.mem_cons.1 h with rfl | h
    · omega
    · have := ln_memN r s h; omega
mutual
theorem bk1_len : ∀ x : Bk, Bt.fitOne 140737488355328 x → ttOne x ≤ 9000000000 → (bk1 x).length ≤ 150 * ttOne x
  | .mk k lv i ls ss l, hf, ht => by
    rw [Bt.fitOne] at hf
    rw [ttOne] at ht ⊢
    have h1 := dgI_21 hf.1
    have h2 := dgI_21 hf.2.1
    have h3 := tx_len (s := i) (by omega)
    have h4 := txs_len ls (by omega)
    have h5 := ln_len ls
    have h6 := dgN_20 (n := ls.length) (by omega)
    have h7 := spR_len (by omega) ss hf.2.2.2.2.1 (by omega)
    have h8 := Sp.totAll_len ss
    have h9 := dgN_20 (n := ss.length) (by omega)
    have h10 := bkR_len l hf.2.2.2.2.2 (by omega)
    have h11 := tt_len l
    have h12 := dgN_20 (n := l.length) (by omega)
    rw [bk1]
    unfold spK
    simp only [List.length_append, List.length_cons]
    omega
theorem bkR_len : ∀ l : List Bk, Bt.fitAll 140737488355328 l → ttAll l ≤ 9000000000 → (bkR l).length ≤ 150 * ttAll l
  | [], _, _ => by simp [bkR]
  | x :: r, hf, ht => by
    rw [Bt.fitAll] at hf
    rw [Bt.ttAll_cons] at ht ⊢
    have h1 := bk1_len x hf.1 (by omega)
    have h2 := bkR_len r hf.2 (by omega)
    rw [bkR, List.length_append]
    omega
end
/-- How a block's key goes on, piece by piece. -/
theorem bk1_eq (q lv : Int) (i : Tx) (lns : List Tx) (ss : List Sp) (l : List Bk) : bk1 (.mk q lv i lns ss l) = (dgI q ++ [59] ++ dgI lv ++ [59] ++ tx i ++ dgN lns.length ++ [59]) ++ txs lns ++ (spK ss ++ dgN l.length ++ [59]) ++ bkR l := by
  rw [bk1]
  simp
set_option maxHeartbeats 6400000 in
set_option maxRecDepth 100000 in
theorem rkey_any (m : Nat) : ∀ (x : Bk) (al as' ak : Option Addr) (cl cs ck : Nat) (w : World), szOne x ≤ m → ttOne x ≤ 100000 → Bt.fitOne 140737488355328 x → Rd w (.slice al x.lines.length cl) x.lines → Tr w (.slice as' x.spans.length cs) x.spans → TrB w (.slice ak x.kids.length ck) x.kids →
    Calls Tryz.prog 16 #[.agg #[.int .i64 x.kind, .int .i64 x.level, .string (S x.info), .slice al x.lines.length cl, .slice as' x.spans.length cs, .slice ak x.kids.length ck]] w (StrA w (S (bk1 x))) := by
  induction m using Nat.strongRecOn with
  | ind m ih =>
    intro x al as' ak cl cs ck w hm htt hf hrd hsp htr
    have hbl := bk1_len x hf (by omega)
    obtain ⟨q, lv, i, lns, ss, l⟩ := x
    simp only [Bk.kind, Bk.level, Bk.info, Bk.lines, Bk.spans, Bk.kids] at hrd hsp htr ⊢
    rw [Bt.fitOne] at hf
    obtain ⟨f1, f2, f3, f4, f5, f6⟩ := hf
    rw [ttOne] at htt hbl
    rw [Bt.szOne_eq] at hm
    simp only [Bk.kids] at hm
    have hlns := ln_len lns
    have hlb := tt_len l
    have hlk : l.length ≤ 9223372036854775807 := by omega
    have HIH : Hid (∀ k (hk : k < l.length) (w' : World) (al' as'' ak' : Option Addr) (cl' cs' ck' : Nat), Rd w' (.slice al' l[k].lines.length cl') l[k].lines → Tr w' (.slice as'' l[k].spans.length cs') l[k].spans → TrB w' (.slice ak' l[k].kids.length ck') l[k].kids →
        Calls Tryz.prog 16 #[.agg #[.int .i64 l[k].kind, .int .i64 l[k].level, .string (S l[k].info), .slice al' l[k].lines.length cl', .slice as'' l[k].spans.length cs', .slice ak' l[k].kids.length ck']] w' (StrA w' (S (bk1 l[k])))) := Lib.hid (fun k hk w' al' as'' ak' cl' cs' ck' h1 h2 h3 => by
      have hmm := List.getElem_mem hk
      have h4 := Bt.szAll_mem hmm
      have h5 := ttAll_mem hmm
      exact ih (szOne l[k]) (by omega) l[k] al' as'' ak' cl' cs' ck' w' (Nat.le_refl _) (by omega) (Bt.fitAll_at f6 _ hmm) h1 h2 h3)
    have HB1 := Lib.hid ((Below.refl w.heap.size w).alloc (Nat.le_refl _) (.cells #[.int .i64 q, .int .i64 lv, .string (S i), .slice al lns.length cl, .slice as' ss.length cs, .slice ak l.length ck] 35))
    have HC1 := Lib.hid (alloc_new w (.cells #[.int .i64 q, .int .i64 lv, .string (S i), .slice al lns.length cl, .slice as' ss.length cs, .slice ak l.length ck] 35))
    have HRd := Lib.hid (fun w' (h : Below w.heap.size w w') => hrd.below h)
    have HSp := Lib.hid (fun w' (h : Below w.heap.size w w') => rspans_any (totAll ss) ss _ w' (Nat.le_refl _) (by omega) (hsp.below h) f5)
    have HTr := Lib.hid (fun w' (h : Below w.heap.size w w') => htr.below h)
    have HLm := Lib.hid (fun k (hk : k < lns.length) => ln_memN lns lns[k] (List.getElem_mem hk))
    have HDq := Lib.hid (fun w' => rdig_any q.natAbs q w' (Nat.le_refl _) f1)
    have HDl := Lib.hid (fun w' => rdig_any lv.natAbs lv w' (Nat.le_refl _) f2)
    have HTi := Lib.hid (fun w' => rtext_any i (by omega) w')
    have HDn := Lib.hid (fun w' => rdig_any lns.length (lns.length : Int) w' (by omega) (by omega))
    have HDk := Lib.hid (fun w' => rdig_any l.length (l.length : Int) w' (by omega) (by omega))
    simp only [dgI_nat] at HDn HDk
    have hXe := bk1_eq q lv i lns ss l
    unfold StrA at HDq HDl HTi HDn HDk HSp HIH ⊢
    clear ih hm hrd hsp htr f1 f2 f3 f4 f5 f6
    obtain ⟨X, hX⟩ : ∃ X, bk1 (.mk q lv i lns ss l) = X := ⟨_, rfl⟩
    rw [hX] at hbl hXe ⊢
    have hxl := congrArg List.length hXe
    simp only [List.length_append, List.length_cons, List.length_nil] at hxl
    have lX : X.length ≤ 15000000 := by omega
    have HXe := Lib.hid hXe
    clear hXe hX hbl
    generalize dgI q = a1 at *
    generalize dgI lv = a2 at *
    generalize tx i = a3 at *
    generalize dgN lns.length = a4 at *
    generalize spK ss = a5 at *
    generalize dgN l.length = a6 at *
    go_enter Tryz.func16, Tryz.ntmps16
    go_upto_region 1 with fail
    generalize w.alloc (.cells #[.int .i64 q, .int .i64 lv, .string (S i), .slice al lns.length cl, .slice as' ss.length cs, .slice ak l.length ck] 35) = w1 at *
    have k0 : w1.cell? ⟨w.heap.size, 0, none⟩ = some (.int .i64 q) := cell_at HC1.out 0
    have k1 : w1.cell? ⟨w.heap.size, 1, none⟩ = some (.int .i64 lv) := cell_at HC1.out 1
    have k2 : w1.cell? ⟨w.heap.size, 2, none⟩ = some (.string (S i)) := cell_at HC1.out 2
    have k3 : w1.cell? ⟨w.heap.size, 3, none⟩ = some (.slice al lns.length cl) := cell_at HC1.out 3
    have m0 := fun d os => cell_regrown (w := w1) k0 d os
    have m1 := fun d os => cell_regrown (w := w1) k1 d os
    have m2 := fun d os => cell_regrown (w := w1) k2 d os
    have m3 := fun d os => cell_regrown (w := w1) k3 d os
    have z59 : (⟨#[59]⟩ : ByteArray).size = 1 := rfl
    have za1 : (S a1).size = a1.length := S_size _
    have za2 : (S a2).size = a2.length := S_size _
    have za3 : (S a3).size = a3.length := S_size _
    have za4 : (S a4).size = a4.length := S_size _
    have gg0 : ¬ 9223372036854775807 < (S a1).size + (⟨#[59]⟩ : ByteArray).size := by omega
    have yy0 : (S a1 ++ (⟨#[59]⟩ : ByteArray)).size = a1.length + 1 := by rw [ByteArray.size_append]; omega
    have gg1 : ¬ 9223372036854775807 < (S a1 ++ (⟨#[59]⟩ : ByteArray)).size + (S a2).size := by omega
    have yy1 : (S a1 ++ (⟨#[59]⟩ : ByteArray) ++ S a2).size = a1.length + 1 + a2.length := by rw [ByteArray.size_append]; omega
    have gg2 : ¬ 9223372036854775807 < (S a1 ++ (⟨#[59]⟩ : ByteArray) ++ S a2).size + (⟨#[59]⟩ : ByteArray).size := by omega
    have yy2 : (S a1 ++ (⟨#[59]⟩ : ByteArray) ++ S a2 ++ (⟨#[59]⟩ : ByteArray)).size = a1.length + 1 + a2.length + 1 := by rw [ByteArray.size_append]; omega
    have gg3 : ¬ 9223372036854775807 < (S a1 ++ (⟨#[59]⟩ : ByteArray) ++ S a2 ++ (⟨#[59]⟩ : ByteArray)).size + (S a3).size := by omega
    have yy3 : (S a1 ++ (⟨#[59]⟩ : ByteArray) ++ S a2 ++ (⟨#[59]⟩ : ByteArray) ++ S a3).size = a1.length + 1 + a2.length + 1 + a3.length := by rw [ByteArray.size_append]; omega
    have gg4 : ¬ 9223372036854775807 < (S a1 ++ (⟨#[59]⟩ : ByteArray) ++ S a2 ++ (⟨#[59]⟩ : ByteArray) ++ S a3).size + (S a4).size := by omega
    have yy4 : (S a1 ++ (⟨#[59]⟩ : ByteArray) ++ S a2 ++ (⟨#[59]⟩ : ByteArray) ++ S a3 ++ S a4).size = a1.length + 1 + a2.length + 1 + a3.length + a4.length := by rw [ByteArray.size_append]; omega
    have gg5 : ¬ 9223372036854775807 < (S a1 ++ (⟨#[59]⟩ : ByteArray) ++ S a2 ++ (⟨#[59]⟩ : ByteArray) ++ S a3 ++ S a4).size + (⟨#[59]⟩ : ByteArray).size := by omega
    have hap0 : Hid (S a1 ++ (⟨#[59]⟩ : ByteArray) ++ S a2 ++ (⟨#[59]⟩ : ByteArray) ++ S a3 ++ S a4 ++ (⟨#[59]⟩ : ByteArray) = S (a1 ++ [59] ++ a2 ++ [59] ++ a3 ++ a4 ++ [59])) := Lib.hid (by rw [show (⟨#[59]⟩ : ByteArray) = S [59] from rfl, S_app, S_app, S_app, S_app, S_app, S_app])
    have J0 := Lib.hid (fun d os => Calls.regrown_of (HDq.out (Go.Sort.grow (redrawn w1 d) os)))
    have J1 := Lib.hid (fun d os => Calls.regrown_of (HDl.out (Go.Sort.grow (redrawn w1 d) os)))
    have J2 := Lib.hid (fun d os => Calls.regrown_of (HTi.out (Go.Sort.grow (redrawn w1 d) os)))
    have J3 := Lib.hid (fun d os => Calls.regrown_of (HDn.out (Go.Sort.grow (redrawn w1 d) os)))
    clear HDq HDl HTi HDn
    refine wp_region_quiet_below (by kernel_rfl) (by kernel_rfl) ?_
    repeat (go_big_quiet_step (first | (go_at_call 32; first | with_reducible exact J0.out _ _ | with_reducible exact J1.out _ _ | with_reducible exact J3.out _ _) | (go_at_call 33; with_reducible exact J2.out _ _)))
    refine wpQuiet_nil ?_
    intro w5 hw5
    obtain ⟨⟨dq, osq⟩, hw5'⟩ := hw5
    subst hw5'
    have hb2 := below_regrown w1 dq osq
    have HB2 := Lib.hid (HB1.out.trans (hb2.mono HB1.out.size))
    have HC2 := Lib.hid ((Cm.Keep.of_below (S := fun _ => False) hb2).at HC1.out (fun h => h))
    clear J0 J1 J2 J3 m0 m1 m2 m3 k0 k1 k2 k3 hb2 HC1 HB1 za1 za2 za3 za4 yy0 yy1 yy2 yy3 yy4 gg0 gg1 gg2 gg3 gg4 gg5
    dsimp only
    generalize Go.Sort.grow (redrawn w1 dq) osq = w2 at *
    have k3 : w2.cell? ⟨w.heap.size, 3, none⟩ = some (.slice al lns.length cl) := cell_at HC2.out 3
    have H0 : Hid (X = (a1 ++ [59] ++ a2 ++ [59] ++ a3 ++ a4 ++ [59]) ++ txs (lns.drop 0) ++ (a5 ++ a6 ++ [59]) ++ bkR l) := Lib.hid (by rw [List.drop_zero]; exact HXe.out)
    have H02 := Lib.hid (Below.refl w2.heap.size w2)
    clear HXe hxl
    go_wp2_with fail
    clear k3
    go_loopw [3, 28] (fun s i wr => ∃ (k : Nat) (p : Tx), k ≤ lns.length ∧ i = .int .i64 k ∧ s = .string (S p) ∧ Hid (Below w2.heap.size w2 wr) ∧ Hid (X = p ++ txs (lns.drop k) ++ (a5 ++ a6 ++ [59]) ++ bkR l)) (fun _ i _ => lns.length - (intOf i).toNat)
    case atStart => exact ⟨0, a1 ++ [59] ++ a2 ++ [59] ++ a3 ++ a4 ++ [59], Nat.zero_le _, rfl, by rw [hap0.out], H02, H0⟩
    case round =>
      clear H0 H02 hap0
      obtain ⟨k, p, hk, rfl, rfl, HB, HN⟩ := hrel
      by_cases hlt : k < lns.length
      · have hi1 : (k : Int) < (lns.length : Int) := by omega
        have hnx := HN.out
        rw [List.drop_eq_getElem_cons hlt, txs] at hnx
        have hBw := HB2.out.trans (HB.out.mono HB2.out.size)
        obtain ⟨bb, o, rfl, c0⟩ := Bt.Rd.at (HRd.out wr hBw) k hlt
        have k3 : wr.cell? ⟨w.heap.size, 3, none⟩ = some (.slice (some ⟨bb, o, none⟩) lns.length cl) := cell_at ((Cm.Keep.of_below (S := fun _ => False) HB.out).at HC2.out (fun h => h)) 3
        have hlm := HLm.out k hlt
        have HT := Lib.hid (rtext_any lns[k] (by omega) wr)
        have hall := congrArg List.length hnx
        simp only [List.length_append] at hall
        have HX2 : Hid (X = (p ++ tx lns[k]) ++ txs (lns.drop (k + 1)) ++ (a5 ++ a6 ++ [59]) ++ bkR l) := Lib.hid (by rw [hnx]; simp)
        unfold StrA at HT
        clear hnx HN hBw HRd HSp HTr HLm HIH HDk HC2 HB2
        generalize tx lns[k] = y at *
        generalize S lns[k] = sk at *
        have zp : (S p).size = p.length := S_size _
        have zy : (S y).size = y.length := S_size _
        have gg : ¬ 9223372036854775807 < (S p).size + (S y).size := by omega
        have hap := Lib.hid (S_app p y)
        clear hall
        go_wp2_with fail
        refine HT.out.mono ?_
        rintro e w5 ⟨rfl, b5⟩
        have HB5 := Lib.hid (HB.out.trans (b5.mono HB.out.size))
        clear b5 HT HB
        go_wp2_with fail
        go_roundw
        case rel => exact ⟨k + 1, p ++ y, by omega, by go_num, by rw [hap.out], HB5, HX2⟩
        case measure => simp [intOf] <;> omega
      · obtain rfl : k = lns.length := by omega
        have hnx := HN.out
        rw [List.drop_length, txs, List.append_nil] at hnx
        have hBw := HB2.out.trans (HB.out.mono HB2.out.size)
        have HCr := Lib.hid ((Cm.Keep.of_below (S := fun _ => False) HB.out).at HC2.out (fun h => h))
        have k4 : wr.cell? ⟨w.heap.size, 4, none⟩ = some (.slice as' ss.length cs) := cell_at HCr.out 4
        have k5 : wr.cell? ⟨w.heap.size, 5, none⟩ = some (.slice ak l.length ck) := cell_at HCr.out 5
        have m4 := fun d os => cell_regrown (w := wr) k4 d os
        have m5 := fun d os => cell_regrown (w := wr) k5 d os
        have J4 := Lib.hid (fun d os => Calls.regrown_of (HSp.out (Go.Sort.grow (redrawn wr d) os) (hBw.trans ((below_regrown wr d os).mono hBw.size))))
        have J5 := Lib.hid (fun d os => Calls.regrown_of (HDk.out (Go.Sort.grow (redrawn wr d) os)))
        have hall := congrArg List.length hnx
        simp only [List.length_append, List.length_cons, List.length_nil] at hall
        have HBw := Lib.hid hBw
        have HX2 : Hid (X = (p ++ a5 ++ a6 ++ [59]) ++ bkR (l.drop 0)) := Lib.hid (by rw [hnx, List.drop_zero]; simp)
        have zp : (S p).size = p.length := S_size _
        have z5 : (S a5).size = a5.length := S_size _
        have z6 : (S a6).size = a6.length := S_size _
        have gg0 : ¬ 9223372036854775807 < (S p).size + (S a5).size := by omega
        have yy0 : (S p ++ S a5).size = p.length + a5.length := by rw [ByteArray.size_append]; omega
        have gg1 : ¬ 9223372036854775807 < (S p ++ S a5).size + (S a6).size := by omega
        have yy1 : (S p ++ S a5 ++ S a6).size = p.length + a5.length + a6.length := by rw [ByteArray.size_append]; omega
        have gg2 : ¬ 9223372036854775807 < (S p ++ S a5 ++ S a6).size + (⟨#[59]⟩ : ByteArray).size := by omega
        have hap : Hid (S p ++ S a5 ++ S a6 ++ (⟨#[59]⟩ : ByteArray) = S (p ++ a5 ++ a6 ++ [59])) := Lib.hid (by rw [show (⟨#[59]⟩ : ByteArray) = S [59] from rfl, S_app, S_app, S_app])
        clear hnx HN hBw HRd HSp HLm HDk HC2 HB2 HB hall
        go_upto_region 7 with fail
        refine wp_region_quiet_below (by kernel_rfl) (by kernel_rfl) ?_
        repeat (go_big_quiet_step (first | (go_at_call 32; with_reducible exact J5.out _ _) | (go_at_call 34; with_reducible exact J4.out _ _)))
        refine wpQuiet_nil ?_
        intro w5 hw5
        obtain ⟨⟨dq, osq⟩, hw5'⟩ := hw5
        subst hw5'
        have hb5 := below_regrown wr dq osq
        have HB5 := Lib.hid (HBw.out.trans (hb5.mono HBw.out.size))
        have HC5 := Lib.hid ((Cm.Keep.of_below (S := fun _ => False) hb5).at HCr.out (fun h => h))
        clear J4 J5 m4 m5 k4 k5 hb5 HCr HBw yy0 yy1 gg0 gg1 gg2 z5 z6 zp
        dsimp only
        generalize Go.Sort.grow (redrawn wr dq) osq = w6 at *
        have k5 : w6.cell? ⟨w.heap.size, 5, none⟩ = some (.slice ak l.length ck) := cell_at HC5.out 5
        have H06 := Lib.hid (Below.refl w6.heap.size w6)
        go_wp2_with fail
        clear k5
        go_loopw [3, 54] (fun s i wq => ∃ (k : Nat) (p : Tx), k ≤ l.length ∧ i = .int .i64 k ∧ s = .string (S p) ∧ Hid (Below w6.heap.size w6 wq) ∧ Hid (X = p ++ bkR (l.drop k))) (fun _ i _ => l.length - (intOf i).toNat)
        case atStart => exact ⟨0, p ++ a5 ++ a6 ++ [59], Nat.zero_le _, rfl, by rw [hap.out], H06, HX2⟩
        case round =>
          clear HX2 H06 hap
          obtain ⟨k, p, hk, rfl, rfl, HB, HN⟩ := hrel
          by_cases hlt : k < l.length
          · have hi1 : (k : Int) < (l.length : Int) := by omega
            have hnx := HN.out
            rw [List.drop_eq_getElem_cons hlt, bkR] at hnx
            rename_i wq _
            have hBw := HB5.out.trans (HB.out.mono HB5.out.size)
            obtain ⟨bb, o, vl, vs, ak', ck', rfl, hbb, hC⟩ := (HTr.out _ hBw).at k hlt
            obtain ⟨al', cl', rfl⟩ := hC.rd.len
            obtain ⟨as'', cs', rfl⟩ := hC.sp.len
            have c0 := hC.kind
            have c1 := hC.level
            have c2 := hC.info
            have c3 := hC.lines
            have c4 := hC.spans
            have c5 := hC.kids
            have k5 := cell_at ((Cm.Keep.of_below (S := fun _ => False) HB.out).at HC5.out (fun h => h)) 5
            have HO := Lib.hid (HIH.out k hlt _ al' as'' ak' cl' cs' ck' hC.rd hC.sp hC.tr)
            have hall := congrArg List.length hnx
            simp only [List.length_append] at hall
            have HX2 : Hid (X = (p ++ bk1 l[k]) ++ bkR (l.drop (k + 1))) := Lib.hid (by rw [hnx]; simp)
            clear hnx HN hBw HTr HIH hC HC5 HB5
            generalize bk1 l[k] = y at *
            generalize l[k].kids.length = kn' at *
            generalize l[k].spans.length = sn' at *
            generalize l[k].lines.length = ln' at *
            generalize S l[k].info = si' at *
            generalize l[k].level = lv' at *
            generalize l[k].kind = q' at *
            have zp : (S p).size = p.length := S_size _
            have zy : (S y).size = y.length := S_size _
            have gg : ¬ 9223372036854775807 < (S p).size + (S y).size := by omega
            have hap := Lib.hid (S_app p y)
            clear hall
            go_wp2_with fail
            refine HO.out.mono ?_
            rintro e w7 ⟨rfl, b7⟩
            have HB7 := Lib.hid (HB.out.trans (b7.mono HB.out.size))
            clear b7 HO HB
            go_wp2_with fail
            go_roundw
            case rel => exact ⟨k + 1, p ++ y, by omega, by go_num, by rw [hap.out], HB7, HX2⟩
            case measure => simp [intOf] <;> omega
          · obtain rfl : k = l.length := by omega
            have hnx := HN.out
            rw [List.drop_length, bkR, List.append_nil] at hnx
            have HBf := Lib.hid (HB5.out.trans (HB.out.mono HB5.out.size))
            have HR := Lib.hid hnx
            clear hnx HN HTr HIH HC5 HB5 HB
            go_wp2_with fail
            go_ret
            exact ⟨ret_str (by rw [HR.out]), HBf.out⟩
end Go.Proofs.YtldllbmbcnipoaaGreatDoor.Nm
