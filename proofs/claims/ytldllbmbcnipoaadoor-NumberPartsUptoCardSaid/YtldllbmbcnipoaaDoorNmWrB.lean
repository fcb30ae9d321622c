/-
  CONTRACTS of a writer's block, and of Key (number).
-/
import Derived.Test.YtldllbmbcnipoaaDoorNmWrS
import Derived.Test.YtldllbmbcnipoaaDoorPkNO
namespace Go.Proofs.YtldllbmbcnipoaaDoor.Nm
open Go.RowKit
open Go.Proofs.YtldllbmbcnipoaaDoor.Tk (S S_of S_list S_size S_toList S_app Rd)
open Go.Proofs.YtldllbmbcnipoaaDoor.Cm (cell_at alloc_new)
open Go.Proofs.YtldllbmbcnipoaaDoor.Sp (Sp Tr totAll)
open Go.Proofs.YtldllbmbcnipoaaDoor.Bt (TrB ttAll ttOne lnTot szAll szOne ttAll_mem)
open Go.Proofs.YtldllbmbcnipoaaDoor.Bk (Bk Tx)
set_option linter.unusedVariables false

theorem bk1_parts (q lv : Int) (i : Tx) (lns : List Tx) (ss : List Sp) (l : List Bk) (t : Tx) : t ++ bk1 (.mk q lv i lns ss l) = (t ++ (dgI q ++ [59]) ++ (dgI lv ++ [59]) ++ tx i ++ (dgN lns.length ++ [59])) ++ (txs lns ++ (spK ss ++ (dgN l.length ++ [59]) ++ bkR l)) := by
  rw [bk1]
  simp
set_option maxHeartbeats 6400000 in
set_option maxRecDepth 100000 in
theorem wblock15_any (m : Nat) : ∀ (x : Bk) (al as' ak : Option Addr) (cl cs ck : Nat) (w0 w : World) (t : Tx) (b : Nat), szOne x ≤ m → ttOne x ≤ 100000 → Tab w0 → Bt.fitOne 140737488355328 x → Rd w0 (.slice al x.lines.length cl) x.lines → Tr w0 (.slice as' x.spans.length cs) x.spans → TrB w0 (.slice ak x.kids.length ck) x.kids → Below w0.heap.size w0 w → Pg w0.heap.size b t w → t.length + (bk1 x).length ≤ 50000000 →
    Calls Tryd.prog 19 #[.pointer (some ⟨b, 0, none⟩), .agg #[.int .i64 x.kind, .int .i64 x.level, .string (S x.info), .slice al x.lines.length cl, .slice as' x.spans.length cs, .slice ak x.kids.length ck]] w (WrA w0.heap.size b (t ++ bk1 x) w) := by
  induction m using Nat.strongRecOn with
  | ind m ih =>
    intro x al as' ak cl cs ck w0 w t b hm htt hT hf hrd hsp htr hbw hp hN
    obtain ⟨q, lv, i, lns, ss, l⟩ := x
    simp only [Bk.kind, Bk.level, Bk.info, Bk.lines, Bk.spans, Bk.kids] at hrd hsp htr ⊢
    rw [Bt.fitOne] at hf
    obtain ⟨f1, f2, f3, f4, f5, f6⟩ := hf
    rw [ttOne] at htt
    rw [Bt.szOne_eq] at hm
    simp only [Bk.kids] at hm
    have hlns := ln_len lns
    have hlb := tt_len l
    have hlss := Sp.totAll_len ss
    have HIH : Hid (∀ k (hk : k < l.length) (w' : World) (q' : Tx) (al' as'' ak' : Option Addr) (cl' cs' ck' : Nat), Rd w0 (.slice al' l[k].lines.length cl') l[k].lines → Tr w0 (.slice as'' l[k].spans.length cs') l[k].spans → TrB w0 (.slice ak' l[k].kids.length ck') l[k].kids → Below w0.heap.size w0 w' → Pg w0.heap.size b q' w' → q'.length + (bk1 l[k]).length ≤ 50000000 →
        Calls Tryd.prog 19 #[.pointer (some ⟨b, 0, none⟩), .agg #[.int .i64 l[k].kind, .int .i64 l[k].level, .string (S l[k].info), .slice al' l[k].lines.length cl', .slice as'' l[k].spans.length cs', .slice ak' l[k].kids.length ck']] w' (WrA w0.heap.size b (q' ++ bk1 l[k]) w')) := Lib.hid (fun k hk w' q' al' as'' ak' cl' cs' ck' h1 h2 h3 h6 h7 h8 => by
      have hmm := List.getElem_mem hk
      have h4 := Bt.szAll_mem hmm
      have h5 := ttAll_mem hmm
      exact ih (szOne l[k]) (by omega) l[k] al' as'' ak' cl' cs' ck' w0 w' q' b (Nat.le_refl _) (by omega) hT (Bt.fitAll_at f6 _ hmm) h1 h2 h3 h6 h7 h8)
    have hXe := bk1_parts q lv i lns ss l t
    have HNl : Hid ((t ++ bk1 (.mk q lv i lns ss l)).length ≤ 50000000) := Lib.hid (by rw [List.length_append]; omega)
    obtain ⟨X, hX⟩ : ∃ X, t ++ bk1 (.mk q lv i lns ss l) = X := ⟨_, rfl⟩
    rw [hX] at hXe HNl ⊢
    have hxl := congrArg List.length hXe
    have hnl := HNl.out
    simp only [List.length_append, List.length_cons, List.length_nil] at hxl
    have HB1 := Lib.hid ((Below.refl w.heap.size w).alloc (Nat.le_refl _) (.cells #[.int .i64 q, .int .i64 lv, .string (S i), .slice al lns.length cl, .slice as' ss.length cs, .slice ak l.length ck] 33))
    have HC1 := Lib.hid (alloc_new w (.cells #[.int .i64 q, .int .i64 lv, .string (S i), .slice al lns.length cl, .slice as' ss.length cs, .slice ak l.length ck] 33))
    have hB0 := hbw.size
    have HG1 := Lib.hid ((PgAns.refl hp).more hB0 HB1.out)
    have hne : b ≠ w.heap.size := by have := pg_lt hp; omega
    have HNq := Lib.hid (fun (w' : World) (g : PgAns w0.heap.size b t w w') => numP_any q t b w0 w' hT (hbw.trans g.bel) g.pg f1 (by omega))
    have HNv := Lib.hid (fun (w' : World) (g : PgAns w0.heap.size b (t ++ (dgI q ++ [59])) w w') => numP_any lv (t ++ (dgI q ++ [59])) b w0 w' hT (hbw.trans g.bel) g.pg f2 (by simp only [List.length_append, List.length_singleton]; omega))
    have HTi := Lib.hid (fun (w' : World) (g : PgAns w0.heap.size b (t ++ (dgI q ++ [59]) ++ (dgI lv ++ [59])) w w') => txtP_any i (t ++ (dgI q ++ [59]) ++ (dgI lv ++ [59])) b w0 w' hT (hbw.trans g.bel) g.pg (by omega) (by simp only [List.length_append, List.length_singleton]; omega))
    have HNn := Lib.hid (fun (w' : World) (g : PgAns w0.heap.size b (t ++ (dgI q ++ [59]) ++ (dgI lv ++ [59]) ++ tx i) w w') => numP_any (lns.length : Int) (t ++ (dgI q ++ [59]) ++ (dgI lv ++ [59]) ++ tx i) b w0 w' hT (hbw.trans g.bel) g.pg (by omega) (by simp only [List.length_append, List.length_singleton]; omega))
    simp only [dgI_nat] at HNn
    have HTl := Lib.hid (fun k (hk : k < lns.length) (q' : Tx) (hq : q'.length ≤ 50000000) (w' : World) (g : PgAns w0.heap.size b q' w w') => txtP_any lns[k] q' b w0 w' hT (hbw.trans g.bel) g.pg (by have := ln_memN lns lns[k] (List.getElem_mem hk); omega) (by omega))
    have HSs := Lib.hid (fun (q' : Tx) (hq : q'.length + (spK ss).length ≤ 50000000) (w' : World) (g : PgAns w0.heap.size b q' w w') => wspans_any (totAll ss) ss _ w0 w' q' b (Nat.le_refl _) (by omega) hT hsp f5 (hbw.trans g.bel) g.pg hq)
    have HNk := Lib.hid (fun (q' : Tx) (hq : q'.length ≤ 50000000) (w' : World) (g : PgAns w0.heap.size b q' w w') => numP_any (l.length : Int) q' b w0 w' hT (hbw.trans g.bel) g.pg (by omega) (by omega))
    simp only [dgI_nat] at HNk
    have HKd := Lib.hid (fun k (hk : k < l.length) (q' : Tx) (hq : q'.length + (bk1 l[k]).length ≤ 50000000) (w' : World) (al' as'' ak' : Option Addr) (cl' cs' ck' : Nat) (h1 : Rd w0 (.slice al' l[k].lines.length cl') l[k].lines) (h2 : Tr w0 (.slice as'' l[k].spans.length cs') l[k].spans) (h3 : TrB w0 (.slice ak' l[k].kids.length ck') l[k].kids) (g : PgAns w0.heap.size b q' w w') => HIH.out k hk w' q' al' as'' ak' cl' cs' ck' h1 h2 h3 (hbw.trans g.bel) g.pg hq)
    have HRd := Lib.hid hrd
    have HTr := Lib.hid htr
    have HBw := Lib.hid hbw
    have HXe := Lib.hid hXe
    have lla : lns.length ≤ 100000 := by omega
    have llb : l.length ≤ 100000 := by omega
    unfold WrA at HNq HNv HTi HNn HTl HSs HNk HKd ⊢
    clear ih hm hrd hsp htr f1 f2 f3 f4 f5 f6 htt hT hp hN hXe hX hxl hnl HIH hbw hlns hlb hlss
    generalize t ++ (dgI q ++ [59]) ++ (dgI lv ++ [59]) ++ tx i ++ (dgN lns.length ++ [59]) = q4 at *
    generalize t ++ (dgI q ++ [59]) ++ (dgI lv ++ [59]) ++ tx i = q3 at *
    generalize t ++ (dgI q ++ [59]) ++ (dgI lv ++ [59]) = q2 at *
    generalize t ++ (dgI q ++ [59]) = q1 at *
    generalize S i = si at *
    go_enter Tryd.func19, Tryd.ntmps19
    go_upto_region 1 with fail
    generalize w.alloc (.cells #[.int .i64 q, .int .i64 lv, .string si, .slice al lns.length cl, .slice as' ss.length cs, .slice ak l.length ck] 33) = w1 at *
    have k0 : w1.cell? ⟨w.heap.size, 0, none⟩ = some (.int .i64 q) := cell_at HC1.out 0
    have HNqw := Lib.hid (HNq.out w1 HG1.out)
    clear HNq HB1
    go_wp2_with fail
    refine HNqw.out.mono ?_
    rintro e w2 ⟨rfl, b2⟩
    have HC2 := Lib.hid (b2.keeps hne (by decide) HC1.out)
    have HG2 := Lib.hid (HG1.out.trans b2)
    have k1 : w2.cell? ⟨w.heap.size, 1, none⟩ = some (.int .i64 lv) := cell_at HC2.out 1
    have HNvw := Lib.hid (HNv.out w2 HG2.out)
    clear b2 k0 HC1 HG1 HNqw HNv
    go_wp2_with fail
    refine HNvw.out.mono ?_
    rintro e w3 ⟨rfl, b3⟩
    have HC3 := Lib.hid (b3.keeps hne (by decide) HC2.out)
    have HG3 := Lib.hid (HG2.out.trans b3)
    have k2 : w3.cell? ⟨w.heap.size, 2, none⟩ = some (.string si) := cell_at HC3.out 2
    have HTiw := Lib.hid (HTi.out w3 HG3.out)
    clear b3 k1 HC2 HG2 HNvw HTi
    go_wp2_with fail
    refine HTiw.out.mono ?_
    rintro e w4 ⟨rfl, b4⟩
    have HC4 := Lib.hid (b4.keeps hne (by decide) HC3.out)
    have HG4 := Lib.hid (HG3.out.trans b4)
    have k3 : w4.cell? ⟨w.heap.size, 3, none⟩ = some (.slice al lns.length cl) := cell_at HC4.out 3
    have HNnw := Lib.hid (HNn.out w4 HG4.out)
    clear b4 k2 HC3 HG3 HTiw HNn
    go_wp2_with fail
    refine HNnw.out.mono ?_
    rintro e w5 ⟨rfl, b5⟩
    have HC5 := Lib.hid (b5.keeps hne (by decide) HC4.out)
    have HG5 := Lib.hid (HG4.out.trans b5)
    have k3' : w5.cell? ⟨w.heap.size, 3, none⟩ = some (.slice al lns.length cl) := cell_at HC5.out 3
    have H0 : Hid (X = q4 ++ (txs (lns.drop 0) ++ (spK ss ++ (dgN l.length ++ [59]) ++ bkR l))) := Lib.hid (by rw [List.drop_zero]; exact HXe.out)
    clear b5 k3 HC4 HG4 HNnw HXe
    go_wp2_with fail
    clear k3'
    go_loopw [28] (fun iv wr => ∃ (k : Nat) (p : Tx), k ≤ lns.length ∧ iv = .int .i64 k ∧ Hid (PgAns w0.heap.size b p w wr ∧ X = p ++ (txs (lns.drop k) ++ (spK ss ++ (dgN l.length ++ [59]) ++ bkR l))) ∧ Hid (wr.heap[w.heap.size]? = some (.cells #[.int .i64 q, .int .i64 lv, .string si, .slice al lns.length cl, .slice as' ss.length cs, .slice ak l.length ck] 33))) (fun iv _ => lns.length - (intOf iv).toNat)
    case atStart => exact ⟨0, q4, Nat.zero_le _, rfl, Lib.hid ⟨HG5.out, H0.out⟩, HC5⟩
    case round =>
      clear H0 HG5 HC5
      obtain ⟨k, p, hk, rfl, HN, HC⟩ := hrel
      by_cases hlt : k < lns.length
      · have hi1 : (k : Int) < (lns.length : Int) := by omega
        have hnx := HN.out.2
        rw [List.drop_eq_getElem_cons hlt, txs] at hnx
        obtain ⟨bb, o, hao, c0'⟩ := Bt.Rd.at (HRd.out.below (HBw.out.trans HN.out.1.bel)) k hlt
        subst hao
        have hall := congrArg List.length hnx
        have hnl := HNl.out
        simp only [List.length_append] at hall
        have HTw := Lib.hid (HTl.out k hlt p (by omega) wr HN.out.1)
        have HG := Lib.hid HN.out.1
        have HXn : Hid (∀ w', PgAns w0.heap.size b (p ++ tx lns[k]) w w' → (PgAns w0.heap.size b (p ++ tx lns[k]) w w' ∧ X = p ++ tx lns[k] ++ (txs (lns.drop (k + 1)) ++ (spK ss ++ (dgN l.length ++ [59]) ++ bkR l)))) := Lib.hid (fun w' h => ⟨h, by rw [hnx]; simp⟩)
        clear hnx HN hall hnl HRd HTr HTl HSs HNk HKd HBw HNl
        generalize p ++ tx lns[k] = p2 at *
        generalize S lns[k] = sk at *
        go_wp2_with fail
        refine HTw.out.mono ?_
        rintro e w6 ⟨rfl, b6⟩
        have HC6 := Lib.hid (b6.keeps hne (by decide) HC.out)
        have HR := Lib.hid (HXn.out w6 (HG.out.trans b6))
        clear b6 HTw HG HC HXn c0'
        go_wp2_with fail
        go_roundw
        case rel => exact ⟨k + 1, p2, by omega, by go_num, HR, HC6⟩
        case measure => simp [intOf] <;> omega
      · obtain rfl : k = lns.length := by omega
        have hi1 : ¬ (lns.length : Int) < (lns.length : Int) := by omega
        have hnx := HN.out.2
        rw [List.drop_length, txs, List.nil_append] at hnx
        have hall := congrArg List.length hnx
        have hnl := HNl.out
        simp only [List.length_append, List.length_cons, List.length_nil] at hall
        have HG6 := Lib.hid HN.out.1
        have HSw := Lib.hid (HSs.out p (by omega) wr HG6.out)
        have HNw := Lib.hid (HNk.out (p ++ spK ss) (by rw [List.length_append]; omega))
        have H0 : Hid (X = p ++ spK ss ++ (dgN l.length ++ [59]) ++ bkR (l.drop 0)) := Lib.hid (by rw [hnx, List.drop_zero]; simp)
        have k4 : wr.cell? ⟨w.heap.size, 4, none⟩ = some (.slice as' ss.length cs) := cell_at HC.out 4
        clear hnx HN hall hnl HRd HTl HSs HNk hlt
        generalize p ++ spK ss ++ (dgN l.length ++ [59]) = p2 at *
        generalize p ++ spK ss = p1 at *
        go_wp2_with fail
        refine HSw.out.mono ?_
        rintro e w7 ⟨rfl, b7⟩
        have HC7 := Lib.hid (b7.keeps hne (by decide) HC.out)
        have HG7 := Lib.hid (HG6.out.trans b7)
        have HNw7 := Lib.hid (HNw.out w7 HG7.out)
        have k5 : w7.cell? ⟨w.heap.size, 5, none⟩ = some (.slice ak l.length ck) := cell_at HC7.out 5
        clear b7 HSw HG6 HC HNw k4
        go_wp2_with fail
        refine HNw7.out.mono ?_
        rintro e w8 ⟨rfl, b8⟩
        have HC8 := Lib.hid (b8.keeps hne (by decide) HC7.out)
        have HG8 := Lib.hid (HG7.out.trans b8)
        have k5' : w8.cell? ⟨w.heap.size, 5, none⟩ = some (.slice ak l.length ck) := cell_at HC8.out 5
        clear b8 HNw7 HG7 HC7 k5
        go_wp2_with fail
        clear k5'
        go_loopw [48] (fun iv wr => ∃ (k : Nat) (p : Tx), k ≤ l.length ∧ iv = .int .i64 k ∧ Hid (PgAns w0.heap.size b p w wr ∧ X = p ++ bkR (l.drop k))) (fun iv _ => l.length - (intOf iv).toNat)
        case atStart => exact ⟨0, p2, Nat.zero_le _, rfl, Lib.hid ⟨HG8.out, H0.out⟩⟩
        case round =>
          clear H0 HG8 HC8
          obtain ⟨k, p, hk, rfl, HN⟩ := hrel
          by_cases hlt : k < l.length
          · have hi1 : (k : Int) < (l.length : Int) := by omega
            have hnx := HN.out.2
            rw [Bt.drop_cons l k hlt, bkR] at hnx
            have HBr := Lib.hid (HBw.out.trans HN.out.1.bel)
            obtain ⟨bb, o, vl, vs, ak', ck', rfl, hb, hC⟩ := HTr.out.at k hlt
            obtain ⟨al', cl', rfl⟩ := hC.rd.len
            obtain ⟨as'', cs', rfl⟩ := hC.sp.len
            have c0 := (HBr.out.cell (p := ⟨bb, o + k * 6, none⟩) hb).trans hC.kind
            have c1 := (HBr.out.cell (p := ⟨bb, o + k * 6 + 1, none⟩) hb).trans hC.level
            have c2 := (HBr.out.cell (p := ⟨bb, o + k * 6 + 2, none⟩) hb).trans hC.info
            have c3 := (HBr.out.cell (p := ⟨bb, o + k * 6 + 3, none⟩) hb).trans hC.lines
            have c4 := (HBr.out.cell (p := ⟨bb, o + k * 6 + 4, none⟩) hb).trans hC.spans
            have c5 := (HBr.out.cell (p := ⟨bb, o + k * 6 + 5, none⟩) hb).trans hC.kids
            have hall := congrArg List.length hnx
            have hnl := HNl.out
            simp only [List.length_append] at hall
            have HKw := Lib.hid (fun (w' : World) (g : PgAns w0.heap.size b p w w') => HKd.out k hlt p (by omega) w' al' as'' ak' cl' cs' ck' hC.rd hC.sp hC.tr g)
            have HG := Lib.hid HN.out.1
            have hBs := HBr.out.size
            have hB0 := HBw.out.size
            have HXn : Hid (∀ w', PgAns w0.heap.size b (p ++ bk1 l[k]) w w' → (PgAns w0.heap.size b (p ++ bk1 l[k]) w w' ∧ X = p ++ bk1 l[k] ++ bkR (l.drop (k + 1)))) := Lib.hid (fun w' h => ⟨h, by rw [hnx]; simp⟩)
            clear hnx HN hall hnl HTr HKd hC HNl
            generalize p ++ bk1 l[k] = p3 at *
            generalize l[k].kids.length = kn at *
            generalize l[k].spans.length = sn at *
            generalize l[k].lines.length = ln at *
            generalize S l[k].info = sk at *
            generalize l[k].level = lk at *
            generalize l[k].kind = qk at *
            go_upto_region 15 with fail
            have hA1 := alloc_new wr (.cells #[.int .i64 qk, .int .i64 lk, .string sk, .slice al' ln cl', .slice as'' sn cs', .slice ak' kn ck'] 33)
            have hb1 : Below wr.heap.size wr (wr.alloc (.cells #[.int .i64 qk, .int .i64 lk, .string sk, .slice al' ln cl', .slice as'' sn cs', .slice ak' kn ck'] 33)) := (Below.refl wr.heap.size wr).alloc (Nat.le_refl _) _
            have HG1 := Lib.hid (HG.out.more (HG.out.size hB0) hb1)
            clear c0 c1 c2 c3 c4 c5 HG hb1
            generalize wr.alloc (.cells #[.int .i64 qk, .int .i64 lk, .string sk, .slice al' ln cl', .slice as'' sn cs', .slice ak' kn ck'] 33) = w1' at *
            have k0 : w1'.cell? ⟨wr.heap.size, 0, none⟩ = some (.int .i64 qk) := cell_at hA1 0
            have k1 : w1'.cell? ⟨wr.heap.size, 1, none⟩ = some (.int .i64 lk) := cell_at hA1 1
            have k2 : w1'.cell? ⟨wr.heap.size, 2, none⟩ = some (.string sk) := cell_at hA1 2
            have k3 : w1'.cell? ⟨wr.heap.size, 3, none⟩ = some (.slice al' ln cl') := cell_at hA1 3
            have k4 : w1'.cell? ⟨wr.heap.size, 4, none⟩ = some (.slice as'' sn cs') := cell_at hA1 4
            have k5 : w1'.cell? ⟨wr.heap.size, 5, none⟩ = some (.slice ak' kn ck') := cell_at hA1 5
            have HKw1 := Lib.hid (HKw.out w1' HG1.out)
            clear hA1 HKw
            go_wp2_with fail
            refine HKw1.out.mono ?_
            rintro e w2' ⟨rfl, b2⟩
            have HR := Lib.hid (HXn.out w2' (HG1.out.trans b2))
            clear b2 HG1 HKw1 HXn k0 k1 k2 k3 k4 k5
            go_wp2_with fail
            go_roundw
            case rel => exact ⟨k + 1, p3, by omega, by go_num, HR⟩
            case measure => simp [intOf] <;> omega
          · obtain rfl : k = l.length := by omega
            have hi1 : ¬ (l.length : Int) < (l.length : Int) := by omega
            have hnx := HN.out.2
            rw [List.drop_length] at hnx
            have HR : Hid (PgAns w0.heap.size b X w wr) := Lib.hid (by rw [hnx, bkR, List.append_nil]; exact HN.out.1)
            clear hnx HN hlt
            go_wp2_with fail
            go_end0
            exact ⟨rfl, HR.out⟩
/-! Key. -/
set_option maxHeartbeats 1600000 in
theorem keyP_any (x : Bk) (v : Value) (w : World) (hT : Tab w) (hx : BkV w x v) (htt : ttOne x ≤ 2000) (hf : Bt.fitOne 140737488355328 x) :
    Calls Tryd.prog 11 #[v] w (StrA w (S (bk1 x))) := by
  obtain ⟨al, as', ak, cl, cs, ck, rfl, hrd, hln, hsp, htr⟩ := hx
  have hbl := bk1_len x hf (by omega)
  have HB1 := Lib.hid ((Below.refl w.heap.size w).alloc (Nat.le_refl _) (.cells #[.int .i64 x.kind, .int .i64 x.level, .string (S x.info), .slice al x.lines.length cl, .slice as' x.spans.length cs, .slice ak x.kids.length ck] 33))
  have HC1 := Lib.hid (alloc_new w (.cells #[.int .i64 x.kind, .int .i64 x.level, .string (S x.info), .slice al x.lines.length cl, .slice as' x.spans.length cs, .slice ak x.kids.length ck] 33))
  have HK := Lib.hid (fun (w1 w2 : World) (b1 : Below w.heap.size w w1) (b2 : Below w1.heap.size w1 w2) (hp : Pg w1.heap.size w1.heap.size [] w2) => wblock15_any (szOne x) x al as' ak cl cs ck w1 w2 [] w1.heap.size (Nat.le_refl _) (by omega) (hT.below b1) hf (hrd.below b1) (hsp.below b1) (htr.below b1) b2 hp (by rw [List.length_nil]; omega))
  simp only [List.nil_append] at HK
  unfold WrA at HK
  unfold StrA
  clear hT hrd hln hsp htr htt hf hbl
  generalize bk1 x = y at *
  generalize S x.info = si at *
  generalize x.lines.length = ln at *
  generalize x.spans.length = sn at *
  generalize x.kids.length = kn at *
  generalize x.level = lv at *
  generalize x.kind = q at *
  go_enter Tryd.func11, Tryd.ntmps11
  go_upto_region 1 with fail
  generalize w.alloc (.cells #[.int .i64 q, .int .i64 lv, .string si, .slice al ln cl, .slice as' sn cs, .slice ak kn ck] 33) = w1 at *
  have bP := (Below.refl w1.heap.size w1).alloc (Nat.le_refl _) (.cells #[.pointer none, .slice none 0 0] 50)
  have HKw := Lib.hid (HK.out w1 _ HB1.out bP (Pg.begin w1))
  have HB2 := Lib.hid (HB1.out.trans (bP.mono HB1.out.size))
  have HC2 := Lib.hid ((Cm.Keep.of_below (S := fun _ => False) bP).at HC1.out (fun h => h))
  have z1 := HB1.out.size
  have z2 := bP.size
  clear bP HK HC1 HB1
  go_upto_region 2 with fail
  generalize w1.alloc (.cells #[.pointer none, .slice none 0 0] 50) = w2 at *
  have k0 : w2.cell? ⟨w.heap.size, 0, none⟩ = some (.int .i64 q) := cell_at HC2.out 0
  have k1 : w2.cell? ⟨w.heap.size, 1, none⟩ = some (.int .i64 lv) := cell_at HC2.out 1
  have k2 : w2.cell? ⟨w.heap.size, 2, none⟩ = some (.string si) := cell_at HC2.out 2
  have k3 : w2.cell? ⟨w.heap.size, 3, none⟩ = some (.slice al ln cl) := cell_at HC2.out 3
  have k4 : w2.cell? ⟨w.heap.size, 4, none⟩ = some (.slice as' sn cs) := cell_at HC2.out 4
  have k5 : w2.cell? ⟨w.heap.size, 5, none⟩ = some (.slice ak kn ck) := cell_at HC2.out 5
  go_wp2_with fail
  refine HKw.out.mono ?_
  rintro e w3 ⟨rfl, b3⟩
  have HB3 := Lib.hid (HB2.out.trans (b3.bel.mono z1))
  have HS := Lib.hid (stringP_any _ _ _ w3 b3.pg (b3.size z2))
  clear b3 HKw k0 k1 k2 k3 k4 k5 HC2 HB2
  go_wp2_with fail
  refine HS.out.mono ?_
  rintro e w4 ⟨rfl, b4⟩
  have HB4 := Lib.hid (HB3.out.trans (b4.mono z1))
  clear b4 HS HB3
  go_wp2_with fail
  go_ret
  exact ⟨rfl, HB4.out⟩
end Go.Proofs.YtldllbmbcnipoaaDoor.Nm
