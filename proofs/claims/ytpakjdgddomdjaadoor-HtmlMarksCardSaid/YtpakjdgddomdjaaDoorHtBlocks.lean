/-
  CONTRACTS of a page's block and blocks, and of Blocks (html); written by gen_blocks.py.
-/
import Derived.Test.YtpakjdgddomdjaaDoorHtBlk
import Derived.StillTailTactics
namespace Go.Proofs.YtpakjdgddomdjaaDoor.Ht
open Go.RowKit
open Go.Proofs.YtpakjdgddomdjaaDoor.Tk (S S_of S_list S_size S_toList S_app len_data Rd)
open Go.Proofs.YtpakjdgddomdjaaDoor.Cm (calls_at cell_at alloc_new alloc_at)
open Go.Proofs.YtpakjdgddomdjaaDoor.Sp (Sp Tr totAll)
open Go.Proofs.YtpakjdgddomdjaaDoor.Bt (TrB szAll szOne szAll_mem szAll_kids drop_cons fitAll fitOne)
open Go.Proofs.YtpakjdgddomdjaaDoor.Bk (Bk Tx)
set_option linter.unusedVariables false

set_option maxHeartbeats 3200000 in
set_option maxRecDepth 100000 in
theorem blockP_any (x : Bk) (t : Tx) (al as' ak : Option Addr) (cl cs ck b : Nat) (w0 w : World) (hw : Below w0.heap.size w0 w) (h : Pg w0.heap.size b t w) (hi : x.info.length ≤ 140737488355328) (hls : x.lines.length ≤ 9223372036854775807) (hlen : t.length + (hbOne x).length ≤ 140737488355328)
    (hrd : Rd w0 (.slice al x.lines.length cl) x.lines) (hsp : Tr w0 (.slice as' x.spans.length cs) x.spans) (hk : CtF 20 w0 (.slice ak x.kids.length ck) b (hbAll x.kids)) :
    Calls Tryd.prog 26 #[.pointer (some ⟨b, 0, none⟩), .agg #[.int .i64 x.kind, .int .i64 x.level, .string (S x.info), .slice al x.lines.length cl, .slice as' x.spans.length cs, .slice ak x.kids.length ck]] w fun e w' => e = .returned (.tuple #[]) ∧ PgAns w0.heap.size b (t ++ hbOne x) w w' := by
  obtain ⟨q, lv, i, lns, ss, l⟩ := x
  simp only [Bk.kind, Bk.level, Bk.info, Bk.lines, Bk.spans, Bk.kids] at hrd hsp hk hi hls ⊢
  have HB1 := Lib.hid ((Below.refl w.heap.size w).alloc (Nat.le_refl _) (.cells #[.int .i64 q, .int .i64 lv, .string (S i), .slice al lns.length cl, .slice as' ss.length cs, .slice ak l.length ck] 35))
  have HC1 := Lib.hid (alloc_new w (.cells #[.int .i64 q, .int .i64 lv, .string (S i), .slice al lns.length cl, .slice as' ss.length cs, .slice ak l.length ck] 35))
  have P1 := Lib.hid (h.below HB1.out)
  have HG := Lib.hid ((PgAns.refl h).more hw.size HB1.out)
  have HW1 := Lib.hid (hw.trans (HB1.out.mono hw.size))
  have HSp : Hid (CtF 23 w0 (.slice as' ss.length cs) b (hsAll ss)) := Lib.hid (fun w' t' h1 h2 h3 => spansP_any (totAll ss) ss _ w0 w' t' b (Nat.le_refl _) hsp h1 h2 h3)
  have HKd := Lib.hid hk
  have HFe := Lib.hid (fun (w' : World) (h1 : Below w0.heap.size w0 w') (h2 : Pg w0.heap.size b t w') (h3 : t.length + (feT i lns).length ≤ 140737488355328) => fenceP_any i lns t _ b w0 w' h1 h2 hi hls hrd h3)
  have hB0 := hw.size
  clear h hw hrd hsp hk hi hls HB1
  rw [hbOne] at hlen ⊢
  generalize S i = si at *
  generalize hsAll ss = ys at *
  generalize hbAll l = yk at *
  generalize l.length = kn at *
  generalize ss.length = sn at *
  generalize lns.length = ln at *
  by_cases h1 : q = 1
  · rw [if_pos h1] at hlen ⊢
    subst h1
    have HL := Lib.hid (lineP_any [112] ys t as' sn cs b w0 _ HW1.out P1.out (by simp) hlen HSp.out)
    have e1 : S [112] = ⟨#[112]⟩ := rfl
    rw [e1] at HL
    clear HW1 P1 HSp HKd HFe e1
    go_enter Tryd.func26, Tryd.ntmps26
    go_upto_region 1 with fail
    generalize w.alloc (.cells #[.int .i64 1, .int .i64 lv, .string si, .slice al ln cl, .slice as' sn cs, .slice ak kn ck] 35) = w1 at *
    have k0 : w1.cell? ⟨w.heap.size, 0, none⟩ = some (.int .i64 1) := cell_at HC1.out 0
    have k4 : w1.cell? ⟨w.heap.size, 4, none⟩ = some (.slice as' sn cs) := cell_at HC1.out 4
    clear HC1
    go_wp2_with fail
    refine HL.out.mono ?_
    rintro e w2 ⟨rfl, b2⟩
    have HR := Lib.hid (HG.out.trans b2)
    clear b2 HL HG
    go_wp2_with fail
    go_end0
    exact ⟨rfl, HR.out⟩
  rw [if_neg h1] at hlen ⊢
  by_cases h2 : q = 2
  · rw [if_pos h2] at hlen ⊢
    subst h2
    have HL := Lib.hid (fun w' h1 h2 => lineP_any [104, dg lv] ys t as' sn cs b w0 w' h1 h2 (by simp) hlen HSp.out)
    have HD := Lib.hid (digit_any lv)
    have zd : (S [dg lv]).size = 1 := S_size _
    have gd : ¬ 9223372036854775807 < (⟨#[104]⟩ : ByteArray).size + (S [dg lv]).size := by rw [zd]; show ¬ _ < 1 + 1; omega
    have gd2 : ¬ 9223372036854775807 < 1 + (S [dg lv]).size := by omega
    have e1 : S [104, dg lv] = ⟨#[104]⟩ ++ S [dg lv] := by rw [show (⟨#[104]⟩ : ByteArray) = S [104] from rfl, S_app]; rfl
    rw [e1] at HL
    clear HKd HFe e1 HSp
    generalize lnT [104, dg lv] ys = yy at *
    generalize S [dg lv] = sd at *
    go_enter Tryd.func26, Tryd.ntmps26
    go_upto_region 1 with fail
    generalize w.alloc (.cells #[.int .i64 2, .int .i64 lv, .string si, .slice al ln cl, .slice as' sn cs, .slice ak kn ck] 35) = w1 at *
    have k0 : w1.cell? ⟨w.heap.size, 0, none⟩ = some (.int .i64 2) := cell_at HC1.out 0
    have k1 : w1.cell? ⟨w.heap.size, 1, none⟩ = some (.int .i64 lv) := cell_at HC1.out 1
    have k4 : w1.cell? ⟨w.heap.size, 4, none⟩ = some (.slice as' sn cs) := cell_at HC1.out 4
    clear HC1
    go_upto_region 5 with fail
    refine wp_region_still_tail 7 (by kernel_rfl) (by kernel_rfl) ?_
    simp only [List.take_succ_cons, List.take_zero, List.drop_succ_cons, List.drop_zero]
    have j1 : w1.drew.cell? ⟨w.heap.size, 1, none⟩ = some (.int .i64 lv) := k1
    have j4 : w1.drew.cell? ⟨w.heap.size, 4, none⟩ = some (.slice as' sn cs) := k4
    still_step
    still_step
    still_step
    still_call ((HD.out _).mono (fun e w' h => ⟨h.1, h.2.symm⟩))
    still_step
    still_step
    still_step
    refine wpStill_nil ?_
    change wpList _ _ _ _ _ w1.drew
    have HD2 : Hid (Below w1.heap.size w1 w1.drew) := Lib.hid (Below.drew (Below.refl _ _))
    have HL2 := Lib.hid (HL.out w1.drew (HW1.out.trans (HD2.out.mono HW1.out.size)) (P1.out.below HD2.out))
    have HG2 := Lib.hid (HG.out.more HW1.out.size HD2.out)
    clear HL HG HW1 P1 HD2 HD k0 k1 k4 j1 j4
    generalize w1.drew = w1' at *
    go_wp2_with fail
    refine HL2.out.mono ?_
    rintro e w2 ⟨rfl, b2⟩
    have HR := Lib.hid (HG2.out.trans b2)
    clear b2 HL2 HG2
    go_wp2_with fail
    go_end0
    exact ⟨rfl, HR.out⟩
  rw [if_neg h2] at hlen ⊢
  by_cases h3 : q = 3
  · rw [if_pos h3] at hlen ⊢
    subst h3
    have HL := Lib.hid (putP_any w0.heap.size b t ⟨#[60, 104, 114, 32, 47, 62, 10]⟩ _ P1.out (by exact hlen) HW1.out.size)
    have e1 : t ++ (⟨#[60, 104, 114, 32, 47, 62, 10]⟩ : ByteArray).data.toList = t ++ hr := rfl
    rw [e1] at HL
    clear HW1 P1 HSp HKd HFe e1
    go_enter Tryd.func26, Tryd.ntmps26
    go_upto_region 1 with fail
    generalize w.alloc (.cells #[.int .i64 3, .int .i64 lv, .string si, .slice al ln cl, .slice as' sn cs, .slice ak kn ck] 35) = w1 at *
    have k0 : w1.cell? ⟨w.heap.size, 0, none⟩ = some (.int .i64 3) := cell_at HC1.out 0
    clear HC1
    go_wp2_with fail
    refine HL.out.mono ?_
    rintro e w2 ⟨rfl, b2⟩
    have HR := Lib.hid (HG.out.trans b2)
    clear b2 HL HG
    go_wp2_with fail
    go_end0
    exact ⟨rfl, HR.out⟩
  rw [if_neg h3] at hlen ⊢
  by_cases h4 : q = 4
  · rw [if_pos h4] at hlen ⊢
    subst h4
    have HL := Lib.hid (HFe.out _ HW1.out P1.out hlen)
    clear HW1 P1 HSp HKd HFe
    go_enter Tryd.func26, Tryd.ntmps26
    go_upto_region 1 with fail
    generalize w.alloc (.cells #[.int .i64 4, .int .i64 lv, .string si, .slice al ln cl, .slice as' sn cs, .slice ak kn ck] 35) = w1 at *
    have k0 : w1.cell? ⟨w.heap.size, 0, none⟩ = some (.int .i64 4) := cell_at HC1.out 0
    have k2 : w1.cell? ⟨w.heap.size, 2, none⟩ = some (.string si) := cell_at HC1.out 2
    have k3 : w1.cell? ⟨w.heap.size, 3, none⟩ = some (.slice al ln cl) := cell_at HC1.out 3
    clear HC1
    go_wp2_with fail
    refine HL.out.mono ?_
    rintro e w2 ⟨rfl, b2⟩
    have HR := Lib.hid (HG.out.trans b2)
    clear b2 HL HG
    go_wp2_with fail
    go_end0
    exact ⟨rfl, HR.out⟩
  rw [if_neg h4] at hlen ⊢
  by_cases h5 : q = 5
  · rw [if_pos h5] at hlen ⊢
    subst h5
    have HL := Lib.hid (containerP_any nQ yk t ak kn ck b w0 _ HW1.out P1.out (by simp [nQ]) hlen HKd.out)
    have e1 : S nQ = ⟨#[98, 108, 111, 99, 107, 113, 117, 111, 116, 101]⟩ := rfl
    rw [e1] at HL
    clear HW1 P1 HSp HKd HFe e1
    go_enter Tryd.func26, Tryd.ntmps26
    go_upto_region 1 with fail
    generalize w.alloc (.cells #[.int .i64 5, .int .i64 lv, .string si, .slice al ln cl, .slice as' sn cs, .slice ak kn ck] 35) = w1 at *
    have k0 : w1.cell? ⟨w.heap.size, 0, none⟩ = some (.int .i64 5) := cell_at HC1.out 0
    have k5 : w1.cell? ⟨w.heap.size, 5, none⟩ = some (.slice ak kn ck) := cell_at HC1.out 5
    clear HC1
    go_wp2_with fail
    refine HL.out.mono ?_
    rintro e w2 ⟨rfl, b2⟩
    have HR := Lib.hid (HG.out.trans b2)
    clear b2 HL HG
    go_wp2_with fail
    go_end0
    exact ⟨rfl, HR.out⟩
  rw [if_neg h5] at hlen ⊢
  by_cases h6 : q = 6
  · rw [if_pos h6] at hlen ⊢
    subst h6
    have HL := Lib.hid (containerP_any nL yk t ak kn ck b w0 _ HW1.out P1.out (by simp [nL]) hlen HKd.out)
    have e1 : S nL = ⟨#[117, 108]⟩ := rfl
    rw [e1] at HL
    clear HW1 P1 HSp HKd HFe e1
    go_enter Tryd.func26, Tryd.ntmps26
    go_upto_region 1 with fail
    generalize w.alloc (.cells #[.int .i64 6, .int .i64 lv, .string si, .slice al ln cl, .slice as' sn cs, .slice ak kn ck] 35) = w1 at *
    have k0 : w1.cell? ⟨w.heap.size, 0, none⟩ = some (.int .i64 6) := cell_at HC1.out 0
    have k5 : w1.cell? ⟨w.heap.size, 5, none⟩ = some (.slice ak kn ck) := cell_at HC1.out 5
    clear HC1
    go_wp2_with fail
    refine HL.out.mono ?_
    rintro e w2 ⟨rfl, b2⟩
    have HR := Lib.hid (HG.out.trans b2)
    clear b2 HL HG
    go_wp2_with fail
    go_end0
    exact ⟨rfl, HR.out⟩
  rw [if_neg h6] at hlen ⊢
  by_cases h7 : q = 7
  · rw [if_pos h7] at hlen ⊢
    subst h7
    have HL := Lib.hid (containerP_any nI yk t ak kn ck b w0 _ HW1.out P1.out (by simp [nI]) hlen HKd.out)
    have e1 : S nI = ⟨#[108, 105]⟩ := rfl
    rw [e1] at HL
    clear HW1 P1 HSp HKd HFe e1
    go_enter Tryd.func26, Tryd.ntmps26
    go_upto_region 1 with fail
    generalize w.alloc (.cells #[.int .i64 7, .int .i64 lv, .string si, .slice al ln cl, .slice as' sn cs, .slice ak kn ck] 35) = w1 at *
    have k0 : w1.cell? ⟨w.heap.size, 0, none⟩ = some (.int .i64 7) := cell_at HC1.out 0
    have k5 : w1.cell? ⟨w.heap.size, 5, none⟩ = some (.slice ak kn ck) := cell_at HC1.out 5
    clear HC1
    go_wp2_with fail
    refine HL.out.mono ?_
    rintro e w2 ⟨rfl, b2⟩
    have HR := Lib.hid (HG.out.trans b2)
    clear b2 HL HG
    go_wp2_with fail
    go_end0
    exact ⟨rfl, HR.out⟩
  rw [if_neg h7] at hlen ⊢
  rw [List.append_nil]
  have e1 : (q == 1) = false := by rw [beq_eq_false_iff_ne]; exact h1
  have e2 : (q == 2) = false := by rw [beq_eq_false_iff_ne]; exact h2
  have e3 : (q == 3) = false := by rw [beq_eq_false_iff_ne]; exact h3
  have e4 : (q == 4) = false := by rw [beq_eq_false_iff_ne]; exact h4
  have e5 : (q == 5) = false := by rw [beq_eq_false_iff_ne]; exact h5
  have e6 : (q == 6) = false := by rw [beq_eq_false_iff_ne]; exact h6
  have e7 : (q == 7) = false := by rw [beq_eq_false_iff_ne]; exact h7
  clear HW1 P1 HSp HKd HFe
  go_enter Tryd.func26, Tryd.ntmps26
  go_upto_region 1 with fail
  generalize w.alloc (.cells #[.int .i64 q, .int .i64 lv, .string si, .slice al ln cl, .slice as' sn cs, .slice ak kn ck] 35) = w1 at *
  have k0 : w1.cell? ⟨w.heap.size, 0, none⟩ = some (.int .i64 q) := cell_at HC1.out 0
  clear HC1
  go_wp2_with fail
  go_end0
  exact ⟨rfl, HG.out⟩

/-! Blocks, in order. -/
theorem hb_one (x : Bk) (r : List Bk) (t p : Tx) : t ++ p ++ hbAll (x :: r) = t ++ (p ++ hbOne x) ++ hbAll r := by
  rw [hbAll_cons]
  simp only [List.append_assoc]
set_option maxHeartbeats 6400000 in
set_option maxRecDepth 100000 in
theorem blocksP_any (m : Nat) : ∀ (l : List Bk) (v : Value) (w0 w : World) (t : Tx) (b : Nat), szAll l ≤ m → TrB w0 v l → fitAll 140737488355328 l → Below w0.heap.size w0 w → Pg w0.heap.size b t w → t.length + (hbAll l).length ≤ 140737488355328 →
    Calls Tryd.prog 20 #[.pointer (some ⟨b, 0, none⟩), v] w fun e w' => e = .returned (.tuple #[]) ∧ PgAns w0.heap.size b (t ++ hbAll l) w w' := by
  induction m using Nat.strongRecOn with
  | ind m ih =>
    intro l v w0 w t b hm ht hf hbw hp hN
    obtain ⟨ao, ca, rfl⟩ := ht.len
    have T := Lib.hid ht
    have hlen := ht.short
    have HFit : Hid (∀ k (hk : k < l.length), l[k].info.length ≤ 140737488355328 ∧ fitAll 140737488355328 l[k].kids) := Lib.hid (fun k hk => by
      have h := Bt.fitOne_eq.1 (Bt.fitAll_at hf l[k] (List.getElem_mem hk))
      exact ⟨h.2.2.1, h.2.2.2.2.2⟩)
    have HIH : Hid (∀ k (hk : k < l.length) (v' : Value), TrB w0 v' l[k].kids → CtF 20 w0 v' b (hbAll l[k].kids)) := Lib.hid (fun k hk v' t' w' q b' p' n' =>
      ih (szAll l[k].kids) (Nat.lt_of_lt_of_le (szAll_kids (List.getElem_mem hk)) hm) l[k].kids v' w0 w' q b (Nat.le_refl _) t' (HFit.out k hk).2 b' p' n')
    have H0 : Hid (PgAns w0.heap.size b (t ++ []) w w ∧ t ++ hbAll l = t ++ [] ++ hbAll (l.drop 0)) := Lib.hid ⟨by rw [List.append_nil]; exact PgAns.refl hp, by rw [List.drop_zero, List.append_nil]⟩
    have HNl : Hid ((t ++ hbAll l).length ≤ 140737488355328) := Lib.hid (by rw [List.length_append]; omega)
    have HBw := Lib.hid hbw
    obtain ⟨X, hX⟩ : ∃ X, t ++ hbAll l = X := ⟨_, rfl⟩
    rw [hX] at H0 HNl
    rw [hX]
    clear ih ht hf hm hX hbw hp hN
    go_enter Tryd.func20, Tryd.ntmps20
    go_wp2_with fail
    go_loopw [8] (fun i wr => ∃ (k : Nat) (p : Tx), k ≤ l.length ∧ i = .int .i64 k ∧ Hid (PgAns w0.heap.size b (t ++ p) w wr ∧ X = t ++ p ++ hbAll (l.drop k))) (fun i _ => l.length - (intOf i).toNat)
    case atStart => exact ⟨0, [], Nat.zero_le _, rfl, H0⟩
    case round =>
      clear H0
      obtain ⟨k, p, hk, rfl, HN⟩ := hrel
      by_cases hlt : k < l.length
      · have hi1 : (k : Int) < (l.length : Int) := by omega
        have hnx := HN.out.2
        rw [drop_cons l k hlt, hb_one] at hnx
        have HBr := Lib.hid (HBw.out.trans HN.out.1.bel)
        obtain ⟨bb, o, vl, vs, ak, ck, rfl, hb, hC⟩ := T.out.at k hlt
        obtain ⟨al, cl, rfl⟩ := hC.rd.len
        obtain ⟨as', cs, rfl⟩ := hC.sp.len
        have c0 := (HBr.out.cell (p := ⟨bb, o + k * 6, none⟩) hb).trans hC.kind
        have c1 := (HBr.out.cell (p := ⟨bb, o + k * 6 + 1, none⟩) hb).trans hC.level
        have c2 := (HBr.out.cell (p := ⟨bb, o + k * 6 + 2, none⟩) hb).trans hC.info
        have c3 := (HBr.out.cell (p := ⟨bb, o + k * 6 + 3, none⟩) hb).trans hC.lines
        have c4 := (HBr.out.cell (p := ⟨bb, o + k * 6 + 4, none⟩) hb).trans hC.spans
        have c5 := (HBr.out.cell (p := ⟨bb, o + k * 6 + 5, none⟩) hb).trans hC.kids
        have hxl := congrArg List.length hnx
        have hnl := HNl.out
        simp only [List.length_append] at hxl
        have HBk := Lib.hid (fun (w' : World) (h1 : Below w0.heap.size w0 w') (h2 : Pg w0.heap.size b (t ++ p) w') => blockP_any l[k] (t ++ p) al as' ak cl cs ck b w0 w' h1 h2 (HFit.out k hlt).1 hC.short (by simp only [List.length_append]; omega) hC.rd hC.sp (HIH.out k hlt _ hC.tr))
        have HZ : Hid (∀ w', PgAns w0.heap.size b (t ++ p ++ hbOne l[k]) w w' → (PgAns w0.heap.size b (t ++ (p ++ hbOne l[k])) w w' ∧ X = t ++ (p ++ hbOne l[k]) ++ hbAll (l.drop (k + 1)))) := Lib.hid (fun w' h => ⟨by simpa only [List.append_assoc] using h, hnx⟩)
        have HG := Lib.hid HN.out.1
        have hB0 := HBw.out.size
        clear hnx HN hC HIH T HNl hxl hnl HFit
        generalize p ++ hbOne l[k] = p2 at *
        generalize hbOne l[k] = ye at *
        generalize l[k].kids.length = kn at *
        generalize l[k].spans.length = sn at *
        generalize l[k].lines.length = ln at *
        generalize S l[k].info = si at *
        generalize l[k].level = lv at *
        generalize l[k].kind = z at *
        go_upto_region 3 with fail
        have hA1 := alloc_new wr (.cells #[.int .i64 z, .int .i64 lv, .string si, .slice al ln cl, .slice as' sn cs, .slice ak kn ck] 35)
        have hb1 : Below wr.heap.size wr (wr.alloc (.cells #[.int .i64 z, .int .i64 lv, .string si, .slice al ln cl, .slice as' sn cs, .slice ak kn ck] 35)) := (Below.refl wr.heap.size wr).alloc (Nat.le_refl _) _
        have HG1 := Lib.hid (HG.out.more (HG.out.size hB0) hb1)
        clear c0 c1 c2 c3 c4 c5 HG hb1
        generalize wr.alloc (.cells #[.int .i64 z, .int .i64 lv, .string si, .slice al ln cl, .slice as' sn cs, .slice ak kn ck] 35) = w1 at *
        have k0 : w1.cell? ⟨wr.heap.size, 0, none⟩ = some (.int .i64 z) := cell_at hA1 0
        have k1 : w1.cell? ⟨wr.heap.size, 1, none⟩ = some (.int .i64 lv) := cell_at hA1 1
        have k2 : w1.cell? ⟨wr.heap.size, 2, none⟩ = some (.string si) := cell_at hA1 2
        have k3 : w1.cell? ⟨wr.heap.size, 3, none⟩ = some (.slice al ln cl) := cell_at hA1 3
        have k4 : w1.cell? ⟨wr.heap.size, 4, none⟩ = some (.slice as' sn cs) := cell_at hA1 4
        have k5 : w1.cell? ⟨wr.heap.size, 5, none⟩ = some (.slice ak kn ck) := cell_at hA1 5
        have HBw1 := Lib.hid (HBk.out w1 (HBw.out.trans HG1.out.bel) HG1.out.pg)
        clear hA1 HBk
        go_wp2_with fail
        refine HBw1.out.mono ?_
        rintro e w2 ⟨rfl, b2⟩
        have HR := Lib.hid (HZ.out w2 (HG1.out.trans b2))
        clear b2 HBw1 HG1 HZ k0 k1 k2 k3 k4 k5
        go_wp2_with fail
        go_roundw
        case rel => exact ⟨k + 1, p2, by omega, by go_num, HR⟩
        case measure => simp [intOf] <;> omega
      · obtain rfl : k = l.length := by omega
        have hnx := HN.out.2
        rw [List.drop_length] at hnx
        have HR : Hid (PgAns w0.heap.size b X w wr) := Lib.hid (by rw [hnx]; unfold hbAll; rw [List.append_nil]; exact HN.out.1)
        clear hnx HN hlt
        go_wp2_with fail
        go_end0
        exact ⟨rfl, HR.out⟩
theorem blocksH_any (l : List Bk) (v : Value) (w : World) (ht : TrB w v l) (hf : fitAll 140737488355328 l) (hn : (hbAll l).length ≤ 140737488355328) :
    Calls Tryd.prog 11 #[v] w fun e w' => e = .returned (.string (S (hbAll l))) ∧ Below w.heap.size w w' := by
  obtain ⟨ao, ca, rfl⟩ := ht.len
  have HB1 := Lib.hid ((Below.refl w.heap.size w).alloc (Nat.le_refl _) (.cells #[.pointer none, .slice none 0 0] 47))
  have HW := Lib.hid (blocksP_any (szAll l) l _ w _ [] _ (Nat.le_refl _) ht hf HB1.out (Pg.begin w) (by rw [List.length_nil]; omega))
  rw [List.nil_append] at HW
  clear ht hf hn
  generalize hbAll l = y at *
  generalize l.length = n at *
  go_enter Tryd.func11, Tryd.ntmps11
  go_wp2_with fail
  refine HW.out.mono ?_
  rintro e w2 ⟨rfl, b2⟩
  have HB2 := Lib.hid (HB1.out.trans b2.bel)
  have HS := Lib.hid (stringP_any _ _ _ w2 b2.pg HB2.out.size)
  clear b2 HW
  go_wp2_with fail
  refine HS.out.mono ?_
  rintro e w3 ⟨rfl, b3⟩
  have HB3 := Lib.hid (HB2.out.trans b3)
  clear b3 HS
  go_wp2_with fail
  go_ret
  exact ⟨rfl, HB3.out⟩
end Go.Proofs.YtpakjdgddomdjaaDoor.Ht
