/-
  CONTRACTS of the document's one and Blocks (emendationref14); written by gen_one.py.
-/
import Derived.Test.YtpakjdgddomdjaaDoorHtRefS
import Derived.Test.YtpakjdgddomdjaaDoorBtFew
import Derived.Lib.SlBytesRow
namespace Go.Proofs.YtpakjdgddomdjaaDoor.Ht
open Go.RowKit
open Go.Proofs.YtpakjdgddomdjaaDoor.Tk (S S_of S_list S_size S_toList S_app len_data Rd)
open Go.Proofs.YtpakjdgddomdjaaDoor.Cm (calls_at cell_at alloc_new alloc_at)
open Go.Proofs.YtpakjdgddomdjaaDoor.Sp (Sp Tr totAll)
open Go.Proofs.YtpakjdgddomdjaaDoor.Bt (TrB szAll szOne szAll_mem szAll_kids drop_cons ttAll ttOne lnTot)
open Go.Proofs.YtpakjdgddomdjaaDoor.Bk (Bk Tx)
set_option linter.unusedVariables false

theorem one_byte (w : World) (c : UInt8) :
    (convert 43 9 (.slice (some ⟨w.heap.size, 0, none⟩) 1 1)).run Tryd.prog (w.alloc (.cells #[.int .u8 c.toNat] 5)) = .ok (.string (S [c])) (w.alloc (.cells #[.int .u8 c.toNat] 5)) := by
  refine Lib.run_convert_whole (P := Tryd.prog) _ 43 5 9 Tryd.underlying43 Tryd.underlying5 Tryd.underlying9 w.heap.size 0 (S [c]) ?_ 1
  intro i hi
  obtain rfl : i = 0 := by have : i < 1 := hi; omega
  rw [Nat.zero_add, World.cell?_alloc_new]
  rfl
theorem dg_wrap (lv : Int) (h1 : 1 ≤ lv) (h9 : lv ≤ 9) : IntKind.u8.wrap (48 + lv) = ((dg lv).toNat : Int) := by
  obtain ⟨n, rfl⟩ : ∃ n : Nat, lv = n := ⟨lv.toNat, by omega⟩
  have h1' : 1 ≤ n := by omega
  have h9' : n ≤ 9 := by omega
  match n, h1', h9' with
  | 1, _, _ => rfl
  | 2, _, _ => rfl
  | 3, _, _ => rfl
  | 4, _, _ => rfl
  | 5, _, _ => rfl
  | 6, _, _ => rfl
  | 7, _, _ => rfl
  | 8, _, _ => rfl
  | 9, _, _ => rfl
theorem ln_le : ∀ (l : List Tx) (s : Tx), s ∈ l → s.length ≤ lnTot l
  | [], s, h => by cases h
  | y :: r, s, h => by
    rw [lnTot]
    rcases List.mem_cons.1 h with rfl | h
    · omega
    · have := ln_le r s h; omega
set_option maxHeartbeats 6400000 in
set_option maxRecDepth 100000 in
theorem rone_any (x : Bk) (al as' ak : Option Addr) (cl cs ck : Nat) (w : World) (htt : ttOne x ≤ 2000000) (IH : ∀ w', TrB w' (.slice ak x.kids.length ck) x.kids → Calls Tryd.prog 12 #[.slice ak x.kids.length ck] w' (StrA w' (S (hbAll x.kids))))
    (hrd : Rd w (.slice al x.lines.length cl) x.lines) (hln : x.lines.length ≤ 9223372036854775807) (hsp : Tr w (.slice as' x.spans.length cs) x.spans) (htr : TrB w (.slice ak x.kids.length ck) x.kids) :
    Calls Tryd.prog 22 #[.agg #[.int .i64 x.kind, .int .i64 x.level, .string (S x.info), .slice al x.lines.length cl, .slice as' x.spans.length cs, .slice ak x.kids.length ck]] w (StrA w (S (hbOne x))) := by
  obtain ⟨q, lv, i, lns, ss, l⟩ := x
  simp only [Bk.kind, Bk.level, Bk.info, Bk.lines, Bk.spans, Bk.kids] at hrd hln hsp htr IH ⊢
  rw [ttOne] at htt
  have hys := hsAll_len ss
  have hyk := hbAll_len l
  have hB1 := (Below.refl w.heap.size w).alloc (Nat.le_refl _) (.cells #[.int .i64 q, .int .i64 lv, .string (S i), .slice al lns.length cl, .slice as' ss.length cs, .slice ak l.length ck] 35)
  have HC1 := Lib.hid (alloc_new w (.cells #[.int .i64 q, .int .i64 lv, .string (S i), .slice al lns.length cl, .slice as' ss.length cs, .slice ak l.length ck] 35))
  have HSp := Lib.hid (fun w' (h : Below w.heap.size w w') => rspans_any (totAll ss) ss _ w' (Nat.le_refl _) (by omega) (hsp.below h))
  have HKd := Lib.hid (fun w' (h : Below w.heap.size w w') => IH w' (htr.below h))
  have HRd := Lib.hid (fun w' (h : Below w.heap.size w w') => hrd.below h)
  have HB1 := Lib.hid hB1
  unfold StrA at HSp HKd ⊢
  rw [hbOne]
  clear hB1 hrd hsp htr IH
  by_cases h1 : q = 1
  · rw [if_pos h1]
    subst h1
    obtain ⟨y, hy⟩ : ∃ y, hsAll ss = y := ⟨_, rfl⟩
    rw [hy] at HSp hys ⊢
    have zy : (S y).size = y.length := S_size _
    have zl60_112_62 : (⟨#[60, 112, 62]⟩ : ByteArray).size = 3 := rfl
    have gg0 : ¬ 9223372036854775807 < ((⟨#[60, 112, 62]⟩ : ByteArray)).size + (S y).size := by omega
    have yy0 : ((⟨#[60, 112, 62]⟩ : ByteArray) ++ S y).size = 3 + y.length := by rw [ByteArray.size_append]; omega
    have zl60_47_112_62_10 : (⟨#[60, 47, 112, 62, 10]⟩ : ByteArray).size = 5 := rfl
    have gg1 : ¬ 9223372036854775807 < ((⟨#[60, 112, 62]⟩ : ByteArray) ++ S y).size + ((⟨#[60, 47, 112, 62, 10]⟩ : ByteArray)).size := by omega
    have yy1 : ((⟨#[60, 112, 62]⟩ : ByteArray) ++ S y ++ (⟨#[60, 47, 112, 62, 10]⟩ : ByteArray)).size = 3 + y.length + 5 := by rw [ByteArray.size_append]; omega
    have hap : Hid ((⟨#[60, 112, 62]⟩ : ByteArray) ++ S y ++ (⟨#[60, 47, 112, 62, 10]⟩ : ByteArray) = S (lnT [112] y)) := Lib.hid (by
      rw [show (⟨#[60, 112, 62]⟩ : ByteArray) = S [60, 112, 62] from rfl, show (⟨#[60, 47, 112, 62, 10]⟩ : ByteArray) = S [60, 47, 112, 62, 10] from rfl, S_app, S_app]
      unfold lnT
      simp)
    clear HKd HRd hyk hy
    go_enter Tryd.func22, Tryd.ntmps22
    go_upto_region 1 with fail
    generalize w.alloc (.cells #[.int .i64 1, .int .i64 lv, .string (S i), .slice al lns.length cl, .slice as' ss.length cs, .slice ak l.length ck] 35) = w1 at *
    have k0 : w1.cell? ⟨w.heap.size, 0, none⟩ = some (.int .i64 1) := cell_at HC1.out 0
    have k4 : w1.cell? ⟨w.heap.size, 4, none⟩ = some (.slice as' ss.length cs) := cell_at HC1.out 4
    clear HC1
    have HW := Lib.hid (HSp.out w1 HB1.out)
    clear HSp
    go_wp2_with fail
    refine HW.out.mono ?_
    rintro e w2 ⟨rfl, b2⟩
    have B2 := Lib.hid (HB1.out.trans (b2.mono HB1.out.size))
    clear b2 HW
    go_wp2_with fail
    go_ret
    exact ⟨ret_str (by rw [hap.out]), B2.out⟩
  rw [if_neg h1]
  by_cases h2 : q = 2
  · rw [if_pos h2]
    subst h2
    obtain ⟨y, hy⟩ : ∃ y, hsAll ss = y := ⟨_, rfl⟩
    rw [hy] at HSp hys ⊢
    have zy : (S y).size = y.length := S_size _
    obtain ⟨d, hd⟩ : ∃ d : Tx, d = [dg lv] := ⟨_, rfl⟩
    have ld : d.length = 1 := by rw [hd]; rfl
    have zd : (S d).size = d.length := S_size _
    have zl60_104 : (⟨#[60, 104]⟩ : ByteArray).size = 2 := rfl
    have gg0 : ¬ 9223372036854775807 < ((⟨#[60, 104]⟩ : ByteArray)).size + (S d).size := by omega
    have yy0 : ((⟨#[60, 104]⟩ : ByteArray) ++ S d).size = 2 + d.length := by rw [ByteArray.size_append]; omega
    have zl62 : (⟨#[62]⟩ : ByteArray).size = 1 := rfl
    have gg1 : ¬ 9223372036854775807 < ((⟨#[60, 104]⟩ : ByteArray) ++ S d).size + ((⟨#[62]⟩ : ByteArray)).size := by omega
    have yy1 : ((⟨#[60, 104]⟩ : ByteArray) ++ S d ++ (⟨#[62]⟩ : ByteArray)).size = 2 + d.length + 1 := by rw [ByteArray.size_append]; omega
    have gg2 : ¬ 9223372036854775807 < ((⟨#[60, 104]⟩ : ByteArray) ++ S d ++ (⟨#[62]⟩ : ByteArray)).size + (S y).size := by omega
    have yy2 : ((⟨#[60, 104]⟩ : ByteArray) ++ S d ++ (⟨#[62]⟩ : ByteArray) ++ S y).size = 2 + d.length + 1 + y.length := by rw [ByteArray.size_append]; omega
    have zl60_47_104 : (⟨#[60, 47, 104]⟩ : ByteArray).size = 3 := rfl
    have gg3 : ¬ 9223372036854775807 < ((⟨#[60, 104]⟩ : ByteArray) ++ S d ++ (⟨#[62]⟩ : ByteArray) ++ S y).size + ((⟨#[60, 47, 104]⟩ : ByteArray)).size := by omega
    have yy3 : ((⟨#[60, 104]⟩ : ByteArray) ++ S d ++ (⟨#[62]⟩ : ByteArray) ++ S y ++ (⟨#[60, 47, 104]⟩ : ByteArray)).size = 2 + d.length + 1 + y.length + 3 := by rw [ByteArray.size_append]; omega
    have gg4 : ¬ 9223372036854775807 < ((⟨#[60, 104]⟩ : ByteArray) ++ S d ++ (⟨#[62]⟩ : ByteArray) ++ S y ++ (⟨#[60, 47, 104]⟩ : ByteArray)).size + (S d).size := by omega
    have yy4 : ((⟨#[60, 104]⟩ : ByteArray) ++ S d ++ (⟨#[62]⟩ : ByteArray) ++ S y ++ (⟨#[60, 47, 104]⟩ : ByteArray) ++ S d).size = 2 + d.length + 1 + y.length + 3 + d.length := by rw [ByteArray.size_append]; omega
    have zl62_10 : (⟨#[62, 10]⟩ : ByteArray).size = 2 := rfl
    have gg5 : ¬ 9223372036854775807 < ((⟨#[60, 104]⟩ : ByteArray) ++ S d ++ (⟨#[62]⟩ : ByteArray) ++ S y ++ (⟨#[60, 47, 104]⟩ : ByteArray) ++ S d).size + ((⟨#[62, 10]⟩ : ByteArray)).size := by omega
    have yy5 : ((⟨#[60, 104]⟩ : ByteArray) ++ S d ++ (⟨#[62]⟩ : ByteArray) ++ S y ++ (⟨#[60, 47, 104]⟩ : ByteArray) ++ S d ++ (⟨#[62, 10]⟩ : ByteArray)).size = 2 + d.length + 1 + y.length + 3 + d.length + 2 := by rw [ByteArray.size_append]; omega
    have hap : Hid ((⟨#[60, 104]⟩ : ByteArray) ++ S d ++ (⟨#[62]⟩ : ByteArray) ++ S y ++ (⟨#[60, 47, 104]⟩ : ByteArray) ++ S d ++ (⟨#[62, 10]⟩ : ByteArray) = S (lnT [104, dg lv] y)) := Lib.hid (by
      rw [show (⟨#[60, 104]⟩ : ByteArray) = S [60, 104] from rfl, show (⟨#[62]⟩ : ByteArray) = S [62] from rfl, show (⟨#[60, 47, 104]⟩ : ByteArray) = S [60, 47, 104] from rfl, show (⟨#[62, 10]⟩ : ByteArray) = S [62, 10] from rfl, S_app, S_app, S_app, S_app, S_app, S_app]
      unfold lnT
      rw [hd]
      simp)
    clear HKd HRd hyk hy
    by_cases hl : 1 ≤ lv ∧ lv ≤ 9
    · have g1 : decide (lv ≥ 1) = true := decide_eq_true hl.1
      have g1' : decide (1 ≤ lv) = true := decide_eq_true hl.1
      have g9 : decide (lv ≤ 9) = true := decide_eq_true hl.2
      have wr0 : IntKind.i64.wrap (48 + lv) = 48 + lv := by rw [IntKind.wrap_i64]; omega
      have wr1 := dg_wrap lv hl.1 hl.2
      have hob := fun w' => one_byte w' (dg lv)
      rw [← hd] at hob
      go_enter Tryd.func22, Tryd.ntmps22
      go_upto_region 1 with fail
      generalize w.alloc (.cells #[.int .i64 2, .int .i64 lv, .string (S i), .slice al lns.length cl, .slice as' ss.length cs, .slice ak l.length ck] 35) = w1 at *
      have k0 : w1.cell? ⟨w.heap.size, 0, none⟩ = some (.int .i64 2) := cell_at HC1.out 0
      have k1 : w1.cell? ⟨w.heap.size, 1, none⟩ = some (.int .i64 lv) := cell_at HC1.out 1
      have k4 : w1.cell? ⟨w.heap.size, 4, none⟩ = some (.slice as' ss.length cs) := cell_at HC1.out 4
      have HB3 := Lib.hid (HB1.out.alloc HB1.out.size (.cells #[.int .u8 ((dg lv).toNat : Int)] 5))
      have m4 : (w1.alloc (.cells #[.int .u8 ((dg lv).toNat : Int)] 5)).cell? ⟨w.heap.size, 4, none⟩ = some (.slice as' ss.length cs) := cell_at (alloc_at HC1.out _) 4
      clear HC1 hd hl
      go_upto_region 8 with fail
      generalize w1.alloc (.cells #[.int .u8 ((dg lv).toNat : Int)] 5) = w3 at *
      have HW := Lib.hid (HSp.out w3 HB3.out)
      clear HSp
      go_wp2_with fail
      refine HW.out.mono ?_
      rintro e w2 ⟨rfl, b2⟩
      have B2 := Lib.hid (HB3.out.trans (b2.mono HB3.out.size))
      clear b2 HW
      go_wp2_with fail
      go_ret
      exact ⟨ret_str (by rw [hap.out]), B2.out⟩
    · have hdz : S d = ⟨#[48]⟩ := by rw [hd]; unfold dg; rw [if_neg hl]; rfl
      rw [hdz] at hap gg0 gg1 gg2 gg3 gg4 gg5 yy0 yy1 yy2 yy3 yy4 yy5
      have hlv : decide (1 ≤ lv) = false ∨ (decide (1 ≤ lv) = true ∧ decide (lv ≤ 9) = false) := by
        by_cases h : 1 ≤ lv
        · exact Or.inr ⟨decide_eq_true h, decide_eq_false (by omega)⟩
        · exact Or.inl (decide_eq_false (by omega))
      clear hl hdz
      have HB3 := HB1
      rcases hlv with hlv | ⟨hlv, hlv9⟩
      · have hq : decide (lv ≥ 1) = decide (1 ≤ lv) := rfl
        rw [hlv] at hq
        go_enter Tryd.func22, Tryd.ntmps22
        go_upto_region 1 with fail
        generalize w.alloc (.cells #[.int .i64 2, .int .i64 lv, .string (S i), .slice al lns.length cl, .slice as' ss.length cs, .slice ak l.length ck] 35) = w1 at *
        have k0 : w1.cell? ⟨w.heap.size, 0, none⟩ = some (.int .i64 2) := cell_at HC1.out 0
        have k1 : w1.cell? ⟨w.heap.size, 1, none⟩ = some (.int .i64 lv) := cell_at HC1.out 1
        have k4 : w1.cell? ⟨w.heap.size, 4, none⟩ = some (.slice as' ss.length cs) := cell_at HC1.out 4
        clear HC1
        have HW := Lib.hid (HSp.out w1 HB3.out)
        clear HSp
        go_wp2_with fail
        refine HW.out.mono ?_
        rintro e w2 ⟨rfl, b2⟩
        have B2 := Lib.hid (HB3.out.trans (b2.mono HB3.out.size))
        clear b2 HW
        go_wp2_with fail
        go_ret
        exact ⟨ret_str (by rw [hap.out]), B2.out⟩
      · have hq : decide (lv ≥ 1) = decide (1 ≤ lv) := rfl
        rw [hlv] at hq
        go_enter Tryd.func22, Tryd.ntmps22
        go_upto_region 1 with fail
        generalize w.alloc (.cells #[.int .i64 2, .int .i64 lv, .string (S i), .slice al lns.length cl, .slice as' ss.length cs, .slice ak l.length ck] 35) = w1 at *
        have k0 : w1.cell? ⟨w.heap.size, 0, none⟩ = some (.int .i64 2) := cell_at HC1.out 0
        have k1 : w1.cell? ⟨w.heap.size, 1, none⟩ = some (.int .i64 lv) := cell_at HC1.out 1
        have k4 : w1.cell? ⟨w.heap.size, 4, none⟩ = some (.slice as' ss.length cs) := cell_at HC1.out 4
        clear HC1
        have HW := Lib.hid (HSp.out w1 HB3.out)
        clear HSp
        go_wp2_with fail
        refine HW.out.mono ?_
        rintro e w2 ⟨rfl, b2⟩
        have B2 := Lib.hid (HB3.out.trans (b2.mono HB3.out.size))
        clear b2 HW
        go_wp2_with fail
        go_ret
        exact ⟨ret_str (by rw [hap.out]), B2.out⟩
  rw [if_neg h2]
  by_cases h3 : q = 3
  · rw [if_pos h3]
    subst h3
    have hh : S hr = ⟨#[60, 104, 114, 32, 47, 62, 10]⟩ := rfl
    rw [hh]
    clear HSp HKd HRd hyk hys hh
    go_enter Tryd.func22, Tryd.ntmps22
    go_upto_region 1 with fail
    generalize w.alloc (.cells #[.int .i64 3, .int .i64 lv, .string (S i), .slice al lns.length cl, .slice as' ss.length cs, .slice ak l.length ck] 35) = w1 at *
    have k0 : w1.cell? ⟨w.heap.size, 0, none⟩ = some (.int .i64 3) := cell_at HC1.out 0
    clear HC1
    go_wp2_with fail
    go_ret
    exact ⟨rfl, HB1.out⟩
  rw [if_neg h3]
  by_cases h4 : q = 4
  · rw [if_pos h4]
    subst h4
    have HLn := Lib.hid (fun k (hk : k < lns.length) => ln_le lns _ (List.getElem_mem hk))
    have hll := hl_len lns
    have hwl := wd_len i
    have hel := he_len (wd i)
    have hxl : (lang i).length ≤ 6 * i.length + 18 := lang_len i
    obtain ⟨X, hX⟩ : ∃ X, [60, 112, 114, 101, 62, 60, 99, 111, 100, 101] ++ (lang i ++ (62 :: hl lns)) = X := ⟨_, rfl⟩
    have hXe : feT i lns = X ++ [60, 47, 99, 111, 100, 101, 62, 60, 47, 112, 114, 101, 62, 10] := by rw [← hX]; unfold feT; simp
    have lX : X.length ≤ 30000000 := by rw [← hX]; simp only [List.length_append, List.length_cons, List.length_nil]; omega
    rw [hXe]
    have HRe := Lib.hid (resc_any (S (wd i)) (by rw [S_size]; omega))
    rw [S_list] at HRe
    have HWd := Lib.hid (rword_any (S i) (by rw [S_size]; omega))
    rw [S_list] at HWd
    clear HSp HKd hyk hys hXe hxl
    by_cases h0 : i = []
    · have e0 : (S i).toList.isEmpty = true := by rw [S_toList, h0]; rfl
      have hlg : lang i = [] := by unfold lang; rw [if_pos h0]
      rw [hlg] at hX
      clear HRe HWd h0 hlg
      go_enter Tryd.func22, Tryd.ntmps22
      go_upto_region 1 with fail
      generalize w.alloc (.cells #[.int .i64 4, .int .i64 lv, .string (S i), .slice al lns.length cl, .slice as' ss.length cs, .slice ak l.length ck] 35) = w1 at *
      have k0 : w1.cell? ⟨w.heap.size, 0, none⟩ = some (.int .i64 4) := cell_at HC1.out 0
      have k2 : w1.cell? ⟨w.heap.size, 2, none⟩ = some (.string (S i)) := cell_at HC1.out 2
      have k3 : w1.cell? ⟨w.heap.size, 3, none⟩ = some (.slice al lns.length cl) := cell_at HC1.out 3
      clear HC1
      have HLo : Hid (X = ([60, 112, 114, 101, 62, 60, 99, 111, 100, 101, 62] : Tx) ++ hl (lns.drop 0)) := Lib.hid (by rw [List.drop_zero, ← hX]; simp)
      clear hX
      go_wp2_with fail
      go_loop [4, 58] (fun fv iv => ∃ (k : Nat) (p : Tx), k ≤ lns.length ∧ iv = .int .i64 k ∧ fv = .string (S p) ∧ Hid (X = p ++ hl (lns.drop k))) (fun _ iv => lns.length - (intOf iv).toNat)
      case atStart => exact ⟨0, ([60, 112, 114, 101, 62, 60, 99, 111, 100, 101, 62] : Tx), Nat.zero_le _, rfl, rfl, HLo⟩
      case round =>
        clear HLo
        obtain ⟨k, p, hk, rfl, rfl, HN⟩ := hrel
        by_cases hlt : k < lns.length
        · have hi1 : (k : Int) < (lns.length : Int) := by omega
          have hnx := HN.out
          rw [List.drop_eq_getElem_cons hlt, hl] at hnx
          obtain ⟨bb, o, rfl, c0⟩ := Bt.Rd.at (HRd.out w1 HB1.out) k hlt
          have hle := HLn.out k hlt
          have HEs := Lib.hid (resc_any (S lns[k]) (by rw [S_size]; omega) w1)
          rw [S_list] at HEs
          have hxl := congrArg List.length hnx
          simp only [List.length_append, List.length_cons] at hxl
          have zp : (S p).size = p.length := S_size _
          have zy : (S (he lns[k])).size = (he lns[k]).length := S_size _
          have z10 : (⟨#[10]⟩ : ByteArray).size = 1 := rfl
          have gg0 : ¬ 9223372036854775807 < (S p).size + (S (he lns[k])).size := by omega
          have yy0 : (S p ++ S (he lns[k])).size = p.length + (he lns[k]).length := by rw [ByteArray.size_append]; omega
          have gg1 : ¬ 9223372036854775807 < (S p ++ S (he lns[k])).size + (⟨#[10]⟩ : ByteArray).size := by omega
          have hap : Hid (S p ++ S (he lns[k]) ++ (⟨#[10]⟩ : ByteArray) = S (p ++ (he lns[k] ++ [10]))) := Lib.hid (by rw [show (⟨#[10]⟩ : ByteArray) = S [10] from rfl, S_app, S_app]; simp)
          have HX : Hid (X = (p ++ (he lns[k] ++ [10])) ++ hl (lns.drop (k + 1))) := Lib.hid (by rw [hnx]; simp)
          clear hnx HN hxl HLn HRd
          generalize he lns[k] = y at *
          generalize S lns[k] = sk at *
          go_wp2_with fail
          refine HEs.out.mono ?_
          rintro e w3 ⟨rfl, rfl⟩
          clear HEs
          go_wp2_with fail
          go_round
          case rel => exact ⟨k + 1, p ++ (y ++ [10]), by omega, by go_num, by rw [hap.out], HX⟩
          case measure => simp [intOf] <;> omega
        · obtain rfl : k = lns.length := by omega
          have hnx := HN.out
          rw [List.drop_length, hl, List.append_nil] at hnx
          subst hnx
          have zp : (S X).size = X.length := S_size _
          have z14 : (⟨#[60, 47, 99, 111, 100, 101, 62, 60, 47, 112, 114, 101, 62, 10]⟩ : ByteArray).size = 14 := rfl
          have gg0 : ¬ 9223372036854775807 < (S X).size + (⟨#[60, 47, 99, 111, 100, 101, 62, 60, 47, 112, 114, 101, 62, 10]⟩ : ByteArray).size := by omega
          have hap : Hid (S X ++ (⟨#[60, 47, 99, 111, 100, 101, 62, 60, 47, 112, 114, 101, 62, 10]⟩ : ByteArray) = S (X ++ [60, 47, 99, 111, 100, 101, 62, 60, 47, 112, 114, 101, 62, 10])) := Lib.hid (S_app _ _)
          clear HN hlt HLn HRd
          go_wp2_with fail
          go_ret
          exact ⟨ret_str (by rw [hap.out]), HB1.out⟩
    · have e0 : (S i).toList.isEmpty = false := by rw [S_toList, List.isEmpty_eq_false_iff]; exact h0
      have hlg : lang i = [32, 99, 108, 97, 115, 115, 61, 34, 108, 97, 110, 103, 117, 97, 103, 101, 45] ++ (he (wd i) ++ [34]) := by unfold lang; rw [if_neg h0]
      rw [hlg] at hX
      clear h0 hlg
      obtain ⟨x, hx⟩ : ∃ x, he (wd i) = x := ⟨_, rfl⟩
      rw [hx] at hX HRe hel
      have zx : (S x).size = x.length := S_size _
      have zl60_112_114_101_62_60_99_111_100_101_32_99_108_97_115_115_61_34_108_97_110_103_117_97_103_101_45 : (⟨#[60, 112, 114, 101, 62, 60, 99, 111, 100, 101, 32, 99, 108, 97, 115, 115, 61, 34, 108, 97, 110, 103, 117, 97, 103, 101, 45]⟩ : ByteArray).size = 27 := rfl
      have gg0 : ¬ 9223372036854775807 < ((⟨#[60, 112, 114, 101, 62, 60, 99, 111, 100, 101, 32, 99, 108, 97, 115, 115, 61, 34, 108, 97, 110, 103, 117, 97, 103, 101, 45]⟩ : ByteArray)).size + (S x).size := by omega
      have yy0 : ((⟨#[60, 112, 114, 101, 62, 60, 99, 111, 100, 101, 32, 99, 108, 97, 115, 115, 61, 34, 108, 97, 110, 103, 117, 97, 103, 101, 45]⟩ : ByteArray) ++ S x).size = 27 + x.length := by rw [ByteArray.size_append]; omega
      have zl34_62 : (⟨#[34, 62]⟩ : ByteArray).size = 2 := rfl
      have gg1 : ¬ 9223372036854775807 < ((⟨#[60, 112, 114, 101, 62, 60, 99, 111, 100, 101, 32, 99, 108, 97, 115, 115, 61, 34, 108, 97, 110, 103, 117, 97, 103, 101, 45]⟩ : ByteArray) ++ S x).size + ((⟨#[34, 62]⟩ : ByteArray)).size := by omega
      have yy1 : ((⟨#[60, 112, 114, 101, 62, 60, 99, 111, 100, 101, 32, 99, 108, 97, 115, 115, 61, 34, 108, 97, 110, 103, 117, 97, 103, 101, 45]⟩ : ByteArray) ++ S x ++ (⟨#[34, 62]⟩ : ByteArray)).size = 27 + x.length + 2 := by rw [ByteArray.size_append]; omega
      have hap0 : Hid ((⟨#[60, 112, 114, 101, 62, 60, 99, 111, 100, 101, 32, 99, 108, 97, 115, 115, 61, 34, 108, 97, 110, 103, 117, 97, 103, 101, 45]⟩ : ByteArray) ++ S x ++ (⟨#[34, 62]⟩ : ByteArray) = S ([60, 112, 114, 101, 62, 60, 99, 111, 100, 101, 32, 99, 108, 97, 115, 115, 61, 34, 108, 97, 110, 103, 117, 97, 103, 101, 45] ++ (x ++ [34, 62]))) := Lib.hid (by
        rw [show (⟨#[60, 112, 114, 101, 62, 60, 99, 111, 100, 101, 32, 99, 108, 97, 115, 115, 61, 34, 108, 97, 110, 103, 117, 97, 103, 101, 45]⟩ : ByteArray) = S [60, 112, 114, 101, 62, 60, 99, 111, 100, 101, 32, 99, 108, 97, 115, 115, 61, 34, 108, 97, 110, 103, 117, 97, 103, 101, 45] from rfl, show (⟨#[34, 62]⟩ : ByteArray) = S [34, 62] from rfl, S_app, S_app]; simp)
      clear hx
      go_enter Tryd.func22, Tryd.ntmps22
      go_upto_region 1 with fail
      generalize w.alloc (.cells #[.int .i64 4, .int .i64 lv, .string (S i), .slice al lns.length cl, .slice as' ss.length cs, .slice ak l.length ck] 35) = w1 at *
      have k0 : w1.cell? ⟨w.heap.size, 0, none⟩ = some (.int .i64 4) := cell_at HC1.out 0
      have k2 : w1.cell? ⟨w.heap.size, 2, none⟩ = some (.string (S i)) := cell_at HC1.out 2
      have k3 : w1.cell? ⟨w.heap.size, 3, none⟩ = some (.slice al lns.length cl) := cell_at HC1.out 3
      clear HC1
      go_wp2_with fail
      refine (HWd.out _).mono ?_
      rintro e w3 ⟨rfl, rfl⟩
      clear HWd
      go_wp2_with fail
      refine (HRe.out _).mono ?_
      rintro e w3 ⟨rfl, rfl⟩
      clear HRe
      have HLo : Hid (X = ([60, 112, 114, 101, 62, 60, 99, 111, 100, 101, 32, 99, 108, 97, 115, 115, 61, 34, 108, 97, 110, 103, 117, 97, 103, 101, 45] ++ (x ++ [34, 62]) : Tx) ++ hl (lns.drop 0)) := Lib.hid (by rw [List.drop_zero, ← hX]; simp)
      clear hX
      go_wp2_with fail
      go_loop [4, 58] (fun fv iv => ∃ (k : Nat) (p : Tx), k ≤ lns.length ∧ iv = .int .i64 k ∧ fv = .string (S p) ∧ Hid (X = p ++ hl (lns.drop k))) (fun _ iv => lns.length - (intOf iv).toNat)
      case atStart => exact ⟨0, ([60, 112, 114, 101, 62, 60, 99, 111, 100, 101, 32, 99, 108, 97, 115, 115, 61, 34, 108, 97, 110, 103, 117, 97, 103, 101, 45] ++ (x ++ [34, 62]) : Tx), Nat.zero_le _, rfl, by rw [hap0.out], HLo⟩
      case round =>
        clear HLo
        obtain ⟨k, p, hk, rfl, rfl, HN⟩ := hrel
        by_cases hlt : k < lns.length
        · have hi1 : (k : Int) < (lns.length : Int) := by omega
          have hnx := HN.out
          rw [List.drop_eq_getElem_cons hlt, hl] at hnx
          obtain ⟨bb, o, rfl, c0⟩ := Bt.Rd.at (HRd.out w1 HB1.out) k hlt
          have hle := HLn.out k hlt
          have HEs := Lib.hid (resc_any (S lns[k]) (by rw [S_size]; omega) w1)
          rw [S_list] at HEs
          have hxl := congrArg List.length hnx
          simp only [List.length_append, List.length_cons] at hxl
          have zp : (S p).size = p.length := S_size _
          have zy : (S (he lns[k])).size = (he lns[k]).length := S_size _
          have z10 : (⟨#[10]⟩ : ByteArray).size = 1 := rfl
          have gg0 : ¬ 9223372036854775807 < (S p).size + (S (he lns[k])).size := by omega
          have yy0 : (S p ++ S (he lns[k])).size = p.length + (he lns[k]).length := by rw [ByteArray.size_append]; omega
          have gg1 : ¬ 9223372036854775807 < (S p ++ S (he lns[k])).size + (⟨#[10]⟩ : ByteArray).size := by omega
          have hap : Hid (S p ++ S (he lns[k]) ++ (⟨#[10]⟩ : ByteArray) = S (p ++ (he lns[k] ++ [10]))) := Lib.hid (by rw [show (⟨#[10]⟩ : ByteArray) = S [10] from rfl, S_app, S_app]; simp)
          have HX : Hid (X = (p ++ (he lns[k] ++ [10])) ++ hl (lns.drop (k + 1))) := Lib.hid (by rw [hnx]; simp)
          clear hnx HN hxl HLn HRd
          generalize he lns[k] = y at *
          generalize S lns[k] = sk at *
          go_wp2_with fail
          refine HEs.out.mono ?_
          rintro e w3 ⟨rfl, rfl⟩
          clear HEs
          go_wp2_with fail
          go_round
          case rel => exact ⟨k + 1, p ++ (y ++ [10]), by omega, by go_num, by rw [hap.out], HX⟩
          case measure => simp [intOf] <;> omega
        · obtain rfl : k = lns.length := by omega
          have hnx := HN.out
          rw [List.drop_length, hl, List.append_nil] at hnx
          subst hnx
          have zp : (S X).size = X.length := S_size _
          have z14 : (⟨#[60, 47, 99, 111, 100, 101, 62, 60, 47, 112, 114, 101, 62, 10]⟩ : ByteArray).size = 14 := rfl
          have gg0 : ¬ 9223372036854775807 < (S X).size + (⟨#[60, 47, 99, 111, 100, 101, 62, 60, 47, 112, 114, 101, 62, 10]⟩ : ByteArray).size := by omega
          have hap : Hid (S X ++ (⟨#[60, 47, 99, 111, 100, 101, 62, 60, 47, 112, 114, 101, 62, 10]⟩ : ByteArray) = S (X ++ [60, 47, 99, 111, 100, 101, 62, 60, 47, 112, 114, 101, 62, 10])) := Lib.hid (S_app _ _)
          clear HN hlt HLn HRd
          go_wp2_with fail
          go_ret
          exact ⟨ret_str (by rw [hap.out]), HB1.out⟩
  rw [if_neg h4]
  by_cases h5 : q = 5
  · rw [if_pos h5]
    subst h5
    obtain ⟨y, hy⟩ : ∃ y, hbAll l = y := ⟨_, rfl⟩
    rw [hy] at HKd hyk ⊢
    have zy : (S y).size = y.length := S_size _
    have zl60_98_108_111_99_107_113_117_111_116_101_62_10 : (⟨#[60, 98, 108, 111, 99, 107, 113, 117, 111, 116, 101, 62, 10]⟩ : ByteArray).size = 13 := rfl
    have gg0 : ¬ 9223372036854775807 < ((⟨#[60, 98, 108, 111, 99, 107, 113, 117, 111, 116, 101, 62, 10]⟩ : ByteArray)).size + (S y).size := by omega
    have yy0 : ((⟨#[60, 98, 108, 111, 99, 107, 113, 117, 111, 116, 101, 62, 10]⟩ : ByteArray) ++ S y).size = 13 + y.length := by rw [ByteArray.size_append]; omega
    have zl60_47_98_108_111_99_107_113_117_111_116_101_62_10 : (⟨#[60, 47, 98, 108, 111, 99, 107, 113, 117, 111, 116, 101, 62, 10]⟩ : ByteArray).size = 14 := rfl
    have gg1 : ¬ 9223372036854775807 < ((⟨#[60, 98, 108, 111, 99, 107, 113, 117, 111, 116, 101, 62, 10]⟩ : ByteArray) ++ S y).size + ((⟨#[60, 47, 98, 108, 111, 99, 107, 113, 117, 111, 116, 101, 62, 10]⟩ : ByteArray)).size := by omega
    have yy1 : ((⟨#[60, 98, 108, 111, 99, 107, 113, 117, 111, 116, 101, 62, 10]⟩ : ByteArray) ++ S y ++ (⟨#[60, 47, 98, 108, 111, 99, 107, 113, 117, 111, 116, 101, 62, 10]⟩ : ByteArray)).size = 13 + y.length + 14 := by rw [ByteArray.size_append]; omega
    have hap : Hid ((⟨#[60, 98, 108, 111, 99, 107, 113, 117, 111, 116, 101, 62, 10]⟩ : ByteArray) ++ S y ++ (⟨#[60, 47, 98, 108, 111, 99, 107, 113, 117, 111, 116, 101, 62, 10]⟩ : ByteArray) = S (ctT nQ y)) := Lib.hid (by
      rw [show (⟨#[60, 98, 108, 111, 99, 107, 113, 117, 111, 116, 101, 62, 10]⟩ : ByteArray) = S [60, 98, 108, 111, 99, 107, 113, 117, 111, 116, 101, 62, 10] from rfl, show (⟨#[60, 47, 98, 108, 111, 99, 107, 113, 117, 111, 116, 101, 62, 10]⟩ : ByteArray) = S [60, 47, 98, 108, 111, 99, 107, 113, 117, 111, 116, 101, 62, 10] from rfl, S_app, S_app]
      unfold ctT
      simp [nQ])
    clear HSp HRd hys hy
    go_enter Tryd.func22, Tryd.ntmps22
    go_upto_region 1 with fail
    generalize w.alloc (.cells #[.int .i64 5, .int .i64 lv, .string (S i), .slice al lns.length cl, .slice as' ss.length cs, .slice ak l.length ck] 35) = w1 at *
    have k0 : w1.cell? ⟨w.heap.size, 0, none⟩ = some (.int .i64 5) := cell_at HC1.out 0
    have k5 : w1.cell? ⟨w.heap.size, 5, none⟩ = some (.slice ak l.length ck) := cell_at HC1.out 5
    clear HC1
    have HW := Lib.hid (HKd.out w1 HB1.out)
    clear HKd
    go_wp2_with fail
    refine HW.out.mono ?_
    rintro e w2 ⟨rfl, b2⟩
    have B2 := Lib.hid (HB1.out.trans (b2.mono HB1.out.size))
    clear b2 HW
    go_wp2_with fail
    go_ret
    exact ⟨ret_str (by rw [hap.out]), B2.out⟩
  rw [if_neg h5]
  by_cases h6 : q = 6
  · rw [if_pos h6]
    subst h6
    obtain ⟨y, hy⟩ : ∃ y, hbAll l = y := ⟨_, rfl⟩
    rw [hy] at HKd hyk ⊢
    have zy : (S y).size = y.length := S_size _
    have zl60_117_108_62_10 : (⟨#[60, 117, 108, 62, 10]⟩ : ByteArray).size = 5 := rfl
    have gg0 : ¬ 9223372036854775807 < ((⟨#[60, 117, 108, 62, 10]⟩ : ByteArray)).size + (S y).size := by omega
    have yy0 : ((⟨#[60, 117, 108, 62, 10]⟩ : ByteArray) ++ S y).size = 5 + y.length := by rw [ByteArray.size_append]; omega
    have zl60_47_117_108_62_10 : (⟨#[60, 47, 117, 108, 62, 10]⟩ : ByteArray).size = 6 := rfl
    have gg1 : ¬ 9223372036854775807 < ((⟨#[60, 117, 108, 62, 10]⟩ : ByteArray) ++ S y).size + ((⟨#[60, 47, 117, 108, 62, 10]⟩ : ByteArray)).size := by omega
    have yy1 : ((⟨#[60, 117, 108, 62, 10]⟩ : ByteArray) ++ S y ++ (⟨#[60, 47, 117, 108, 62, 10]⟩ : ByteArray)).size = 5 + y.length + 6 := by rw [ByteArray.size_append]; omega
    have hap : Hid ((⟨#[60, 117, 108, 62, 10]⟩ : ByteArray) ++ S y ++ (⟨#[60, 47, 117, 108, 62, 10]⟩ : ByteArray) = S (ctT nL y)) := Lib.hid (by
      rw [show (⟨#[60, 117, 108, 62, 10]⟩ : ByteArray) = S [60, 117, 108, 62, 10] from rfl, show (⟨#[60, 47, 117, 108, 62, 10]⟩ : ByteArray) = S [60, 47, 117, 108, 62, 10] from rfl, S_app, S_app]
      unfold ctT
      simp [nL])
    clear HSp HRd hys hy
    go_enter Tryd.func22, Tryd.ntmps22
    go_upto_region 1 with fail
    generalize w.alloc (.cells #[.int .i64 6, .int .i64 lv, .string (S i), .slice al lns.length cl, .slice as' ss.length cs, .slice ak l.length ck] 35) = w1 at *
    have k0 : w1.cell? ⟨w.heap.size, 0, none⟩ = some (.int .i64 6) := cell_at HC1.out 0
    have k5 : w1.cell? ⟨w.heap.size, 5, none⟩ = some (.slice ak l.length ck) := cell_at HC1.out 5
    clear HC1
    have HW := Lib.hid (HKd.out w1 HB1.out)
    clear HKd
    go_wp2_with fail
    refine HW.out.mono ?_
    rintro e w2 ⟨rfl, b2⟩
    have B2 := Lib.hid (HB1.out.trans (b2.mono HB1.out.size))
    clear b2 HW
    go_wp2_with fail
    go_ret
    exact ⟨ret_str (by rw [hap.out]), B2.out⟩
  rw [if_neg h6]
  by_cases h7 : q = 7
  · rw [if_pos h7]
    subst h7
    obtain ⟨y, hy⟩ : ∃ y, hbAll l = y := ⟨_, rfl⟩
    rw [hy] at HKd hyk ⊢
    have zy : (S y).size = y.length := S_size _
    have zl60_108_105_62_10 : (⟨#[60, 108, 105, 62, 10]⟩ : ByteArray).size = 5 := rfl
    have gg0 : ¬ 9223372036854775807 < ((⟨#[60, 108, 105, 62, 10]⟩ : ByteArray)).size + (S y).size := by omega
    have yy0 : ((⟨#[60, 108, 105, 62, 10]⟩ : ByteArray) ++ S y).size = 5 + y.length := by rw [ByteArray.size_append]; omega
    have zl60_47_108_105_62_10 : (⟨#[60, 47, 108, 105, 62, 10]⟩ : ByteArray).size = 6 := rfl
    have gg1 : ¬ 9223372036854775807 < ((⟨#[60, 108, 105, 62, 10]⟩ : ByteArray) ++ S y).size + ((⟨#[60, 47, 108, 105, 62, 10]⟩ : ByteArray)).size := by omega
    have yy1 : ((⟨#[60, 108, 105, 62, 10]⟩ : ByteArray) ++ S y ++ (⟨#[60, 47, 108, 105, 62, 10]⟩ : ByteArray)).size = 5 + y.length + 6 := by rw [ByteArray.size_append]; omega
    have hap : Hid ((⟨#[60, 108, 105, 62, 10]⟩ : ByteArray) ++ S y ++ (⟨#[60, 47, 108, 105, 62, 10]⟩ : ByteArray) = S (ctT nI y)) := Lib.hid (by
      rw [show (⟨#[60, 108, 105, 62, 10]⟩ : ByteArray) = S [60, 108, 105, 62, 10] from rfl, show (⟨#[60, 47, 108, 105, 62, 10]⟩ : ByteArray) = S [60, 47, 108, 105, 62, 10] from rfl, S_app, S_app]
      unfold ctT
      simp [nI])
    clear HSp HRd hys hy
    go_enter Tryd.func22, Tryd.ntmps22
    go_upto_region 1 with fail
    generalize w.alloc (.cells #[.int .i64 7, .int .i64 lv, .string (S i), .slice al lns.length cl, .slice as' ss.length cs, .slice ak l.length ck] 35) = w1 at *
    have k0 : w1.cell? ⟨w.heap.size, 0, none⟩ = some (.int .i64 7) := cell_at HC1.out 0
    have k5 : w1.cell? ⟨w.heap.size, 5, none⟩ = some (.slice ak l.length ck) := cell_at HC1.out 5
    clear HC1
    have HW := Lib.hid (HKd.out w1 HB1.out)
    clear HKd
    go_wp2_with fail
    refine HW.out.mono ?_
    rintro e w2 ⟨rfl, b2⟩
    have B2 := Lib.hid (HB1.out.trans (b2.mono HB1.out.size))
    clear b2 HW
    go_wp2_with fail
    go_ret
    exact ⟨ret_str (by rw [hap.out]), B2.out⟩
  rw [if_neg h7]
  have e0 : S [] = ⟨#[]⟩ := rfl
  rw [e0]
  have e1 : (q == 1) = false := by rw [beq_eq_false_iff_ne]; exact h1
  have e2 : (q == 2) = false := by rw [beq_eq_false_iff_ne]; exact h2
  have e3 : (q == 3) = false := by rw [beq_eq_false_iff_ne]; exact h3
  have e4 : (q == 4) = false := by rw [beq_eq_false_iff_ne]; exact h4
  have e5 : (q == 5) = false := by rw [beq_eq_false_iff_ne]; exact h5
  have e6 : (q == 6) = false := by rw [beq_eq_false_iff_ne]; exact h6
  have e7 : (q == 7) = false := by rw [beq_eq_false_iff_ne]; exact h7
  clear HSp HKd HRd hys hyk e0
  go_enter Tryd.func22, Tryd.ntmps22
  go_upto_region 1 with fail
  generalize w.alloc (.cells #[.int .i64 q, .int .i64 lv, .string (S i), .slice al lns.length cl, .slice as' ss.length cs, .slice ak l.length ck] 35) = w1 at *
  have k0 : w1.cell? ⟨w.heap.size, 0, none⟩ = some (.int .i64 q) := cell_at HC1.out 0
  clear HC1
  go_wp2_with fail
  go_ret
  exact ⟨rfl, HB1.out⟩
end Go.Proofs.YtpakjdgddomdjaaDoor.Ht
