import Derived.Test.YthpnbialpkkpgaaGreatDoorWrRefOne
import Derived.Test.YthpnbialpkkpgaaGreatDoorWrProg
import Derived.Test.YthpnbialpkkpgaaGreatDoorWrSmall
import Derived.Test.YthpnbialpkkpgaaGreatDoorPkL
namespace Go.Proofs.YthpnbialpkkpgaaGreatDoor.Wr
open Go.RowKit
open Go.Proofs.YthpnbialpkkpgaaGreatDoor.Tk (S S_of S_list S_size S_toList S_app ret_int len_data Rd)
open Go.Proofs.YthpnbialpkkpgaaGreatDoor.Sp (Sp Tr ret_bool OkAns)
open Go.Proofs.YthpnbialpkkpgaaGreatDoor.Bt (TrB fitAll ttAll ttOne szAll szOne allB oneB allB_cons rgB rrightB_any)
open Go.Proofs.YthpnbialpkkpgaaGreatDoor.Cm (Keep cell_at alloc_new)
open Go.Proofs.YthpnbialpkkpgaaGreatDoor.Bk (Tx Bk wl)
open Go.Proofs.YthpnbialpkkpgaaGreatDoor.Pa (OutG OutS tot)
set_option linter.unusedVariables false
set_option maxHeartbeats 3200000 in
set_option maxRecDepth 100000 in
theorem rlines_any (m : Nat) : ∀ (l : List Bk) (p : Int), szAll l ≤ m → allB false p l = true → ttAll l ≤ 20000 → RLinesC l := by
  induction m using Nat.strongRecOn with
  | ind m ih =>
    intro l p hm ha htt v w ht
    obtain ⟨ao, ca, rfl⟩ := ht.len
    have HTr := Lib.hid (fun w' (h : Below w.heap.size w w') => ht.below h)
    have hlen := ht.short
    have HBk : Hid (∀ j (hj : j < l.length) (al as' ak : Option Addr) (cl cs ck : Nat) (w' : World), Rd w' (.slice al l[j].lines.length cl) l[j].lines → Tr w' (.slice as' l[j].spans.length cs) l[j].spans → TrB w' (.slice ak l[j].kids.length ck) l[j].kids →
        Calls Tryz.prog 33 #[.agg #[.int .i64 l[j].kind, .int .i64 l[j].level, .string (S l[j].info), .slice al l[j].lines.length cl, .slice as' l[j].spans.length cs, .slice ak l[j].kids.length ck]] w' (RowS w' (Bk.one l[j]))) := Lib.hid (fun j hj al as' ak cl cs ck w' h1 h2 h3 => by
      have hx := List.getElem_mem hj
      have h7 := Bt.szAll_mem hx
      have h8 := Bt.ttAll_mem hx
      exact rone_any l[j] (all_mem ha _ hx) (fun l' p' g1 g2 g3 => ih (szAll l') (by omega) l' p' (Nat.le_refl _) g2 g3) al as' ak cl cs ck w' (by omega) h1 h2 h3)
    have HW : Hid (∀ j (hj : j < l.length), wl (l.take (j + 1)) = (if 0 < j then wl (l.take j) ++ [] :: Bk.one l[j] else Bk.one l[j]) ∧ (wl (l.take j)).length + 1 + (Bk.one l[j]).length ≤ 130000) := Lib.hid (fun j hj => by
      have hx := List.getElem_mem hj
      have h1 := (one_sz false l[j] _ (all_mem ha _ hx) (Nat.le_refl _)).1
      have h2 := (wl_sz false p (l.take j) _ (all_take ha j) (Nat.le_refl _)).1
      have h3 := tt_take l j
      have h4 := Bt.ttAll_mem hx
      refine ⟨?_, by omega⟩
      rw [List.take_succ_eq_append_getElem hj, wl_snoc]
      by_cases h0 : 0 < j
      · have hne : l.take j ≠ [] := by intro e; have := congrArg List.length e; rw [List.length_take, List.length_nil] at this; omega
        rw [if_neg hne, if_pos h0]
      · have h00 : j = 0 := by omega
        subst h00
        rw [List.take_zero, if_pos rfl, if_neg h0])
    have HW0 : Hid (wl (l.take 0) = []) := Lib.hid (by rw [List.take_zero, wl])
    unfold RowS at HBk ⊢
    clear ih ht hm ha htt
    go_enter Tryz.func19, Tryz.ntmps19
    go_wp2_with fail
    go_loopw [3, 7] (fun vv iv wr => ∃ j : Nat, j ≤ l.length ∧ iv = .int .i64 j ∧ Hid (OutS w.heap.size wr vv (wl (l.take j))) ∧ Hid (Below w.heap.size w wr)) (fun _ iv _ => l.length - (intOf iv).toNat)
    case atStart => exact ⟨0, Nat.zero_le _, rfl, Lib.hid (by rw [HW0.out]; exact OutG.nil (Nat.le_refl _)), Lib.hid (Below.refl _ _)⟩
    case round =>
      obtain ⟨j, hj, rfl, HO, HB⟩ := hrel
      by_cases hlt : j < l.length
      · have hi1 : (j : Int) < (l.length : Int) := by omega
        obtain ⟨hw1, hw2⟩ := HW.out j hlt
        have HW1 := Lib.hid hw1
        by_cases h0 : ¬ 0 < j
        · have g0 : ¬ (0 : Int) < (j : Int) := by omega
          rw [if_neg h0] at HW1
          have hz := Lib.hid (show wl (l.take j) = [] by rw [show j = 0 by omega]; exact HW0.out)
          obtain ⟨bb, o, vl, vs, ak, ck, rfl, hbl, hC⟩ := (HTr.out wr HB.out).at j hlt
          obtain ⟨al, cl, rfl⟩ := hC.rd.len
          obtain ⟨as', cs, rfl⟩ := hC.sp.len
          have c0 := hC.kind
          have c1 := hC.level
          have c2 := hC.info
          have c3 := hC.lines
          have c4 := hC.spans
          have c5 := hC.kids
          have HC := Lib.hid (HBk.out j hlt al as' ak cl cs ck wr hC.rd hC.sp hC.tr)
          clear hC HBk HW hw1 HTr hbl HW0 h0
          generalize Bk.one l[j] = X at *
          generalize l[j].kind = q at *
          generalize l[j].lines.length = ln at *
          generalize l[j].spans.length = sn at *
          generalize l[j].kids.length = kn at *
          generalize l[j].level = lv at *
          generalize S l[j].info = si at *
          go_wp2_with fail
          refine HC.out.mono ?_
          rintro e w5 ⟨u, rfl, hu, b5⟩
          have hO5 : OutS w.heap.size w5 u3 (wl (l.take j)) := OutG.go HO.out (Keep.of_below b5)
          obtain ⟨v6, w6, hr6, ho6, hk6⟩ := strsR_app hO5 (Pa.OutS.rd hu) (by omega)
          have HO6 : Hid (OutS w.heap.size w6 v6 (wl (l.take (j + 1)))) := Lib.hid (by rw [HW1.out]; rw [hz.out, List.nil_append] at ho6; exact ho6)
          have HB6 := Lib.hid ((HB.out.trans (b5.mono HB.out.size)).trans (OutG.below hO5 hk6))
          clear hu b5 hO5 ho6 hk6 HC HO HB HW1 c0 c1 c2 c3 c4 c5 hz
          go_wp2_with (at_builtin; refine Lib.wpList_append_run _ rfl _ _ _ _ rfl _ _ rfl rfl _ _ (hr6 _) ?_)
          go_roundw
          case rel => exact ⟨j + 1, by omega, by go_num, HO6, HB6⟩
          case measure => simp [intOf] <;> omega
        · have g0 : (0 : Int) < (j : Int) := by omega
          rw [if_pos (by omega)] at HW1
          obtain ⟨v4, w4, hr4, ho4, hk4⟩ := Pa.OutS.push HO.out [] (by omega)
          have HB4 := Lib.hid (HB.out.trans (OutG.below HO.out hk4))
          obtain ⟨bb, o, vl, vs, ak, ck, rfl, hbl, hC⟩ := (HTr.out w4 HB4.out).at j hlt
          obtain ⟨al, cl, rfl⟩ := hC.rd.len
          obtain ⟨as', cs, rfl⟩ := hC.sp.len
          have c0 := hC.kind
          have c1 := hC.level
          have c2 := hC.info
          have c3 := hC.lines
          have c4 := hC.spans
          have c5 := hC.kids
          have HC := Lib.hid (HBk.out j hlt al as' ak cl cs ck w4 hC.rd hC.sp hC.tr)
          have hzs : S [] = ⟨#[]⟩ := rfl
          rw [hzs] at hr4
          have HO4 := Lib.hid ho4
          obtain ⟨a4, c4', hv4⟩ := (Pa.OutS.rd ho4).len
          have hq4 : (wl (l.take j) ++ [[]]).length = (wl (l.take j)).length + 1 := by rw [List.length_append]; rfl
          rw [hq4] at hv4
          subst hv4
          clear hC HBk HW hw1 HTr hbl hzs HW0 ho4 hk4 hq4
          generalize Bk.one l[j] = X at *
          generalize l[j].kind = q at *
          generalize l[j].lines.length = ln at *
          generalize l[j].spans.length = sn at *
          generalize l[j].kids.length = kn at *
          generalize l[j].level = lv at *
          generalize S l[j].info = si at *
          go_wp2_with (at_builtin; (show wpList _ _ _ (Oper.mk (some 14) _ _ _ _ _ :: _) _ _); refine Lib.wpList_append_run _ rfl (.tmp 12) (.tmp 13) _ _ rfl _ _ rfl rfl _ _ (hr4 _) ?_)
          refine HC.out.mono ?_
          rintro e w5 ⟨u, rfl, hu, b5⟩
          have hO5 : OutS w.heap.size w5 _ (wl (l.take j) ++ [[]]) := OutG.go HO4.out (Keep.of_below b5)
          obtain ⟨v6, w6, hr6, ho6, hk6⟩ := strsR_app hO5 (Pa.OutS.rd hu) (by rw [List.length_append, List.length_cons, List.length_nil]; omega)
          have HO6 : Hid (OutS w.heap.size w6 v6 (wl (l.take (j + 1)))) := Lib.hid (by rw [HW1.out]; rw [List.append_assoc] at ho6; exact ho6)
          have HB6 := Lib.hid ((HB4.out.trans (b5.mono HB4.out.size)).trans (OutG.below hO5 hk6))
          clear hu b5 hO5 ho6 hk6 HC HO HB HW1 c0 c1 c2 c3 c4 c5 h0 HO4 HB4 hr4
          go_wp2_with (at_builtin; refine Lib.wpList_append_run _ rfl _ _ _ _ rfl _ _ rfl rfl _ _ (hr6 _) ?_)
          go_roundw
          case rel => exact ⟨j + 1, by omega, by go_num, HO6, HB6⟩
          case measure => simp [intOf] <;> omega
      · have hi1 : ¬ (j : Int) < (l.length : Int) := by omega
        have HX : Hid (OutS w.heap.size wr u3 (wl l)) := Lib.hid (by
          have h := HO.out
          rwa [List.take_of_length_le (by omega)] at h)
        clear HO hlt HBk HW HTr
        go_wp2_with fail
        go_ret
        exact ⟨_, rfl, HX.out, HB.out⟩
end Go.Proofs.YthpnbialpkkpgaaGreatDoor.Wr
namespace Go.Proofs.YthpnbialpkkpgaaGreatDoor.Wr
open Go.RowKit
open Go.Proofs.YthpnbialpkkpgaaGreatDoor.Tk (S S_size S_list S_app get_lt Rd)
open Go.Proofs.YthpnbialpkkpgaaGreatDoor.Ln (jn jn_cons2 drop_at)
open Go.Proofs.YthpnbialpkkpgaaGreatDoor.Sp (OkAns)
open Go.Proofs.YthpnbialpkkpgaaGreatDoor.Bt (TrB fitAll ttAll ttOne szAll szOne allB rgB rrightB_any)
open Go.Proofs.YthpnbialpkkpgaaGreatDoor.Bk (Tx Bk wl)
set_option linter.unusedVariables false
set_option maxHeartbeats 800000 in
theorem rjoinX_any (v : Value) (xs : List (List UInt8)) (e : Bool) (w : World) (h : Rd w v xs) (hfe : xs.length ≤ 3000 ∧ ∀ x ∈ xs, x.length ≤ 200000) :
    Calls Tryz.prog 34 #[v, .bool e] w fun r w' => r = .returned (.string (S (jn xs e))) ∧ w = w' := by
  obtain ⟨ao, ca, rfl, hca, hax⟩ := h
  by_cases h0 : xs = []
  · have Hf : Hid (jn xs e = []) := Lib.hid (by rw [h0]; rfl)
    have hz : xs.length = 0 := by rw [h0]; rfl
    rw [hz]
    clear hax h0 hfe
    go_enter Tryz.func34, Tryz.ntmps34
    go_wp2_with fail
    go_loop [5, 9] (fun s i => s = .string (S []) ∧ i = .int .i64 0) (fun _ i => 0)
    case atStart => exact ⟨rfl, rfl⟩
    case round =>
      obtain ⟨rfl, rfl⟩ := hrel
      go_wp2_with fail
      go_ret
      exact ⟨by rw [Hf.out]; rfl, rfl⟩
  · rcases hax with hax | ⟨b1, o1, rfl, hb1, hc1⟩
    · exact absurd hax h0
    have H1 := Lib.hid hc1
    have H2 := Lib.hid hfe.2
    have hx : xs.length ≤ 3000 := hfe.1
    clear hc1 h0 hfe
    go_enter Tryz.func34, Tryz.ntmps34
    go_wp2_with fail
    go_loop [5, 9] (fun s i => ∃ (k : Nat) (acc : List UInt8), k ≤ xs.length ∧ i = .int .i64 k ∧ s = .string (S acc) ∧ acc.length ≤ k * 200001 ∧ Hid (jn xs e = acc ++ jn (xs.drop k) e)) (fun _ i => xs.length - (intOf i).toNat)
    case atStart => exact ⟨0, [], Nat.zero_le _, rfl, rfl, Nat.zero_le _, Lib.hid (by simp)⟩
    case round =>
      obtain ⟨k, acc, hk, rfl, rfl, ha, HT⟩ := hrel
      have hs0 : (S acc).size ≤ 600003000 := by rw [S_size]; omega
      by_cases hlt : k < xs.length
      · have k1 : w.cell? ⟨b1, o1 + k, none⟩ = some (.string (S xs[k])) := H1.out k _ (get_lt hlt)
        have hs1 : (S xs[k]).size ≤ 200000 := by rw [S_size]; exact H2.out _ (List.getElem_mem hlt)
        have hs2 : xs[k].length ≤ 200000 := H2.out _ (List.getElem_mem hlt)
        have hd := drop_at hlt
        have happ := S_app acc xs[k]
        have hs3 : (S acc ++ S xs[k]).size ≤ 600203000 := by rw [ByteArray.size_append]; omega
        by_cases hn : k + 1 < xs.length
        · have HT2 : Hid (jn xs e = (acc ++ xs[k] ++ [10]) ++ jn (xs.drop (k + 1)) e) := Lib.hid (by
            rw [HT.out, hd, drop_at hn, jn_cons2]; simp)
          have d1 : decide ((k : Int) + 1 < (xs.length : Int)) = true := decide_eq_true (by omega)
          have Hap : Hid (S acc ++ S xs[k] ++ ⟨#[10]⟩ = S (acc ++ xs[k] ++ [10])) := Lib.hid (by rw [happ]; exact S_app _ [10])
          clear HT hd happ
          generalize xs[k] = x at *
          cases e with
          | true =>
            go_wp2_with fail
            go_round
            case rel => exact ⟨k + 1, _, by omega, by go_num, by rw [Hap.out], by simp; omega, HT2⟩
            case measure => simp [intOf]; omega
          | false =>
            go_wp2_with fail
            go_round
            case rel => exact ⟨k + 1, _, by omega, by go_num, by rw [Hap.out], by simp; omega, HT2⟩
            case measure => simp [intOf]; omega
        · have hd2 : xs.drop (k + 1) = [] := List.drop_eq_nil_of_le (by omega)
          have d1 : decide ((k : Int) + 1 < (xs.length : Int)) = false := decide_eq_false (by omega)
          cases e with
          | true =>
            have HT2 : Hid (jn xs true = (acc ++ xs[k] ++ [10]) ++ jn (xs.drop (k + 1)) true) := Lib.hid (by rw [HT.out, hd, hd2]; simp [jn])
            have Hap : Hid (S acc ++ S xs[k] ++ ⟨#[10]⟩ = S (acc ++ xs[k] ++ [10])) := Lib.hid (by rw [happ]; exact S_app _ [10])
            clear HT hd happ
            generalize xs[k] = x at *
            go_wp2_with fail
            go_round
            case rel => exact ⟨k + 1, _, by omega, by go_num, by rw [Hap.out], by simp; omega, HT2⟩
            case measure => simp [intOf]; omega
          | false =>
            have HT2 : Hid (jn xs false = (acc ++ xs[k]) ++ jn (xs.drop (k + 1)) false) := Lib.hid (by rw [HT.out, hd, hd2]; simp [jn])
            have Hap : Hid (S acc ++ S xs[k] = S (acc ++ xs[k])) := Lib.hid happ
            clear HT hd happ
            generalize xs[k] = x at *
            go_wp2_with fail
            go_round
            case rel => exact ⟨k + 1, _, by omega, by go_num, by rw [Hap.out], by simp; omega, HT2⟩
            case measure => simp [intOf]; omega
      · have Hf : Hid (jn xs e = acc) := Lib.hid (by rw [HT.out, List.drop_eq_nil_of_le (by omega)]; simp [jn])
        clear HT
        go_wp2_with fail
        go_ret
        exact ⟨by rw [Hf.out]; rfl, rfl⟩
def rwB (l : List Bk) : List UInt8 := if rgB l = true then jn (wl l) true else []
set_option maxHeartbeats 1600000 in
theorem rwrite_any (l : List Bk) (v : Value) (w : World) (h : TrB w v l) (hf : fitAll 140737488355328 l) (ht : ttAll l ≤ 700) :
    Calls Tryz.prog 20 #[v] w fun e w' => e = .returned (.string (S (rwB l))) ∧ Below w.heap.size w w' := by
  obtain ⟨aa, ca, rfl⟩ := h.len
  have HR := Lib.hid (rrightB_any l _ w hf (by omega) h)
  cases hr : rgB l with
  | false =>
    have hz : rwB l = [] := by unfold rwB; rw [if_neg (by rw [hr]; simp)]
    have hs0 : S [] = ⟨#[]⟩ := rfl
    rw [hr] at HR
    rw [hz, hs0]
    clear h hf ht hr hz hs0
    go_enter Tryz.func20, Tryz.ntmps20
    go_wp2_with fail
    refine HR.out.mono ?_
    rintro e w1 ⟨rfl, b1⟩
    have H1 := Lib.hid b1
    clear HR b1
    go_wp2_with fail
    go_ret
    exact ⟨rfl, H1.out⟩
  | true =>
    have hz : rwB l = jn (wl l) true := by unfold rwB; rw [if_pos hr]
    rw [hr] at HR
    rw [hz]
    have hsz := rg_sz hr (by omega)
    have HL := Lib.hid (fun w' (k : Below w.heap.size w w') => rlines_any (szAll l) l 0 (Nat.le_refl _) (Bt.rg_parts hr).1 (by omega) _ w' (h.below k))
    have HJ := Lib.hid (fun v' w' (k : Rd w' v' (wl l)) => rjoinX_any v' (wl l) true w' k ⟨by omega, fun x hx => by have := Pa.tot_mem _ _ hx; omega⟩)
    unfold RowS at HL
    clear h hf ht hr hz hsz
    generalize S (jn (wl l) true) = y at *
    generalize wl l = L at *
    go_enter Tryz.func20, Tryz.ntmps20
    go_wp2_with fail
    refine HR.out.mono ?_
    rintro e w1 ⟨rfl, b1⟩
    have H1 := Lib.hid b1
    clear HR b1
    go_wp2_with fail
    refine (HL.out _ H1.out).mono ?_
    rintro e w2 ⟨u, rfl, hu, b2⟩
    have H2 := Lib.hid (H1.out.trans (b2.mono H1.out.size))
    have HC := Lib.hid (HJ.out _ _ (Pa.OutS.rd hu))
    clear HL HJ hu b2
    go_wp2_with fail
    refine HC.out.mono ?_
    rintro e w3 ⟨rfl, rfl⟩
    clear HC
    go_wp2_with fail
    go_ret
    exact ⟨rfl, H2.out⟩
end Go.Proofs.YthpnbialpkkpgaaGreatDoor.Wr
