import Derived.Test.YtldllbmbcnipoabGreatDoorPkWK
import Derived.Test.YtldllbmbcnipoabGreatDoorWrCont
import Derived.Test.YtldllbmbcnipoabGreatDoorPkWG
import Derived.StillTailTactics
namespace Go.Proofs.YtldllbmbcnipoabGreatDoor.Wr
open Go.RowKit
open Go.Proofs.YtldllbmbcnipoabGreatDoor.Tk (S S_of S_list S_size S_toList S_app ret_int len_data Rd)
open Go.Proofs.YtldllbmbcnipoabGreatDoor.Sp (Sp Tr rtB wrs totAll)
open Go.Proofs.YtldllbmbcnipoabGreatDoor.Bt (TrB fitAll fitOne ttAll ttOne szAll szOne allB oneB allB_cons lnTot)
open Go.Proofs.YtldllbmbcnipoabGreatDoor.Cm (Keep own_keep cell_at alloc_new)
open Go.Proofs.YtldllbmbcnipoabGreatDoor.Bk (Tx Bk wl its preQ preI itemW)
open Go.Proofs.YtldllbmbcnipoabGreatDoor.Pa (OutG OutS tot)
set_option linter.unusedVariables false
theorem wl_snoc : ∀ (l : List Bk) (x : Bk), wl (l ++ [x]) = if l = [] then Bk.one x else wl l ++ [] :: Bk.one x
  | [], x => by rw [List.nil_append, Bk.wl_one]; rfl
  | [y], x => by rw [List.cons_append, List.nil_append, Bk.wl_two, Bk.wl_one, Bk.wl_one]; rfl
  | y :: z :: r, x => by
    have ih := wl_snoc (z :: r) x
    rw [if_neg (by simp)] at ih ⊢
    rw [List.cons_append, List.cons_append, Bk.wl_two, ← List.cons_append, ih, Bk.wl_two, List.append_assoc]
    rfl
theorem its_snoc : ∀ (l : List Bk) (x : Bk), its (l ++ [x]) = its l ++ Bk.one x
  | [], x => by rw [List.nil_append, its, its, its]; simp
  | y :: r, x => by rw [List.cons_append, its, its, its_snoc r x, List.append_assoc]
theorem ins_Q (l : List Bk) : (insL l).map preQ = if wl l = [] then [[62]] else (wl l).map preQ := by
  unfold insL
  split <;> rfl
theorem ins_I {l : List Bk} {p : Int} (h : allB false p l = true) : (insL l).mapIdx itP = itemW (wl l) := by
  unfold insL
  cases l with
  | nil => rw [wl]; rfl
  | cons b r =>
    have ho := oks_of false p _ h
    obtain ⟨k, lv, i, ls, ss, ks⟩ := b
    rw [Bk.oks] at ho
    obtain ⟨s, q, e, _, c, t, hs, _⟩ := first_kind _ ho.1
    have hw : wl (Bk.mk k lv i ls ss ks :: r) = s :: (q ++ Bk.tl r) := by rw [Bk.wl_tl, e]; rfl
    rw [hw, if_neg (by simp), itP_map s _ (by rw [hs]; simp)]
theorem ins_len {l : List Bk} {p : Int} (h : allB false p l = true) (ht : ttAll l ≤ 20000) : (insL l).length ≤ 3 * ttAll l + 1 ∧ ∀ x ∈ insL l, x.length ≤ 10000000000 := by
  have h1 := wl_sz false p l (Bt.dN l) h (Nat.le_refl _)
  have h2 := Bt.dN_tt l
  have h3 : (12 + 6 * Bt.dN l) * ttAll l ≤ 150000 * ttAll l := Nat.mul_le_mul_right _ (by omega)
  unfold insL
  split
  · exact ⟨by simp, fun x hx => by rw [List.mem_singleton] at hx; rw [hx]; simp⟩
  · exact ⟨by omega, fun x hx => by have := Pa.tot_mem _ x hx; omega⟩
theorem all_mem {li : Bool} : ∀ {l : List Bk} {p : Int}, allB li p l = true → ∀ x ∈ l, oneB li x = true
  | [], _, _, x, hx => by cases hx
  | y :: r, p, h, x, hx => by
    rw [allB_cons, Bool.and_eq_true, Bool.and_eq_true] at h
    rcases List.mem_cons.1 hx with rfl | hx
    · exact h.1.1
    · exact all_mem h.2 x hx
theorem all_take {li : Bool} : ∀ {l : List Bk} {p : Int}, allB li p l = true → ∀ n, allB li p (l.take n) = true
  | l, p, h, 0 => by rw [List.take_zero, allB]
  | [], p, h, n + 1 => by rw [List.take_nil]; exact h
  | y :: r, p, h, n + 1 => by
    rw [allB_cons, Bool.and_eq_true] at h
    rw [List.take_succ_cons, allB_cons, Bool.and_eq_true]
    exact ⟨h.1, all_take h.2 n⟩
theorem tt_take : ∀ (l : List Bk) (n : Nat), ttAll (l.take n) ≤ ttAll l
  | l, 0 => by rw [List.take_zero, ttAll]; exact Nat.zero_le _
  | [], n + 1 => by rw [List.take_nil]; exact Nat.le_refl _
  | y :: r, n + 1 => by
    have := tt_take r n
    rw [List.take_succ_cons, Bt.ttAll_cons, Bt.ttAll_cons]
    omega
def InC (x : Bk) : Prop := ∀ (l : List Bk) (p : Int), szAll l < szOne x → allB false p l = true → fitAll 140737488355328 l → ttAll l ≤ 20000 → BlkC l
set_option maxHeartbeats 6400000 in
set_option maxRecDepth 100000 in
theorem wblock_any (x : Bk) (hx : oneB false x = true) (IH : InC x) (al as' ak : Option Addr) (cl cs ck : Nat) (w0 w : World) (b : Nat) (g : Option Nat) (ls : List Tx) (hf : fitOne 140737488355328 x) (htt : ttOne x ≤ 20000)
    (hrd : Rd w0 (.slice al x.lines.length cl) x.lines) (hsp : Tr w0 (.slice as' x.spans.length cs) x.spans) (htr : TrB w0 (.slice ak x.kids.length ck) x.kids) (hb : Below w0.heap.size w0 w) (h : Pg w0.heap.size b g ls w) (hl : ls.length + 3 * ttOne x ≤ 900000) :
    Calls Tryz.prog 37 #[.pointer (some ⟨b, 0, none⟩), .agg #[.int .i64 x.kind, .int .i64 x.level, .string (S x.info), .slice al x.lines.length cl, .slice as' x.spans.length cs, .slice ak x.kids.length ck]] w (PutAns w0.heap.size b g (ls ++ Bk.one x) w) := by
  have hsz1 := (one_sz false x (Bt.d1N x) hx (Nat.le_refl _)).1
  obtain ⟨q, lv, i, lns, ss, l⟩ := x
  simp only [Bk.kind, Bk.level, Bk.info, Bk.lines, Bk.spans, Bk.kids] at hrd hsp htr ⊢
  rw [fitOne] at hf
  rw [ttOne] at htt hl hsz1
  obtain ⟨_, hlv, hi, hls, hss, hfl⟩ := hf
  have HIn := Lib.hid IH
  have HW0 := Lib.hid hb
  have HP := Lib.hid h
  have HRd := Lib.hid (fun w' (h : Below w0.heap.size w0 w') => hrd.below h)
  have HSp := Lib.hid (fun w' (h : Below w0.heap.size w0 w') => hsp.below h)
  have HTr := Lib.hid (fun w' (h : Below w0.heap.size w0 w') => htr.below h)
  have HPut := Lib.hid (fun (g' : Option Nat) (ls' : List Tx) (w' : World) (h' : Pg w0.heap.size b g' ls' w') (s : Tx) (x : ByteArray) (hx : x = S s) (hl' : ls'.length + 1 ≤ 1000000) => (show Calls Tryz.prog 36 #[.pointer (some ⟨b, 0, none⟩), .string x] w' (PutAns w0.heap.size b g' (ls' ++ [s]) w') by rw [hx]; exact put_any h' s hl'))
  have hxs := hx
  rw [oneB, Bool.and_eq_true, beq_iff_eq] at hxs
  obtain ⟨hk7, hx2⟩ := hxs
  have hk7 : ¬ q = 7 := of_decide_eq_false hk7
  have HB1 := Lib.hid ((Below.refl w.heap.size w).alloc (Nat.le_refl _) (.cells #[.int .i64 q, .int .i64 lv, .string (S i), .slice al lns.length cl, .slice as' ss.length cs, .slice ak l.length ck] 32))
  have HC1 := Lib.hid (alloc_new w (.cells #[.int .i64 q, .int .i64 lv, .string (S i), .slice al lns.length cl, .slice as' ss.length cs, .slice ak l.length ck] 32))
  have hsi : (S i).size ≤ 20000 := by rw [S_size]; omega
  clear hrd hsp htr hb h IH
  rw [Bk.one] at hsz1 ⊢
  split at hx2
  · rename_i e
    simp only [Bool.and_eq_true] at hx2
    rw [if_pos e] at hsz1 ⊢
    subst e
    have HX := Lib.hid (fun w' (hw : Below w.heap.size w w') => wpara_any (HP.out.below hw) _ ss (HSp.out w' (HW0.out.trans (hw.mono HW0.out.size))) (by omega) hss hx2.2 (by omega))
    unfold PutAns at HX
    clear hx2 hsz1 HIn HRd HSp HTr HPut hx
    generalize S i = si at *
    generalize (Ln.split (wrs ss)).1 = L at *
    generalize l.length = kn at *
    generalize ss.length = sn at *
    generalize lns.length = ln at *
    go_enter Tryz.func37, Tryz.ntmps37
    go_upto_region 1 with fail
    generalize w.alloc (.cells #[.int .i64 1, .int .i64 lv, .string si, .slice al ln cl, .slice as' sn cs, .slice ak kn ck] 32) = w1 at *
    have k0 : w1.cell? ⟨w.heap.size, 0, none⟩ = some (.int .i64 1) := cell_at HC1.out 0
    have k4 : w1.cell? ⟨w.heap.size, 4, none⟩ = some (.slice as' sn cs) := cell_at HC1.out 4
    have HX1 := Lib.hid (HX.out w1 HB1.out)
    clear HX HC1
    go_wp2_with fail
    refine HX1.out.mono ?_
    rintro e w2 ⟨rfl, g2, t2⟩
    have HT := Lib.hid (Pt.ahead HP.out HB1.out t2)
    clear t2 HX1
    go_wp2_with fail
    go_end0
    exact ⟨rfl, g2, HT.out⟩
  rw [if_neg (by assumption)] at hsz1 ⊢
  split at hx2
  · rename_i e
    simp only [Bool.and_eq_true, decide_eq_true_iff] at hx2
    rw [if_pos e] at hsz1 ⊢
    subst e
    obtain ⟨n, rfl⟩ : ∃ n : Nat, lv = n := ⟨lv.toNat, by omega⟩
    rw [Int.toNat_natCast]
    have HX := Lib.hid (fun w' (hw : Below w.heap.size w w') => wheading_any (HP.out.below hw) n (by omega) _ ss (HSp.out w' (HW0.out.trans (hw.mono HW0.out.size))) (by omega) hss hx2.1.2 (by omega))
    unfold PutAns at HX
    clear hx2 hsz1 HIn HRd HSp HTr HPut hx
    generalize S i = si at *
    generalize (List.replicate n 35 ++ if ss = [] then [] else 32 :: wrs ss) = L at *
    generalize l.length = kn at *
    generalize ss.length = sn at *
    generalize lns.length = ln at *
    go_enter Tryz.func37, Tryz.ntmps37
    go_upto_region 1 with fail
    generalize w.alloc (.cells #[.int .i64 2, .int .i64 (n : Nat), .string si, .slice al ln cl, .slice as' sn cs, .slice ak kn ck] 32) = w1 at *
    have k0 : w1.cell? ⟨w.heap.size, 0, none⟩ = some (.int .i64 2) := cell_at HC1.out 0
    have k1 : w1.cell? ⟨w.heap.size, 1, none⟩ = some (.int .i64 (n : Nat)) := cell_at HC1.out 1
    have k4 : w1.cell? ⟨w.heap.size, 4, none⟩ = some (.slice as' sn cs) := cell_at HC1.out 4
    have HX1 := Lib.hid (HX.out w1 HB1.out)
    clear HX HC1
    go_wp2_with fail
    refine HX1.out.mono ?_
    rintro e w2 ⟨rfl, g2, t2⟩
    have HT := Lib.hid (Pt.ahead HP.out HB1.out t2)
    clear t2 HX1
    go_wp2_with fail
    go_end0
    exact ⟨rfl, g2, HT.out⟩
  rw [if_neg (by assumption)] at hsz1 ⊢
  split at hx2
  · rename_i e
    rw [if_pos e] at hsz1 ⊢
    subst e
    have HX := Lib.hid (fun w' (hw : Below w.heap.size w w') => HPut.out _ _ _ (HP.out.below hw) [45, 45, 45] ⟨#[45, 45, 45]⟩ rfl (by omega))
    unfold PutAns at HX
    clear hx2 hsz1 HIn HRd HSp HTr HPut hx
    generalize S i = si at *
    generalize l.length = kn at *
    generalize ss.length = sn at *
    generalize lns.length = ln at *
    go_enter Tryz.func37, Tryz.ntmps37
    go_upto_region 1 with fail
    generalize w.alloc (.cells #[.int .i64 3, .int .i64 lv, .string si, .slice al ln cl, .slice as' sn cs, .slice ak kn ck] 32) = w1 at *
    have k0 : w1.cell? ⟨w.heap.size, 0, none⟩ = some (.int .i64 3) := cell_at HC1.out 0
    have HX1 := Lib.hid (HX.out w1 HB1.out)
    clear HX HC1
    go_wp2_with fail
    refine HX1.out.mono ?_
    rintro e w2 ⟨rfl, g2, t2⟩
    have HT := Lib.hid (Pt.ahead HP.out HB1.out t2)
    clear t2 HX1
    go_wp2_with fail
    go_end0
    exact ⟨rfl, g2, HT.out⟩
  rw [if_neg (by assumption)] at hsz1 ⊢
  split at hx2
  · rename_i e
    rw [if_pos e] at hsz1 ⊢
    subst e
    have hlm := fun s (hs : s ∈ lns) => Bt.ln_mem hs
    have hll := lnTot_len lns
    simp only [List.length_cons, List.length_append, List.length_nil] at hsz1
    have HX := Lib.hid (fun w' (hw : Below w.heap.size w w') => wfence_any (HP.out.below hw) i _ lns (fun w'' hb => HRd.out w'' ((HW0.out.trans (hw.mono HW0.out.size)).trans hb)) (by omega) (by omega) (fun s hs => by have := hlm s hs; omega) (by omega))
    unfold PutAns at HX
    clear hx2 hsz1 HIn HRd HSp HTr HPut hx hlm hll
    generalize S i = si at *
    generalize ((List.replicate (Bk.ticksL lns) 96 ++ i) :: (lns ++ [List.replicate (Bk.ticksL lns) 96])) = L at *
    generalize l.length = kn at *
    generalize ss.length = sn at *
    generalize lns.length = ln at *
    go_enter Tryz.func37, Tryz.ntmps37
    go_upto_region 1 with fail
    generalize w.alloc (.cells #[.int .i64 4, .int .i64 lv, .string si, .slice al ln cl, .slice as' sn cs, .slice ak kn ck] 32) = w1 at *
    have k0 : w1.cell? ⟨w.heap.size, 0, none⟩ = some (.int .i64 4) := cell_at HC1.out 0
    have k2 : w1.cell? ⟨w.heap.size, 2, none⟩ = some (.string si) := cell_at HC1.out 2
    have k3 : w1.cell? ⟨w.heap.size, 3, none⟩ = some (.slice al ln cl) := cell_at HC1.out 3
    have HX1 := Lib.hid (HX.out w1 HB1.out)
    clear HX HC1
    go_wp2_with fail
    refine HX1.out.mono ?_
    rintro e w2 ⟨rfl, g2, t2⟩
    have HT := Lib.hid (Pt.ahead HP.out HB1.out t2)
    clear t2 HX1
    go_wp2_with fail
    go_end0
    exact ⟨rfl, g2, HT.out⟩
  rw [if_neg (by assumption)] at hsz1 ⊢
  split at hx2
  · rename_i e
    rw [if_pos e] at hsz1 ⊢
    subst e
    simp only [Bool.and_eq_true] at hx2
    rw [← ins_Q] at hsz1 ⊢
    have hB := HIn.out l 0 (by rw [szOne]; omega) hx2.2 hfl (by omega)
    obtain ⟨hq1, hq2⟩ := ins_len hx2.2 (by omega)
    rw [List.length_map] at hsz1
    have HX := Lib.hid (fun w' (hw : Below w.heap.size w w') => wquote_any (HP.out.below hw) _ (insL l) (winside_any l hB _ w' (HTr.out w' (HW0.out.trans (hw.mono HW0.out.size))) (by omega)) hq2 (by omega))
    unfold PutAns at HX
    clear hx2 hsz1 HIn HRd HSp HTr HPut hx hB hq1 hq2
    generalize S i = si at *
    generalize (insL l).map preQ = L at *
    generalize l.length = kn at *
    generalize ss.length = sn at *
    generalize lns.length = ln at *
    go_enter Tryz.func37, Tryz.ntmps37
    go_upto_region 1 with fail
    generalize w.alloc (.cells #[.int .i64 5, .int .i64 lv, .string si, .slice al ln cl, .slice as' sn cs, .slice ak kn ck] 32) = w1 at *
    have k0 : w1.cell? ⟨w.heap.size, 0, none⟩ = some (.int .i64 5) := cell_at HC1.out 0
    have k5 : w1.cell? ⟨w.heap.size, 5, none⟩ = some (.slice ak kn ck) := cell_at HC1.out 5
    have HX1 := Lib.hid (HX.out w1 HB1.out)
    clear HX HC1
    go_wp2_with fail
    refine HX1.out.mono ?_
    rintro e w2 ⟨rfl, g2, t2⟩
    have HT := Lib.hid (Pt.ahead HP.out HB1.out t2)
    clear t2 HX1
    go_wp2_with fail
    go_end0
    exact ⟨rfl, g2, HT.out⟩
  have hq5 : ¬ q = 5 := by assumption
  rw [if_neg hq5] at hsz1 ⊢
  split at hx2
  · rename_i e
    rw [if_pos e] at hsz1 ⊢
    subst e
    simp only [Bool.and_eq_true] at hx2
    have hkid := hx2.2
    have HItem : Hid (∀ j (hj : j < l.length), l[j].kind = 7 ∧ allB false 0 l[j].kids = true ∧ Bk.one l[j] = (insL l[j].kids).mapIdx itP ∧ BlkC l[j].kids ∧ ttAll l[j].kids ≤ 20000 ∧ (insL l[j].kids).length ≤ 3 * ttAll l[j].kids + 1 ∧ (∀ x ∈ insL l[j].kids, x.length ≤ 10000000000)) := Lib.hid (fun j hj => by
      have hm : l[j] ∈ l := List.getElem_mem hj
      have h1 := all_mem hkid _ hm
      have h3 := Bt.ttAll_mem hm
      have h4 := Bt.fitAll_at hfl _ hm
      have h5 := Bt.szAll_mem hm
      generalize l[j] = y at *
      obtain ⟨k', lv', i', ln', ss', l'⟩ := y
      rw [oneB, Bool.and_eq_true, beq_iff_eq, decide_eq_true_iff] at h1
      obtain ⟨rfl, h6⟩ := h1
      rw [if_neg (by decide), if_neg (by decide), if_neg (by decide), if_neg (by decide), if_neg (by decide), if_pos rfl] at h6
      simp only [Bool.and_eq_true] at h6
      rw [ttOne] at h3
      rw [fitOne] at h4
      rw [szOne] at h5
      obtain ⟨q1, q2⟩ := ins_len h6.2 (by omega)
      refine ⟨rfl, h6.2, ?_, HIn.out l' 0 (by rw [szOne]; omega) h6.2 h4.2.2.2.2.2 (by omega), by show ttAll l' ≤ 20000; omega, q1, q2⟩
      show Bk.one (.mk 7 lv' i' ln' ss' l') = (insL l').mapIdx itP
      rw [ins_I h6.2, Bk.one]
      simp)
    have hits := (its_sz 0 l (Bt.dN l) hkid (Nat.le_refl _)).1
    have HT0 : Hid (∀ j (hj : j < l.length), (its (l.take j)).length + (insL l[j].kids).length ≤ 3 * ttAll l) := Lib.hid (fun j hj => by
      have h1 := its_sz 0 (l.take (j + 1)) _ (all_take hkid (j + 1)) (Nat.le_refl _)
      have h2 := (HItem.out j hj).2.2.1
      have h3 := tt_take l (j + 1)
      rw [List.take_succ_eq_append_getElem hj] at h1 h3
      rw [its_snoc, List.length_append, h2, List.length_mapIdx] at h1
      omega)
    have hlen20 : l.length ≤ 20000 := by have := Bt.szAll_len l; have := Bt.sz_tt l; omega
    clear hx2 hsz1 HIn HRd HSp HPut hx hkid hits
    generalize S i = si at *
    generalize ss.length = sn at *
    generalize lns.length = ln at *
    go_enter Tryz.func37, Tryz.ntmps37
    go_upto_region 1 with fail
    generalize w.alloc (.cells #[.int .i64 6, .int .i64 lv, .string si, .slice al ln cl, .slice as' sn cs, .slice ak l.length ck] 32) = w1 at *
    have k0 : w1.cell? ⟨w.heap.size, 0, none⟩ = some (.int .i64 6) := cell_at HC1.out 0
    have k5 : w1.cell? ⟨w.heap.size, 5, none⟩ = some (.slice ak l.length ck) := cell_at HC1.out 5
    clear HC1
    go_wp2_with fail
    go_loopw [45] (fun iv wr => ∃ j : Nat, j ≤ l.length ∧ iv = .int .i64 j ∧ Hid (∃ g', Pt w0.heap.size b g g' (ls ++ its (l.take j)) w wr)) (fun iv _ => l.length - (intOf iv).toNat)
    case atStart => exact ⟨0, Nat.zero_le _, rfl, Lib.hid ⟨g, by rw [List.take_zero, its, List.append_nil]; exact (Pt.refl HP.out).more HB1.out⟩⟩
    case round =>
      clear k0 k5 HB1
      obtain ⟨j, hj, rfl, HT⟩ := hrel
      obtain ⟨g1, t1⟩ := HT.out
      have HT1 := Lib.hid t1
      clear t1 HT
      by_cases hlt : j < l.length
      · have hi1 : (j : Int) < (l.length : Int) := by omega
        have HBr := Lib.hid (HW0.out.trans (HT1.out.bel HP.out))
        obtain ⟨bb, o, vl, vs, ak', ck', rfl, hbl, hC⟩ := (HTr.out wr HBr.out).at j hlt
        obtain ⟨al', cl', rfl⟩ := hC.rd.len
        obtain ⟨as2, cs2, rfl⟩ := hC.sp.len
        have c0 := hC.kind
        have c1 := hC.level
        have c2 := hC.info
        have c3 := hC.lines
        have c4 := hC.spans
        have c5 := hC.kids
        obtain ⟨hk, ha, hone, hBlk, htk, hil, hxl⟩ := HItem.out j hlt
        have hT0 := HT0.out j hlt
        have HX := Lib.hid (fun w' (hw : Below wr.heap.size wr w') => witem_any (HT1.out.pg.below hw) _ (insL l[j].kids) (winside_any l[j].kids hBlk _ w' (hC.tr.below hw) (by omega)) hxl (by rw [List.length_append]; omega))
        unfold PutAns at HX
        have HE : Hid (ls ++ its (l.take j) ++ (insL l[j].kids).mapIdx itP = ls ++ its (l.take (j + 1))) := Lib.hid (by rw [List.append_assoc, List.take_succ_eq_append_getElem hlt, its_snoc, hone])
        clear hC hk ha hone hBlk htk hil hxl HItem HT0 hT0
        generalize (insL l[j].kids).mapIdx itP = L at *
        generalize l[j].kind = q' at *
        generalize l[j].lines.length = ln' at *
        generalize l[j].spans.length = sn' at *
        generalize l[j].kids.length = kn' at *
        generalize l[j].level = lv' at *
        generalize S l[j].info = si' at *
        have HB4 := Lib.hid ((Below.refl wr.heap.size wr).alloc (Nat.le_refl _) (.cells #[.int .i64 q', .int .i64 lv', .string si', .slice al' ln' cl', .slice as2 sn' cs2, .slice ak' kn' ck'] 32))
        have HC4 := Lib.hid (alloc_new wr (.cells #[.int .i64 q', .int .i64 lv', .string si', .slice al' ln' cl', .slice as2 sn' cs2, .slice ak' kn' ck'] 32))
        go_upto_region 16 with fail
        generalize wr.alloc (.cells #[.int .i64 q', .int .i64 lv', .string si', .slice al' ln' cl', .slice as2 sn' cs2, .slice ak' kn' ck'] 32) = w4 at *
        have k5 : w4.cell? ⟨wr.heap.size, 5, none⟩ = some (.slice ak' kn' ck') := cell_at HC4.out 5
        have HX4 := Lib.hid (HX.out w4 HB4.out)
        clear HX HC4 c0 c1 c2 c3 c4 c5
        go_wp2_with fail
        refine HX4.out.mono ?_
        rintro e w5 ⟨rfl, g5, t5⟩
        have HT5 : Hid (∃ g', Pt w0.heap.size b g g' (ls ++ its (l.take (j + 1))) w w5) := Lib.hid ⟨g5, by rw [← HE.out]; exact (HT1.out.more HB4.out).trans t5⟩
        clear t5 HX4
        go_wp2_with fail
        go_roundw
        case rel => exact ⟨j + 1, by omega, by go_num, HT5⟩
        case measure => simp [intOf] <;> omega
      · have hi1 : ¬ (j : Int) < (l.length : Int) := by omega
        have HX2 : Hid (Pt w0.heap.size b g g1 (ls ++ its l) w wr) := Lib.hid (by
          have h2 := HT1.out
          rwa [List.take_of_length_le (by omega)] at h2)
        clear HT1 hlt HItem HT0
        go_wp2_with fail
        go_end0
        exact ⟨rfl, _, HX2.out⟩
  have hq6 : ¬ q = 6 := by assumption
  rw [if_neg hq6, if_neg hk7] at hsz1 ⊢
  split at hx2
  · rename_i e
    subst e
    simp only [Bool.and_eq_true, decide_eq_true_iff] at hx2
    obtain ⟨d, hd⟩ := List.length_eq_one_iff.1 hx2.1.2
    subst hd
    rw [List.headD_cons]
    simp only [lnTot] at htt
    have HRd0 := Lib.hid (fun w' (h : Below w0.heap.size w0 w') => Bt.Rd.at (HRd.out w' h) 0 (by simp))
    simp only [List.getElem_cons_zero, Nat.add_zero] at HRd0
    have hE : S [91] ++ S i ++ S [93, 58, 32] ++ S d = S (91 :: (i ++ 93 :: 58 :: 32 :: d)) := by
      rw [S_app, S_app, S_app]
      congr 1
      simp
    have HX := Lib.hid (fun w' (hw : Below w.heap.size w w') => HPut.out _ _ _ (HP.out.below hw) (91 :: (i ++ 93 :: 58 :: 32 :: d)) _ hE (by omega))
    have hsd : (S d).size ≤ 20000 := by rw [S_size]; omega
    have e91 : S [91] = ⟨#[91]⟩ := rfl
    have e93 : S [93, 58, 32] = ⟨#[93, 58, 32]⟩ := rfl
    rw [e91, e93] at HX
    have hs1 : (⟨#[91]⟩ ++ S i).size ≤ 20001 := by rw [ByteArray.size_append]; show 1 + _ ≤ _; omega
    have hs2 : (⟨#[91]⟩ ++ S i ++ ⟨#[93, 58, 32]⟩).size ≤ 20004 := by rw [ByteArray.size_append]; show _ + 3 ≤ _; omega
    have hone1 : (List.length [d]) = 1 := rfl
    unfold PutAns at HX
    obtain ⟨bb, o, hbo, c0⟩ := HRd0.out w HW0.out
    subst hbo
    clear hx2 hsz1 HIn HRd HSp HTr HPut hx hE e91 e93 c0
    generalize (91 :: (i ++ 93 :: 58 :: 32 :: d)) = L at *
    generalize S i = si at *
    generalize S d = sd at *
    generalize l.length = kn at *
    generalize ss.length = sn at *
    rw [hone1] at HB1 HC1 ⊢
    clear hone1
    go_enter Tryz.func37, Tryz.ntmps37
    go_upto_region 1 with fail
    generalize w.alloc (.cells #[.int .i64 8, .int .i64 lv, .string si, .slice (some ⟨bb, o, none⟩) 1 cl, .slice as' sn cs, .slice ak kn ck] 32) = w1 at *
    have k0 : w1.cell? ⟨w.heap.size, 0, none⟩ = some (.int .i64 8) := cell_at HC1.out 0
    have k2 : w1.cell? ⟨w.heap.size, 2, none⟩ = some (.string si) := cell_at HC1.out 2
    have k3 : w1.cell? ⟨w.heap.size, 3, none⟩ = some (.slice (some ⟨bb, o, none⟩) 1 cl) := cell_at HC1.out 3
    obtain ⟨bb', o', hbo, c0⟩ := HRd0.out w1 (HW0.out.trans (HB1.out.mono HW0.out.size))
    simp only [Option.some.injEq, Addr.mk.injEq, and_true] at hbo
    obtain ⟨rfl, rfl⟩ := hbo
    clear HC1 HRd0
    have m2 : ({ heap := w1.heap, tape := w1.tape, drawn := w1.drawn + 1, os := w1.os, output := w1.output } : World).cell? ⟨w.heap.size, 2, none⟩ = some (.string si) := k2
    have m3 : ({ heap := w1.heap, tape := w1.tape, drawn := w1.drawn + 1, os := w1.os, output := w1.output } : World).cell? ⟨w.heap.size, 3, none⟩ = some (.slice (some ⟨bb, o, none⟩) 1 cl) := k3
    have m0 : ({ heap := w1.heap, tape := w1.tape, drawn := w1.drawn + 1, os := w1.os, output := w1.output } : World).cell? ⟨bb, o, none⟩ = some (.string sd) := c0
    have n1 : ¬ 9223372036854775807 < 1 + si.size := by omega
    have n2 : ¬ 9223372036854775807 < (⟨#[91]⟩ ++ si).size + 3 := by omega
    have n3 : ¬ 9223372036854775807 < (⟨#[91]⟩ ++ si ++ ⟨#[93, 58, 32]⟩).size + sd.size := by omega
    have n4 : ¬ 9223372036854775807 < 1 + si.size + 3 := by omega
    have n5 : ¬ 9223372036854775807 < 1 + si.size + 3 + sd.size := by omega
    go_upto_region 19 with fail
    go_still_tail 10, (by kernel_rfl)
    change wpList _ _ _ _ _ w1.drew
    have HB2 : Hid (Below w.heap.size w w1.drew) := Lib.hid HB1.out.drew
    generalize w1.drew = w2 at *
    have HX1 := Lib.hid (HX.out w2 HB2.out)
    clear HX m0 m2 m3 k0 k2 k3 c0 HB1
    go_wp2_with fail
    refine HX1.out.mono ?_
    rintro e w3 ⟨rfl, g2, t2⟩
    have HT := Lib.hid (Pt.ahead HP.out HB2.out t2)
    clear t2 HX1
    go_wp2_with fail
    go_end0
    exact ⟨rfl, g2, HT.out⟩
  · cases hx2
end Go.Proofs.YtldllbmbcnipoabGreatDoor.Wr
