/-
  Several texts in one:
  
  
-/
import Derived.Test.YtldllbmbcnipoabGreatDoorWrBlocks
import Derived.Test.YtldllbmbcnipoabGreatDoorShelfJ
import Derived.Test.YtldllbmbcnipoabGreatDoorPkWAB
import Derived.Test.YtldllbmbcnipoabGreatDoorPkWX
import Derived.Test.YtldllbmbcnipoabGreatDoorPkWG
namespace Go.Proofs.YtldllbmbcnipoabGreatDoor.Wr
open Go.RowKit
open Go.Proofs.YtldllbmbcnipoabGreatDoor.Tk (S S_of S_list S_size S_toList S_app ret_int len_data Rd)
open Go.Proofs.YtldllbmbcnipoabGreatDoor.Sp (Sp Tr ret_bool OkAns)
open Go.Proofs.YtldllbmbcnipoabGreatDoor.Bt (TrB fitAll fitOne ttAll ttOne szAll szOne allB oneB allB_cons rgB)
open Go.Proofs.YtldllbmbcnipoabGreatDoor.Cm (Keep cell_at alloc_new)
open Go.Proofs.YtldllbmbcnipoabGreatDoor.Bk (Tx Bk wl)
open Go.Proofs.YtldllbmbcnipoabGreatDoor.Pa (OutG OutS tot)
set_option linter.unusedVariables false
theorem wl_sz1 : ∀ (l : List Bk) (p : Int), allB false p l = true → l ≠ [] → (wl l).length + 1 ≤ 3 * ttAll l
  | [], _, _, h => absurd rfl h
  | b :: r, p, h, _ => by
    rw [allB_cons, Bool.and_eq_true, Bool.and_eq_true] at h
    have h1 := (one_sz false b _ h.1.1 (Nat.le_refl _)).1
    rw [Bt.ttAll_cons]
    cases r with
    | nil => rw [Bk.wl_one]; omega
    | cons c r =>
      have h2 := wl_sz1 (c :: r) _ h.2 (by simp)
      rw [Bk.wl_two, List.length_append, List.length_cons]
      omega
set_option maxHeartbeats 3200000 in
set_option maxRecDepth 100000 in
theorem wblocks_any (m : Nat) : ∀ (l : List Bk) (p : Int), szAll l ≤ m → allB false p l = true → fitAll 140737488355328 l → ttAll l ≤ 20000 → BlkC l := by
  induction m using Nat.strongRecOn with
  | ind m ih =>
    intro l p hm ha hf htt v w0 w b g ls ht hb h hl
    obtain ⟨ao, ca, rfl⟩ := ht.len
    have HAt := Lib.hid (fun j (hj : j < l.length) => ht.at j hj)
    have HW0 := Lib.hid hb
    have HP := Lib.hid h
    have hlen := ht.short
    have HBk : Hid (∀ j (hj : j < l.length) (al as' ak : Option Addr) (cl cs ck : Nat) (w' : World) (g' : Option Nat) (ls' : List Tx), Rd w0 (.slice al l[j].lines.length cl) l[j].lines → Tr w0 (.slice as' l[j].spans.length cs) l[j].spans → TrB w0 (.slice ak l[j].kids.length ck) l[j].kids → Below w0.heap.size w0 w' → Pg w0.heap.size b g' ls' w' → ls'.length + 3 * ttOne l[j] ≤ 900000 →
        Calls Tryz.prog 37 #[.pointer (some ⟨b, 0, none⟩), .agg #[.int .i64 l[j].kind, .int .i64 l[j].level, .string (S l[j].info), .slice al l[j].lines.length cl, .slice as' l[j].spans.length cs, .slice ak l[j].kids.length ck]] w' (PutAns w0.heap.size b g' (ls' ++ Bk.one l[j]) w')) := Lib.hid (fun j hj al as' ak cl cs ck w' g' ls' h1 h2 h3 h4 h5 h6 => by
      have hx := List.getElem_mem hj
      have h7 := Bt.szAll_mem hx
      have h8 := Bt.ttAll_mem hx
      exact wblock_any l[j] (all_mem ha _ hx) (fun l' p' g1 g2 g3 g4 => ih (szAll l') (by omega) l' p' (Nat.le_refl _) g2 g3 g4) al as' ak cl cs ck w0 w' b g' ls' (Bt.fitAll_at hf _ hx) (by omega) h1 h2 h3 h4 h5 h6)
    have HL : Hid (∀ j (hj : j < l.length), ls.length + (wl (l.take j)).length + (if j = 0 then 0 else 1) + 3 * ttOne l[j] ≤ 900000) := Lib.hid (fun j hj => by
      have h1 := tt_take l (j + 1)
      rw [List.take_succ_eq_append_getElem hj, Bt.ttAll_app, Bt.ttAll_cons, Bt.ttAll] at h1
      by_cases h0 : j = 0
      · subst h0
        rw [List.take_zero, wl, if_pos rfl]
        simp only [List.length_nil]
        omega
      · have h2 := wl_sz1 (l.take j) p (all_take ha j) (by intro e; have := congrArg List.length e; rw [List.length_take, List.length_nil] at this; omega)
        rw [if_neg h0]
        omega)
    have HPut := Lib.hid (fun (g' : Option Nat) (ls' : List Tx) (w' : World) (h' : Pg w0.heap.size b g' ls' w') (hl' : ls'.length + 1 ≤ 1000000) => put_any h' [] hl')
    have hz : S [] = ⟨#[]⟩ := rfl
    simp only [hz] at HPut
    unfold PutAns at HPut HBk
    clear ih ht hb h hm ha hf htt hl hz
    go_enter Tryz.func20, Tryz.ntmps20
    go_wp2_with fail
    go_loopw [8] (fun iv wr => ∃ j : Nat, j ≤ l.length ∧ iv = .int .i64 j ∧ Hid (∃ g', Pt w0.heap.size b g g' (ls ++ wl (l.take j)) w wr)) (fun iv _ => l.length - (intOf iv).toNat)
    case atStart => exact ⟨0, Nat.zero_le _, rfl, Lib.hid ⟨g, by rw [List.take_zero, wl, List.append_nil]; exact Pt.refl HP.out⟩⟩
    case round =>
      obtain ⟨j, hj, rfl, HT⟩ := hrel
      obtain ⟨g1, t1⟩ := HT.out
      have HT1 := Lib.hid t1
      clear t1 HT
      by_cases hlt : j < l.length
      · have hi1 : (j : Int) < (l.length : Int) := by omega
        have HBr := Lib.hid (HW0.out.trans (HT1.out.bel HP.out))
        obtain ⟨bb, o, vl, vs, ak, ck, rfl, hbl, hC⟩ := HAt.out j hlt
        obtain ⟨al, cl, rfl⟩ := hC.rd.len
        obtain ⟨as', cs, rfl⟩ := hC.sp.len
        have c0 := (HBr.out.cell (p := ⟨bb, o + j * 6, none⟩) hbl).trans hC.kind
        have c1 := (HBr.out.cell (p := ⟨bb, o + j * 6 + 1, none⟩) hbl).trans hC.level
        have c2 := (HBr.out.cell (p := ⟨bb, o + j * 6 + 2, none⟩) hbl).trans hC.info
        have c3 := (HBr.out.cell (p := ⟨bb, o + j * 6 + 3, none⟩) hbl).trans hC.lines
        have c4 := (HBr.out.cell (p := ⟨bb, o + j * 6 + 4, none⟩) hbl).trans hC.spans
        have c5 := (HBr.out.cell (p := ⟨bb, o + j * 6 + 5, none⟩) hbl).trans hC.kids
        have hLj := HL.out j hlt
        have HX := Lib.hid (fun (w' : World) (g' : Option Nat) (ls' : List Tx) (h4 : Below w0.heap.size w0 w') (h5 : Pg w0.heap.size b g' ls' w') (h6 : ls'.length + 3 * ttOne l[j] ≤ 900000) => HBk.out j hlt al as' ak cl cs ck w' g' ls' hC.rd hC.sp hC.tr h4 h5 h6)
        have HE : Hid (wl (l.take (j + 1)) = if l.take j = [] then Bk.one l[j] else wl (l.take j) ++ [] :: Bk.one l[j]) := Lib.hid (by rw [List.take_succ_eq_append_getElem hlt, wl_snoc])
        have ht0 : l.take j = [] ↔ j = 0 := by
          constructor
          · intro e; have := congrArg List.length e; rw [List.length_take, List.length_nil] at this; omega
          · rintro rfl; rw [List.take_zero]
        clear hC HBk HL HAt
        generalize Bk.one l[j] = X at *
        generalize ttOne l[j] = tx at *
        generalize l[j].kind = q at *
        generalize l[j].lines.length = ln at *
        generalize l[j].spans.length = sn at *
        generalize l[j].kids.length = kn at *
        generalize l[j].level = lv at *
        generalize S l[j].info = si at *
        have HB4 := Lib.hid ((Below.refl wr.heap.size wr).alloc (Nat.le_refl _) (.cells #[.int .i64 q, .int .i64 lv, .string si, .slice al ln cl, .slice as' sn cs, .slice ak kn ck] 32))
        have HC4 := Lib.hid (alloc_new wr (.cells #[.int .i64 q, .int .i64 lv, .string si, .slice al ln cl, .slice as' sn cs, .slice ak kn ck] 32))
        go_upto_region 3 with fail
        generalize wr.alloc (.cells #[.int .i64 q, .int .i64 lv, .string si, .slice al ln cl, .slice as' sn cs, .slice ak kn ck] 32) = w4 at *
        clear c0 c1 c2 c3 c4 c5
        have P4 := Lib.hid (HT1.out.pg.below HB4.out)
        have HB04 := Lib.hid (HBr.out.trans (HB4.out.mono HBr.out.size))
        by_cases h0 : j = 0
        · rw [if_pos (ht0.2 h0)] at HE
          have hd0 : (j : Int) = 0 := by omega
          have g0 : ¬ (0 : Int) < (j : Int) := by omega
          have g00 : ¬ (j : Int) > 0 := by omega
          have HEn : Hid (wl (l.take j) = []) := Lib.hid (by rw [ht0.2 h0, wl])
          have k0 : w4.cell? ⟨wr.heap.size, 0, none⟩ = some (.int .i64 q) := cell_at HC4.out 0
          have k1 : w4.cell? ⟨wr.heap.size, 1, none⟩ = some (.int .i64 lv) := cell_at HC4.out 1
          have k2 : w4.cell? ⟨wr.heap.size, 2, none⟩ = some (.string si) := cell_at HC4.out 2
          have k3 : w4.cell? ⟨wr.heap.size, 3, none⟩ = some (.slice al ln cl) := cell_at HC4.out 3
          have k4 : w4.cell? ⟨wr.heap.size, 4, none⟩ = some (.slice as' sn cs) := cell_at HC4.out 4
          have k5 : w4.cell? ⟨wr.heap.size, 5, none⟩ = some (.slice ak kn ck) := cell_at HC4.out 5
          have HX4 := Lib.hid (HX.out w4 _ _ HB04.out P4.out (by rw [List.length_append]; rw [if_pos h0] at hLj; omega))
          clear HX HC4 hd0 h0 ht0 HPut hLj
          go_wp2_with fail
          refine HX4.out.mono ?_
          rintro e w5 ⟨rfl, g5, t5⟩
          have HT5 : Hid (∃ g', Pt w0.heap.size b g g' (ls ++ wl (l.take (j + 1))) w w5) := Lib.hid ⟨g5, by
            have h5 := (HT1.out.more HB4.out).trans t5
            rw [HEn.out, List.append_nil] at h5
            rw [HE.out]
            exact h5⟩
          clear t5 HX4 k0 k1 k2 k3 k4 k5
          go_wp2_with fail
          go_roundw
          case rel => exact ⟨j + 1, by omega, by go_num, HT5⟩
          case measure => simp [intOf] <;> omega
        · rw [if_neg (fun e => h0 (ht0.1 e))] at HE
          have g0 : (0 : Int) < (j : Int) := by omega
          have HPj := Lib.hid (HPut.out _ _ _ P4.out (by rw [List.length_append]; rw [if_neg h0] at hLj; omega))
          have hLj2 : (ls ++ wl (l.take j) ++ [[]]).length + 3 * tx ≤ 900000 := by rw [List.length_append, List.length_append]; rw [if_neg h0] at hLj; simp only [List.length_cons, List.length_nil]; omega
          have HLj := Lib.hid hLj2
          have hbx : ¬ (wr.heap.size = b ∨ some wr.heap.size = g1) := by
            have h1 := HT1.out.pg.lt
            rintro (e | e)
            · omega
            · have := (HT1.out.pg.ne _ e.symm).2.1; omega
          have HNx := Lib.hid hbx
          clear hLj hLj2 h0 ht0 HPut hbx
          go_wp2_with fail
          refine HPj.out.mono ?_
          rintro e w6 ⟨rfl, g6, t6⟩
          have HC6 := Lib.hid (t6.kp.at HC4.out HNx.out)
          have HB06 := Lib.hid (HB04.out.trans (t6.bel P4.out))
          have HX4 := Lib.hid (HX.out w6 _ _ HB06.out t6.pg HLj.out)
          have HT6 := Lib.hid ((HT1.out.more HB4.out).trans t6)
          have k0 : w6.cell? ⟨wr.heap.size, 0, none⟩ = some (.int .i64 q) := cell_at HC6.out 0
          have k1 : w6.cell? ⟨wr.heap.size, 1, none⟩ = some (.int .i64 lv) := cell_at HC6.out 1
          have k2 : w6.cell? ⟨wr.heap.size, 2, none⟩ = some (.string si) := cell_at HC6.out 2
          have k3 : w6.cell? ⟨wr.heap.size, 3, none⟩ = some (.slice al ln cl) := cell_at HC6.out 3
          have k4 : w6.cell? ⟨wr.heap.size, 4, none⟩ = some (.slice as' sn cs) := cell_at HC6.out 4
          have k5 : w6.cell? ⟨wr.heap.size, 5, none⟩ = some (.slice ak kn ck) := cell_at HC6.out 5
          clear HX HC4 HC6 t6 HPj HLj
          go_wp2_with fail
          refine HX4.out.mono ?_
          rintro e w5 ⟨rfl, g5, t5⟩
          have HT5 : Hid (∃ g', Pt w0.heap.size b g g' (ls ++ wl (l.take (j + 1))) w w5) := Lib.hid ⟨g5, by
            have h5 := HT6.out.trans t5
            rw [HE.out]
            simpa [List.append_assoc] using h5⟩
          clear t5 HX4 k0 k1 k2 k3 k4 k5
          go_wp2_with fail
          go_roundw
          case rel => exact ⟨j + 1, by omega, by go_num, HT5⟩
          case measure => simp [intOf] <;> omega
      · have hi1 : ¬ (j : Int) < (l.length : Int) := by omega
        have HX2 : Hid (Pt w0.heap.size b g g1 (ls ++ wl l) w wr) := Lib.hid (by
          have h2 := HT1.out
          rwa [List.take_of_length_le (by omega)] at h2)
        clear HT1 hlt HBk HL HAt
        go_wp2_with fail
        go_end0
        exact ⟨rfl, _, HX2.out⟩
theorem map_S (xs : List Tx) : (xs.map S).map (·.data.toList) = xs := by
  rw [List.map_map]
  conv => rhs; rw [← List.map_id xs]
  exact List.map_congr_left (fun x _ => S_list x)
theorem wjoin_any (v : Value) (xs : List Tx) (w : World) (h : Rd w v xs) (hl : xs.length ≤ 1000000) (ht : tot xs ≤ 100000000) :
    Calls Tryz.prog 11 #[v, .bool true] w fun r w' => r = .returned (.string (S (Ln.jn xs true))) ∧ Below w.heap.size w w' := by
  obtain ⟨ao, ca, rfl, hca, hax⟩ := h
  have hl2 : (Ln.jn xs false).length ≤ 100000000 := by
    by_cases h0 : xs = []
    · subst h0; exact Nat.zero_le _
    · have h1 := Ln.jn_true xs h0
      have h2 := congrArg List.length h1
      rw [jn_tot, List.length_append] at h2
      simp only [List.length_cons, List.length_nil] at h2
      omega
  have HC : Hid (Calls Tryz.prog 21 #[.slice ao xs.length ca, .string ⟨#[10]⟩] w fun r w' => r = .returned (.string (S (Ln.jn xs false))) ∧ Below w.heap.size w w') := by
    rcases hax with rfl | ⟨b, o, rfl, hlt, hcell⟩
    · exact Lib.hid ((Tryz.strings_Join_none ao ca ⟨#[10]⟩ w).mono fun r w' ⟨hr, hw⟩ => ⟨hr, hw ▸ Below.refl _ _⟩)
    · have := Tryz.strings_Join b o ca (xs.map S) ⟨#[10]⟩ w (fun j x hj => by
          rw [List.getElem?_map] at hj
          cases hx : xs[j]? with
          | none => rw [hx] at hj; simp at hj
          | some y => rw [hx] at hj; simp at hj; rw [← hj]; exact hcell j y hx) hlt (by rw [List.length_map]; omega) (by rw [List.length_map]; exact hca)
          (by rw [map_S]; show (Lib.join xs [10]).length ≤ _; rw [← Ln.jn_false]; omega)
      rw [List.length_map, map_S] at this
      refine Lib.hid (this.mono fun r w' ⟨hr, hw⟩ => ⟨?_, hw⟩)
      rw [hr, Ln.jn_false]
      rfl
  have hsz : (S (Ln.jn xs false)).size ≤ 100000000 := by rw [S_size]; exact hl2
  clear hax hl2 ht
  by_cases h0 : xs = []
  · have Hr2 : Hid (S (Ln.jn xs true) = S (Ln.jn xs false)) := Lib.hid (by subst h0; rfl)
    have d0 : decide (0 < (xs.length : Int)) = false := by subst h0; rfl
    have hn : ¬ 0 < xs.length := by subst h0; simp
    generalize S (Ln.jn xs true) = y at *
    generalize S (Ln.jn xs false) = z at *
    clear h0
    go_enter Tryz.func11, Tryz.ntmps11
    go_wp2_with fail
    refine HC.out.mono ?_
    rintro r w1 ⟨rfl, hb⟩
    have Hb := Lib.hid hb
    clear hb
    go_wp2_with fail
    go_ret
    exact ⟨Sp.ret_str Hr2.out.symm, Hb.out⟩
  · have Hr2 : Hid (S (Ln.jn xs true) = S (Ln.jn xs false) ++ ⟨#[10]⟩) := Lib.hid (by rw [Ln.jn_true xs h0]; exact (S_app _ [10]).symm)
    have hpos := List.length_pos_iff.2 h0
    have d0 : decide (0 < (xs.length : Int)) = true := decide_eq_true (by omega)
    clear h0
    generalize S (Ln.jn xs true) = y at *
    generalize S (Ln.jn xs false) = z at *
    go_enter Tryz.func11, Tryz.ntmps11
    go_wp2_with fail
    refine HC.out.mono ?_
    rintro r w1 ⟨rfl, hb⟩
    have Hb := Lib.hid hb
    clear hb
    go_wp2_with fail
    go_ret
    exact ⟨Sp.ret_str Hr2.out.symm, Hb.out⟩
def wrE (l : List Bk) : Int := if rgB l = true then 0 else 6
def wrL (l : List Bk) : List Tx := if rgB l = true then wl l else []
def WrLns (w : World) (l : List Bk) (e : Ending) (w' : World) : Prop := ∃ u, e = .returned (.tuple #[u, .int .i64 (wrE l)]) ∧ (∃ B, w.heap.size ≤ B ∧ OutS B w' u (wrL l)) ∧ Below w.heap.size w w'
def WrDoc (w : World) (l : List Bk) (e : Ending) (w' : World) : Prop := e = .returned (.tuple #[.string (S (Ln.jn (wrL l) true)), .int .i64 (wrE l)]) ∧ Below w.heap.size w w'
set_option maxHeartbeats 1600000 in
theorem linesW_any (v : Value) (l : List Bk) (w : World) (ht : TrB w v l) (hf : fitAll 1048576 l) (htt : ttAll l ≤ 20000) :
    Calls Tryz.prog 10 #[v] w (WrLns w l) := by
  have HR := Lib.hid (Pa.rightC v l w ht hf (by omega))
  unfold WrLns wrE wrL
  cases hr : rgB l with
  | false =>
    rw [hr] at HR
    rw [if_neg (by simp), if_neg (by simp)]
    clear ht hf htt hr
    go_enter Tryz.func10, Tryz.ntmps10
    go_wp2_with fail
    refine HR.out.mono ?_
    rintro e w1 ⟨rfl, b1⟩
    have B1 := Lib.hid b1
    clear b1 HR
    go_wp2_with fail
    go_ret2
    exact ⟨_, rfl, ⟨_, Nat.le_refl _, OutG.nil B1.out.size⟩, B1.out⟩
  | true =>
    rw [hr] at HR
    rw [if_pos rfl, if_pos rfl]
    have HB := Lib.hid (fun (w1 : World) (hb : Below w.heap.size w w1) => wblocks_any (szAll l) l 0 (Nat.le_refl _) (Bt.rg_parts hr).1 (Bt.fitAll_wide (by decide) l hf) htt v w1 (w1.alloc (.cells #[.slice none 0 0] 54)) w1.heap.size none [] (ht.below hb) ((Below.refl _ _).alloc (Nat.le_refl _) _) (Pg.begin w1) (by simp; omega))
    simp only [List.nil_append] at HB
    unfold PutAns at HB
    clear ht hf htt hr
    generalize wl l = L at *
    go_enter Tryz.func10, Tryz.ntmps10
    go_wp2_with fail
    refine HR.out.mono ?_
    rintro e w1 ⟨rfl, b1⟩
    have B1 := Lib.hid b1
    have HB1 := Lib.hid (HB.out w1 b1)
    have HA := Lib.hid ((Below.refl w1.heap.size w1).alloc (Nat.le_refl _) (.cells #[.slice none 0 0] 54))
    have P1 := Lib.hid (Pg.begin w1)
    clear b1 HR HB
    go_upto_region 4 with fail
    generalize w1.alloc (.cells #[.slice none 0 0] 54) = w2 at *
    go_wp2_with fail
    refine HB1.out.mono ?_
    rintro e w3 ⟨rfl, g3, t3⟩
    have HB3 := Lib.hid (B1.out.trans ((HA.out.trans (t3.bel P1.out)).mono B1.out.size))
    obtain ⟨_, u3, hb3, _, ho3⟩ := t3.pg
    have HO3 := Lib.hid ho3
    have c3 : w3.cell? ⟨w1.heap.size, 0, none⟩ = some u3 := cell_at hb3 0
    clear hb3 ho3 t3 HB1 HA P1
    go_wp2_with fail
    go_ret2
    exact ⟨_, rfl, ⟨_, B1.out.size, HO3.out⟩, HB3.out⟩
theorem documentW_any (v : Value) (l : List Bk) (w : World) (ht : TrB w v l) (hf : fitAll 1048576 l) (htt : ttAll l ≤ 20000) :
    Calls Tryz.prog 6 #[v] w (WrDoc w l) := by
  have HL := Lib.hid (linesW_any v l w ht hf htt)
  unfold WrLns at HL
  unfold WrDoc
  have HJ : Hid (∀ u w', wrE l = 0 → Rd w' u (wrL l) → Calls Tryz.prog 11 #[u, .bool true] w' fun r w'' => r = .returned (.string (S (Ln.jn (wrL l) true))) ∧ Below w'.heap.size w' w'') := Lib.hid (fun u w' h0 hu => by
    have hr : rgB l = true := by
      unfold wrE at h0
      split at h0
      · assumption
      · cases h0
    have hs := rg_sz hr (by omega)
    have hw : wrL l = wl l := by unfold wrL; rw [if_pos hr]
    rw [hw] at hu ⊢
    exact wjoin_any u (wl l) w' hu (by omega) (by omega))
  have H6 : Hid (wrE l = 0 ∨ (wrE l = 6 ∧ wrL l = [])) := Lib.hid (by
    unfold wrE wrL
    split
    · exact Or.inl rfl
    · exact Or.inr ⟨rfl, rfl⟩)
  clear ht hf htt
  generalize wrL l = L at *
  generalize wrE l = E at *
  rcases H6.out with h0 | ⟨h6, hL⟩
  · subst h0
    clear H6
    generalize S (Ln.jn L true) = y at *
    go_enter Tryz.func6, Tryz.ntmps6
    go_wp2_with fail
    refine HL.out.mono ?_
    rintro e w1 ⟨u, rfl, ⟨B0, _, hu⟩, b1⟩
    have B1 := Lib.hid b1
    have HJ1 := Lib.hid (HJ.out u w1 (by trivial) (Pa.OutS.rd hu))
    clear b1 HL HJ hu
    go_wp2_with fail
    refine HJ1.out.mono ?_
    rintro e w2 ⟨rfl, b2⟩
    have B2 := Lib.hid (B1.out.trans (b2.mono B1.out.size))
    clear b2 HJ1
    go_wp2_with fail
    go_ret2
    exact ⟨rfl, B2.out⟩
  · subst h6
    subst hL
    have hz : S (Ln.jn [] true) = ⟨#[]⟩ := rfl
    rw [hz]
    clear H6 HJ hz
    go_enter Tryz.func6, Tryz.ntmps6
    go_wp2_with fail
    refine HL.out.mono ?_
    rintro e w1 ⟨u, rfl, hu, b1⟩
    have B1 := Lib.hid b1
    clear b1 HL hu
    go_wp2_with fail
    go_ret2
    exact ⟨rfl, B1.out⟩
end Go.Proofs.YtldllbmbcnipoabGreatDoor.Wr

namespace Go.Proofs.YtldllbmbcnipoabGreatDoor.Bt
open Go.RowKit
open Go.Proofs.YtldllbmbcnipoabGreatDoor.Tk (S Rd)
open Go.Proofs.YtldllbmbcnipoabGreatDoor.Sp (Sp Tr)
open Go.Proofs.YtldllbmbcnipoabGreatDoor.Bk (Bk)
set_option linter.unusedVariables false
theorem sliceB {w : World} {b o n c : Nat} {l : List Bk} (h : TrB w (.slice (some ⟨b, o, none⟩) n c) l) (k : Nat) (hk : k < l.length) : TrB w (.slice (some ⟨b, o + k * 6, none⟩) 1 (c - k)) [l[k]] ∧ l.length ≤ c := by
  obtain ⟨ao, cap, hv, hc, hx⟩ := h
  simp only [Value.slice.injEq] at hv
  obtain ⟨rfl, rfl, rfl⟩ := hv
  rcases hx with hx | ⟨b', o', hao, hb, hx⟩
  · subst hx; exact absurd hk (Nat.not_lt_zero _)
  · simp only [Option.some.injEq, Addr.mk.injEq, and_true] at hao
    obtain ⟨rfl, rfl⟩ := hao
    refine ⟨⟨_, c - k, rfl, ⟨by simp only [List.length_cons, List.length_nil]; omega, by omega⟩, Or.inr ⟨b, o + k * 6, rfl, hb, ?_⟩⟩, hc.1⟩
    unfold trAll
    exact ⟨trAll_at l o hx k hk, by unfold trAll; trivial⟩
end Go.Proofs.YtldllbmbcnipoabGreatDoor.Bt
