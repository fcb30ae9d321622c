/-
  CONTRACTS of the document's Keys and parts (emendationref15).
-/
import Derived.Test.YtldllbmbcnipoaaGreatDoorNmKey
import Derived.Test.YtldllbmbcnipoaaGreatDoorPaRow
import Derived.Test.YtldllbmbcnipoaaGreatDoorTkRef
import Derived.Lib.AppendZeros
namespace Go.Proofs.YtldllbmbcnipoaaGreatDoor.Nm
open Go.RowKit
open Go.Proofs.YtldllbmbcnipoaaGreatDoor.Tk (S S_of S_list S_size S_toList S_app Rd)
open Go.Proofs.YtldllbmbcnipoaaGreatDoor.Cm (cell_at alloc_new Keep Keep.of_below)
open Go.Proofs.YtldllbmbcnipoaaGreatDoor.Sp (Sp Tr totAll plAll)
open Go.Proofs.YtldllbmbcnipoaaGreatDoor.Bt (TrB ttAll ttOne lnTot szAll szOne ttAll_mem)
open Go.Proofs.YtldllbmbcnipoaaGreatDoor.Bk (Bk Tx)
open Go.Proofs.YtldllbmbcnipoaaGreatDoor.Pa (OutG OutS encX encX_map)
set_option linter.unusedVariables false

theorem n_one {B : Nat} {w : World} (h : B ≤ w.heap.size) (x : Tx) : OutS B (w.alloc (.cells #[.string (S x)] 9)) (.slice (some ⟨w.heap.size, 0, none⟩) 1 1) [x] :=
  ⟨by simp; omega, ⟨rfl, .inr ⟨w.heap.size, 1, _, rfl, h, alloc_new w _, Nat.le_refl _, by unfold maxLen; omega, rfl, rfl⟩⟩, fun _ _ _ _ => trivial⟩
theorem n_of {B : Nat} {w : World} {u : Value} {xs : List Tx} (hB : B ≤ w.heap.size) (h : w.ownsRow B 9 1 u xs.length (xs.map encStr)) : OutS B w u xs :=
  ⟨hB, by rw [encX_map]; exact h, fun _ _ _ _ => trivial⟩
theorem n_low {B B' : Nat} {w : World} {v : Value} {l : List Tx} (h : OutS B' w v l) (hB : B ≤ B') : OutS B w v l :=
  ⟨Nat.le_trans hB (OutG.size h), ⟨(OutG.own h).1, (OutG.own h).2.elim Or.inl (fun ⟨g, cap, cur, hv, hg, rest⟩ => Or.inr ⟨g, cap, cur, hv, Nat.le_trans hB hg, rest⟩)⟩, fun _ _ _ _ => trivial⟩
theorem n_empty {w : World} {B : Nat} {v : Value} {n : Nat} {xs : List Value} {i0 : TypeInfo} (hi : Tryz.prog.info? 9 = some i0) (h : w.ownsRow B 9 1 v n xs) (ty : TypeId) (ao : Option Addr) (c : Nat) :
    (Builtin.append_ #[27, 27] ty #[v, .slice ao 0 c]).run Tryz.prog w = .ok v w := by
  rcases h.2 with ⟨rfl, rfl⟩ | ⟨g, cap, cur, rfl, _, _, hnc, _⟩
  · cases ao <;> simp [Builtin.append_, run_underlying Tryz.underlying27, sizeOf, typeInfo, hi, Builtin.lenOf, Builtin.firstCells, loadCells, loadCellsFrom]
  · cases ao <;> simp [Builtin.append_, run_underlying Tryz.underlying27, sizeOf, typeInfo, hi, Builtin.lenOf, Builtin.firstCells, hnc, storeCells, loadCells, loadCellsFrom]
theorem n_cells {w : World} {b o : Nat} {xs : List Tx} (h : ∀ j x, xs[j]? = some x → w.cell? ⟨b, o + j, none⟩ = some (.string (S x))) :
    ∀ j u, (xs.map encStr)[j]? = some u → w.cell? (Addr.add ⟨b, o, none⟩ j) = some u := by
  intro j u hj
  rw [List.getElem?_map] at hj
  cases hx : xs[j]? with
  | none => rw [hx] at hj; simp at hj
  | some x =>
    rw [hx] at hj
    simp only [Option.map_some, Option.some.injEq] at hj
    subst hj
    rw [show (Addr.add ⟨b, o, none⟩ j) = ⟨b, o + j, none⟩ by simp [Addr.add]]
    exact h j x hx
theorem n_ones (xs : List Tx) : ∀ u ∈ xs.map encStr, u.oneCell' = true := by
  intro u hu
  obtain ⟨x, _, rfl⟩ := List.mem_map.1 hu
  rfl
/-- append(v, u...) of strings. -/
theorem n_app {w : World} {B : Nat} {v u : Value} {os ys : List Tx} (h : OutS B w v os) (hu : Rd w u ys) (hs : os.length + ys.length ≤ 1000000) :
    ∃ v' w', (∀ ty, (Builtin.append_ #[27, 27] ty #[v, u]).run Tryz.prog w = .ok v' w') ∧ OutS B w' v' (os ++ ys) ∧ Below B w w' := by
  have ho := OutG.own h
  rw [encX_map] at ho
  obtain ⟨i0, hi, hz0, hz1, hz2⟩ := info_parts Tk.infoS
  obtain ⟨ao, c, rfl, hc, hx⟩ := hu
  by_cases h0 : ys = []
  · subst h0
    refine ⟨v, w, fun ty => n_empty hi ho ty ao c, by rw [List.append_nil]; exact h, Below.refl _ _⟩
  · rcases hx with hx | ⟨b, o, rfl, hlt, hcell⟩
    · exact absurd hx h0
    obtain ⟨v', w', h1, h2, h3, _⟩ := run_append_own (P := Tryz.prog) w B 27 0 9 i0 (.string ⟨#[]⟩) 1 16 Tryz.underlying27 hi hz0 hz1 hz2 rfl (by decide) v os.length (os.map encStr) ho ⟨b, o, none⟩ ys.length c (ys.map encStr) (by simp) (n_cells hcell) (n_ones ys) (by unfold maxLen; omega) (by omega) (OutG.size h)
    have hb : Below B w w' := (Below.refl B w).grown h3 (OutG.size h) (fun k hk => (ho.lt k hk).1)
    refine ⟨v', w', fun ty => h1, n_of (Nat.le_trans (OutG.size h) hb.size) ?_, hb⟩
    rw [List.length_append, List.map_append]
    exact h2
/-- A call that answers strings in a row of its own. -/
def StrsA (w : World) (l : List Tx) (e : Ending) (w' : World) : Prop := ∃ v, e = .returned v ∧ OutS w.heap.size w' v l ∧ Below w.heap.size w w'
set_option maxHeartbeats 3200000 in
set_option maxRecDepth 100000 in
theorem rkeys_any (l : List Bk) (v : Value) (w : World) (htt : ttAll l ≤ 100000) (hf : Bt.fitAll 140737488355328 l) (ht : TrB w v l) :
    Calls Tryz.prog 7 #[v] w (StrsA w (keys l)) := by
  obtain ⟨ao, ca, rfl⟩ := ht.len
  have HT := Lib.hid (fun w' (h : Below w.heap.size w w') => ht.below h)
  have hlen := ht.short
  have hll := tt_len l
  have HK := Lib.hid (fun k (hk : k < l.length) (al as' ak : Option Addr) (cl cs ck : Nat) (w' : World) (h1 : Rd w' (.slice al l[k].lines.length cl) l[k].lines) (h2 : Tr w' (.slice as' l[k].spans.length cs) l[k].spans) (h3 : TrB w' (.slice ak l[k].kids.length ck) l[k].kids) => by
    have hm := List.getElem_mem hk
    have h := ttAll_mem hm
    exact rkey_any (szOne l[k]) l[k] al as' ak cl cs ck w' (Nat.le_refl _) (by omega) (Bt.fitAll_at hf _ hm) h1 h2 h3)
  have H0 : Hid (OutS w.heap.size w (.slice none 0 0) ((keys l).take 0)) := Lib.hid (by rw [List.take_zero]; exact OutG.nil (Nat.le_refl _))
  have HTk := Lib.hid (fun k (hk : k < (keys l).length) => List.take_succ_eq_append_getElem hk)
  have hkl : (keys l).length = l.length := List.length_map ..
  have HG := Lib.hid (fun k (hk : k < l.length) => show (keys l)[k]'(by rw [hkl]; exact hk) = bk1 l[k] from List.getElem_map ..)
  have la : l.length ≤ 100000 := by omega
  unfold StrA at HK
  unfold StrsA
  clear ht hf htt
  go_enter Tryz.func7, Tryz.ntmps7
  go_wp2_with fail
  go_loopw [3, 7] (fun v i wr => ∃ k : Nat, k ≤ l.length ∧ i = .int .i64 k ∧ Hid (OutS w.heap.size wr v ((keys l).take k)) ∧ Hid (Below w.heap.size w wr)) (fun _ i _ => l.length - (intOf i).toNat)
  case atStart => exact ⟨0, Nat.zero_le _, rfl, H0, Lib.hid (Below.refl _ _)⟩
  case round =>
    clear H0
    obtain ⟨k, hk, rfl, HO, HB⟩ := hrel
    by_cases hlt : k < l.length
    · have hi1 : (k : Int) < (l.length : Int) := by omega
      obtain ⟨b, o, vl, vs, ak, ck, rfl, hb, hC⟩ := (HT.out _ HB.out).at k hlt
      obtain ⟨al, cl, rfl⟩ := hC.rd.len
      obtain ⟨as', cs, rfl⟩ := hC.sp.len
      have c0 := hC.kind
      have c1 := hC.level
      have c2 := hC.info
      have c3 := hC.lines
      have c4 := hC.spans
      have c5 := hC.kids
      have HKw := Lib.hid (HK.out k hlt al as' ak cl cs ck _ hC.rd hC.sp hC.tr)
      have hn := HTk.out k (by omega)
      rw [HG.out k hlt] at hn
      have HN := Lib.hid hn
      clear hC HT HK HTk HG hn
      generalize bk1 l[k] = y at *
      generalize l[k].kids.length = kn at *
      generalize l[k].spans.length = sn at *
      generalize l[k].lines.length = ln at *
      generalize S l[k].info = si at *
      generalize l[k].level = lv at *
      generalize l[k].kind = z at *
      go_wp2_with fail
      refine HKw.out.mono ?_
      rintro e w5 ⟨rfl, b5⟩
      have hO5 := OutG.go HO.out (Keep.of_below b5)
      obtain ⟨v6, w6, hr6, ho6, hk6⟩ := OutS.push hO5 y (by rw [List.length_take]; omega)
      have HO6 : Hid (OutS w.heap.size w6 v6 ((keys l).take (k + 1))) := Lib.hid (by rw [HN.out]; exact ho6)
      have HB6 := Lib.hid ((HB.out.trans (b5.mono HB.out.size)).trans (OutG.below hO5 hk6))
      clear b5 hO5 ho6 hk6 HKw HO HB HN c0 c1 c2 c3 c4 c5
      go_wp2_with (at_builtin; refine Lib.wpList_append_run _ rfl _ _ _ _ rfl _ _ rfl rfl _ _ (hr6 _) ?_)
      go_roundw
      case rel => exact ⟨k + 1, by omega, by go_num, HO6, HB6⟩
      case measure => simp [intOf] <;> omega
    · obtain rfl : k = l.length := by omega
      have hi1 : ¬ (l.length : Int) < (l.length : Int) := by omega
      have HR : Hid (OutS w.heap.size _ _ (keys l)) := Lib.hid (by
        have h := HO.out
        rw [List.take_of_length_le (by omega)] at h
        exact h)
      clear HO HT HK HTk HG
      go_wp2_with fail
      go_ret
      exact ⟨_, rfl, HR.out, HB.out⟩

/-! Parts. -/
def RdA (w : World) (l : List Tx) (e : Ending) (w' : World) : Prop := ∃ v, e = .returned v ∧ Rd w' v l ∧ Below w.heap.size w w'
theorem plAll_tot : ∀ l : List Sp, (plAll l).length ≤ totAll l := Sp.plAll_len
set_option maxHeartbeats 3200000 in
theorem rparts_any (x : Bk) (al as' ak : Option Addr) (cl cs ck : Nat) (w : World) (htt : ttOne x ≤ 100000) (hf : Bt.fitOne 140737488355328 x) (hrd : Rd w (.slice al x.lines.length cl) x.lines) (hsp : Tr w (.slice as' x.spans.length cs) x.spans) (htr : TrB w (.slice ak x.kids.length ck) x.kids) :
    Calls Tryz.prog 25 #[.agg #[.int .i64 x.kind, .int .i64 x.level, .string (S x.info), .slice al x.lines.length cl, .slice as' x.spans.length cs, .slice ak x.kids.length ck]] w (RdA w (pt x)) := by
  obtain ⟨q, lv, i, lns, ss, l⟩ := x
  have ept : pt (.mk q lv i lns ss l) = (if q = 1 ∨ q = 2 then Tk.toks (plAll ss) else if q = 4 then lns else if q = 5 ∨ q = 6 ∨ q = 7 then keys l else if q = 8 then i :: lns else []) := rfl
  rw [ept]
  simp only [Bk.kind, Bk.level, Bk.info, Bk.lines, Bk.spans, Bk.kids] at hrd hsp htr ⊢
  rw [ttOne] at htt
  rw [Bt.fitOne] at hf
  have HB1 := Lib.hid ((Below.refl w.heap.size w).alloc (Nat.le_refl _) (.cells #[.int .i64 q, .int .i64 lv, .string (S i), .slice al lns.length cl, .slice as' ss.length cs, .slice ak l.length ck] 35))
  have HC1 := Lib.hid (alloc_new w (.cells #[.int .i64 q, .int .i64 lv, .string (S i), .slice al lns.length cl, .slice as' ss.length cs, .slice ak l.length ck] 35))
  have HRd := Lib.hid (fun w' (h : Below w.heap.size w w') => hrd.below h)
  have HP := Lib.hid (fun w' (h : Below w.heap.size w w') => Sp.rplain_any (totAll ss) ss _ w' (Nat.le_refl _) (by omega) (hsp.below h))
  have hpl := plAll_tot ss
  have HCu := Lib.hid (fun w' => Tk.rcut_any (S (plAll ss)) (by rw [S_size]; omega) w')
  have HKs := Lib.hid (fun w' (h : Below w.heap.size w w') => rkeys_any l _ w' (by omega) hf.2.2.2.2.2 (htr.below h))
  have lln := ln_len lns
  have la : lns.length ≤ 100000 := by omega
  simp only [S_list] at HCu
  unfold StrsA at HKs
  unfold RdA
  clear hrd hsp htr hf htt hpl lln
  by_cases h12 : q = 1 ∨ q = 2
  · rw [if_pos h12]
    clear HKs HRd
    rcases h12 with h | h
    all_goals (
      subst h
      go_enter Tryz.func25, Tryz.ntmps25
      go_upto_region 1 with fail
      have k0 := cell_at HC1.out 0
      have k4 := cell_at HC1.out 4
      go_wp2_with fail
      refine (HP.out _ HB1.out).mono ?_
      rintro e w2 ⟨rfl, rfl⟩
      go_wp2_with fail
      refine (HCu.out _).mono ?_
      rintro e w3 ⟨v, rfl, hown, b3⟩
      have HR := Lib.hid (Rd.of_own hown)
      have HB3 := Lib.hid (HB1.out.trans (b3.mono HB1.out.size))
      clear hown b3
      go_wp2_with fail
      go_ret
      exact ⟨_, rfl, HR.out, HB3.out⟩)
  rw [if_neg h12]
  have e1 : (q == 1) = false := by rw [beq_eq_false_iff_ne]; omega
  have e2 : (q == 2) = false := by rw [beq_eq_false_iff_ne]; omega
  by_cases h4 : q = 4
  · rw [if_pos h4]
    subst h4
    have HR := Lib.hid (HRd.out _ HB1.out)
    clear HP HCu HKs HRd e1 e2 h12
    go_enter Tryz.func25, Tryz.ntmps25
    go_upto_region 1 with fail
    have k0 := cell_at HC1.out 0
    have k3 := cell_at HC1.out 3
    go_wp2_with fail
    go_ret
    exact ⟨_, rfl, HR.out, HB1.out⟩
  rw [if_neg h4]
  have e4 : (q == 4) = false := by rw [beq_eq_false_iff_ne]; exact h4
  by_cases h5 : q = 5 ∨ q = 6 ∨ q = 7
  · rw [if_pos h5]
    have HKw := Lib.hid (HKs.out _ HB1.out)
    clear HP HCu HRd HKs e1 e2 e4 h12 h4
    rcases h5 with h | h | h
    all_goals (
      subst h
      go_enter Tryz.func25, Tryz.ntmps25
      go_upto_region 1 with fail
      have k0 := cell_at HC1.out 0
      have k5 := cell_at HC1.out 5
      go_wp2_with fail
      refine HKw.out.mono ?_
      rintro e w3 ⟨v, rfl, ho, b3⟩
      have HR := Lib.hid (OutS.rd ho)
      have HB3 := Lib.hid (HB1.out.trans (b3.mono HB1.out.size))
      clear ho b3
      go_wp2_with fail
      go_ret
      exact ⟨_, rfl, HR.out, HB3.out⟩)
  rw [if_neg h5]
  have e5 : (q == 5) = false := by rw [beq_eq_false_iff_ne]; omega
  have e6 : (q == 6) = false := by rw [beq_eq_false_iff_ne]; omega
  have e7 : (q == 7) = false := by rw [beq_eq_false_iff_ne]; omega
  by_cases h8 : q = 8
  · rw [if_pos h8]
    subst h8
    clear HP HCu HKs e1 e2 e4 e5 e6 e7 h12 h4 h5
    go_enter Tryz.func25, Tryz.ntmps25
    go_upto_region 1 with fail
    generalize w.alloc (.cells #[.int .i64 8, .int .i64 lv, .string (S i), .slice al lns.length cl, .slice as' ss.length cs, .slice ak l.length ck] 35) = w1 at *
    have hO2 := n_one HB1.out.size i
    have hB2 := HB1.out.alloc HB1.out.size (.cells #[.string (S i)] 9)
    have hC2 := Cm.alloc_at HC1.out (.cells #[.string (S i)] 9)
    obtain ⟨v3, w3, hr3, ho3, hb3⟩ := n_app hO2 (HRd.out _ hB2) (by simp only [List.length_cons, List.length_nil]; omega)
    have HR := Lib.hid (OutS.rd ho3)
    have HB3 := Lib.hid (hB2.trans hb3)
    have k0 : w1.cell? ⟨w.heap.size, 0, none⟩ = some (.int .i64 8) := cell_at HC1.out 0
    have k2 : w1.cell? ⟨w.heap.size, 2, none⟩ = some (.string (S i)) := cell_at HC1.out 2
    have j3 : (w1.alloc (.cells #[.string (S i)] 9)).cell? ⟨w.heap.size, 3, none⟩ = some (.slice al lns.length cl) := cell_at hC2 3
    have k3 : w1.cell? ⟨w.heap.size, 3, none⟩ = some (.slice al lns.length cl) := cell_at HC1.out 3
    clear hC2 hO2 ho3 hb3 hB2 HRd HC1 HB1
    go_wp2_with (at_builtin; refine Lib.wpList_append_run _ rfl _ _ _ _ rfl _ _ rfl rfl _ _ (hr3 _) ?_)
    go_ret
    exact ⟨_, rfl, HR.out, HB3.out⟩
  · rw [if_neg h8]
    have e8 : (q == 8) = false := by rw [beq_eq_false_iff_ne]; exact h8
    clear HP HCu HRd HKs h12 h4 h5 h8
    go_enter Tryz.func25, Tryz.ntmps25
    go_upto_region 1 with fail
    have k0 := cell_at HC1.out 0
    go_wp2_with fail
    go_ret
    exact ⟨_, rfl, ⟨none, 0, rfl, Nat.le_refl _, Or.inl rfl⟩, HB1.out⟩
end Go.Proofs.YtldllbmbcnipoaaGreatDoor.Nm
