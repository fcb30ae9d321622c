/-
  CONTRACTS of the document's texts and Same (emendationref10).
-/
import Derived.Test.YtldllbmbcnipoaaDoorPkND
import Derived.Test.YtldllbmbcnipoaaDoorPkNF
import Derived.Deep.Cut
import Derived.Deep.CutRange
import Derived.Deep.CutBlock
namespace Go.Proofs.YtldllbmbcnipoaaDoor.Bt
open Go.RowKit
open Go.Proofs.YtldllbmbcnipoaaDoor.Tk (S S_of S_list S_size S_toList ret_int Rd get_lt take_next take_off)
open Go.Proofs.YtldllbmbcnipoaaDoor.Cm (calls_at alloc_new alloc_at cell_at)
open Go.Proofs.YtldllbmbcnipoaaDoor.Sp (Sp Tr ret_bool OkAns smAll rsame_any totAll)
open Go.Proofs.YtldllbmbcnipoaaDoor.Bk (Bk)
set_option linter.unusedVariables false

mutual
def smOne : Bk → Bk → Bool
  | .mk k lv i ls ss l, .mk q lw j ms tt m => decide (k = q) && decide (lv = lw) && decide (i = j) && decide (ls = ms) && smAll ss tt && smB l m
def smB : List Bk → List Bk → Bool
  | [], [] => true
  | x :: r, y :: t => smOne x y && smB r t
  | _, _ => false
end
theorem smOne_eq (x y : Bk) : smOne x y = (decide (x.kind = y.kind) && decide (x.level = y.level) && decide (x.info = y.info) && decide (x.lines = y.lines) && smAll x.spans y.spans && smB x.kids y.kids) := by
  obtain ⟨k, lv, i, ls, ss, l⟩ := x
  obtain ⟨q, lw, j, ms, tt, m⟩ := y
  rw [smOne]
  rfl
theorem smB_cons (x y : Bk) (r t : List Bk) : smB (x :: r) (y :: t) = (smOne x y && smB r t) := by rw [smB]
mutual
theorem smOne_iff : ∀ x y : Bk, smOne x y = true ↔ x = y
  | .mk k lv i ls ss l, .mk q lw j ms tt m => by
    rw [smOne, Bool.and_eq_true, Bool.and_eq_true, Bool.and_eq_true, Bool.and_eq_true, Bool.and_eq_true, decide_eq_true_iff, decide_eq_true_iff, decide_eq_true_iff, decide_eq_true_iff, Sp.smAll_iff ss tt, smB_iff l m]
    simp [and_assoc]
theorem smB_iff : ∀ a b : List Bk, smB a b = true ↔ a = b
  | [], [] => by simp [smB]
  | [], _ :: _ => by simp [smB]
  | _ :: _, [] => by simp [smB]
  | x :: r, y :: t => by
    rw [smB_cons, Bool.and_eq_true, smOne_iff x y, smB_iff r t]
    simp
end
theorem smB_len : ∀ a b : List Bk, a.length ≠ b.length → smB a b = false
  | [], [], h => absurd rfl h
  | [], _ :: _, _ => by simp [smB]
  | _ :: _, [], _ => by simp [smB]
  | x :: r, y :: t, h => by
    rw [smB_cons, smB_len r t (by simpa using h), Bool.and_false]

set_option maxHeartbeats 800000 in
theorem texts_any (a b : Value) (xs ys : List (List UInt8)) (w : World) (ha : Rd w a xs) (hb : Rd w b ys) (hx : xs.length ≤ 9223372036854775807) (hy : ys.length ≤ 9223372036854775807) :
    Calls Tryd.prog 17 #[a, b] w fun e w' => e = .returned (.bool (decide (xs = ys))) ∧ ∃ n, w' = w.drewN n := by
  obtain ⟨ao, ca, rfl, hca, hax⟩ := ha
  obtain ⟨bo, cb, rfl, hcb, hbx⟩ := hb
  by_cases hl : xs.length = ys.length
  · have e0 : ((xs.length : Int) != (ys.length : Int)) = false := by simp [hl]
    by_cases h0 : xs = []
    · have Hf : Hid (decide (xs = ys) = true) := Lib.hid (by subst h0; simpa using (List.eq_nil_of_length_eq_zero hl.symm))
      have hz : xs.length = 0 := by rw [h0]; rfl
      have hz2 : ys.length = 0 := by omega
      rw [hz, hz2]
      obtain ⟨X, hX⟩ : ∃ X, decide (xs = ys) = X := ⟨_, rfl⟩
      rw [hX] at Hf ⊢
      clear hax hbx h0 e0 hl hX
      go_enter Tryd.func17, Tryd.ntmps17
      go_wp2_with fail
      go_loop [13] (fun i => i = .int .i64 0) (fun i => 0)
      case atStart => rfl
      case round =>
        subst hrel
        go_wp2_with fail
        go_ret
        exact ⟨ret_bool Hf.out.symm, 0, rfl⟩
    · rcases hax with hax | ⟨b1, o1, rfl, hb1, hc1⟩
      · exact absurd hax h0
      rcases hbx with hbx | ⟨b2, o2, rfl, hb2, hc2⟩
      · exact absurd (List.eq_nil_of_length_eq_zero (by rw [hl, hbx]; rfl)) h0
      have H1 := Lib.hid hc1
      have H2 := Lib.hid hc2
      have HE : Hid (xs.take xs.length = ys.take xs.length → decide (xs = ys) = true) := Lib.hid (fun h => decide_eq_true (by rwa [List.take_of_length_le (by omega), List.take_of_length_le (by omega)] at h))
      have HO : Hid (∀ k (hk : k < xs.length) (hk2 : k < ys.length), xs[k] ≠ ys[k] → decide (xs = ys) = false) := Lib.hid (fun k hk hk2 he => decide_eq_false (take_off hk hk2 he))
      obtain ⟨X, hX⟩ : ∃ X, decide (xs = ys) = X := ⟨_, rfl⟩
      rw [hX] at HE HO ⊢
      clear hc1 hc2 h0 hX
      go_enter Tryd.func17, Tryd.ntmps17
      go_wp2_with fail
      go_loopw [13] (fun i wr => ∃ k n : Nat, k ≤ xs.length ∧ i = .int .i64 k ∧ wr = w.drewN n ∧ Hid (xs.take k = ys.take k)) (fun i _ => xs.length - (intOf i).toNat)
      case atStart => exact ⟨0, 0, Nat.zero_le _, rfl, rfl, Lib.hid rfl⟩
      case round =>
        obtain ⟨k, n, hk, rfl, hwr, HT⟩ := hrel
        have HW := Lib.hid hwr
        by_cases hlt : k < xs.length
        · have hlt2 : k < ys.length := by omega
          have hbel : Below w.heap.size w wr := by rw [hwr]; exact below_drewN (Below.refl _ _) n
          have k1 : wr.cell? ⟨b1, o1 + k, none⟩ = some (.string (S xs[k])) := (hbel.cell (by exact hb1)).trans (H1.out k _ (get_lt hlt))
          have k2 : wr.cell? ⟨b2, o2 + k, none⟩ = some (.string (S ys[k])) := (hbel.cell (by exact hb2)).trans (H2.out k _ (get_lt hlt2))
          by_cases he : xs[k] = ys[k]
          · have HT2 := Lib.hid (take_next hlt hlt2 HT.out he)
            have e1 : ((S xs[k]).toList == (S ys[k]).toList) = true := by rw [he]; simp
            have e1' : ((S xs[k]).toList != (S ys[k]).toList) = false := by rw [he]; simp
            clear hbel HT he hwr
            generalize xs[k] = x at *
            generalize ys[k] = y at *
            go_wp2_with fail
            go_quiet (fail)
            go_wp2_with fail
            go_roundw
            case rel => exact ⟨k + 1, n + nq, by omega, by go_num, by rw [HW.out, World.drewN_drewN], HT2⟩
            case measure => simp [intOf] <;> omega
          · have Hf := Lib.hid (HO.out k hlt hlt2 he)
            have e1 : ((S xs[k]).toList == (S ys[k]).toList) = false := by rw [S_toList, S_toList]; simpa using he
            have e1' : ((S xs[k]).toList != (S ys[k]).toList) = true := by rw [S_toList, S_toList]; simpa using he
            clear hbel HT he hwr
            generalize xs[k] = x at *
            generalize ys[k] = y at *
            go_wp2_with fail
            go_quiet (fail)
            go_wp2_with fail
            go_ret
            exact ⟨ret_bool Hf.out.symm, n + nq, by rw [HW.out, World.drewN_drewN]⟩
        · obtain rfl : k = xs.length := by omega
          have Hf := Lib.hid (HE.out HT.out)
          clear HT hwr
          go_wp2_with fail
          go_ret
          exact ⟨ret_bool Hf.out.symm, n, HW.out⟩
  · have e0 : ((xs.length : Int) != (ys.length : Int)) = true := by simp; omega
    have Hf : Hid (decide (xs = ys) = false) := Lib.hid (decide_eq_false (fun h => hl (by rw [h])))
    obtain ⟨X, hX⟩ : ∃ X, decide (xs = ys) = X := ⟨_, rfl⟩
    rw [hX] at Hf ⊢
    clear hax hbx hl hX
    go_enter Tryd.func17, Tryd.ntmps17
    go_wp2_with fail
    go_ret
    exact ⟨ret_bool Hf.out.symm, 0, rfl⟩

set_option maxHeartbeats 12800000 in
set_option maxRecDepth 100000 in
theorem rsameB_any (m : Nat) : ∀ (a b : List Bk) (va vb : Value) (w : World), szAll a ≤ m → TrB w va a → TrB w vb b →
    Calls Tryd.prog 10 #[va, vb] w (OkAns w (smB a b)) := by
  induction m using Nat.strongRecOn with
  | ind m ih =>
    intro a b va vb w hm ta tb
    obtain ⟨ao, ca, rfl⟩ := ta.len
    obtain ⟨bo, cb, rfl⟩ := tb.len
    have TA := Lib.hid ta
    have TB := Lib.hid tb
    have hla := ta.short
    have hlb := tb.short
    by_cases hl : a.length = b.length
    · have e0 : ((a.length : Int) != (b.length : Int)) = false := by simp [hl]
      have HIH : Hid (∀ k (hk : k < a.length) (l2 : List Bk) (v1 v2 : Value) (w' : World), TrB w' v1 a[k].kids → TrB w' v2 l2 → Calls Tryd.prog 10 #[v1, v2] w' (OkAns w' (smB a[k].kids l2))) := Lib.hid (fun k hk l2 v1 v2 w' t1 t2 =>
        ih (szAll a[k].kids) (Nat.lt_of_lt_of_le (szAll_kids (List.getElem_mem hk)) hm) a[k].kids l2 v1 v2 w' (Nat.le_refl _) t1 t2)
      have H0 : Hid (smB a b = smB (a.drop 0) (b.drop 0)) := Lib.hid (by rw [List.drop_zero, List.drop_zero])
      obtain ⟨X, hX⟩ : ∃ X, smB a b = X := ⟨_, rfl⟩
      rw [hX] at H0
      rw [hX]
      have HLn := Lib.hid hl
      clear ih ta tb hm hX hl
      go_enter Tryd.func10, Tryd.ntmps10
      go_wp2_with fail
      go_loopw [15] (fun i wr => ∃ k : Nat, k ≤ a.length ∧ i = .int .i64 k ∧ Hid (Below w.heap.size w wr) ∧ Hid (X = smB (a.drop k) (b.drop k))) (fun i _ => a.length - (intOf i).toNat)
      case atStart => exact ⟨0, Nat.zero_le _, rfl, Lib.hid (Below.refl _ _), H0⟩
      case round =>
        clear H0
        obtain ⟨k, hk, rfl, HB, HN⟩ := hrel
        by_cases hlt : k < a.length
        · have hlt2 : k < b.length := by have := HLn.out; omega
          have hnx := HN.out
          rw [drop_cons a k hlt, drop_cons b k hlt2, smB_cons, smOne_eq] at hnx
          have hi1 : (k : Int) < (a.length : Int) := by omega
          have hi2 : (k : Int) < (b.length : Int) := by have := HLn.out; omega
          obtain ⟨b1, o1, vl1, vs1, ak1, ck1, rfl, hb1, hC1⟩ := (TA.out.below HB.out).at k hlt
          obtain ⟨b2, o2, vl2, vs2, ak2, ck2, rfl, hb2, hC2⟩ := (TB.out.below HB.out).at k hlt2
          obtain ⟨al1, cl1, rfl⟩ := hC1.rd.len
          obtain ⟨al2, cl2, rfl⟩ := hC2.rd.len
          obtain ⟨as1, cs1, rfl⟩ := hC1.sp.len
          obtain ⟨as2, cs2, rfl⟩ := hC2.sp.len
          have c0 := hC1.kind
          have c1 := hC1.level
          have c2 := hC1.info
          have c3 := hC1.lines
          have c4 := hC1.spans
          have c5 := hC1.kids
          have d0 := hC2.kind
          have d1 := hC2.level
          have d2 := hC2.info
          have d3 := hC2.lines
          have d4 := hC2.spans
          have d5 := hC2.kids
          have HL := Lib.hid (fun wc (h : Below wr.heap.size wr wc) => texts_any _ _ a[k].lines b[k].lines wc (hC1.rd.below h) (hC2.rd.below h) hC1.short hC2.short)
          have HS := Lib.hid (fun wc (h : Below wr.heap.size wr wc) => rsame_any (totAll a[k].spans) a[k].spans b[k].spans _ _ wc (Nat.le_refl _) (hC1.sp.below h) (hC2.sp.below h))
          have HC := Lib.hid (fun wc (h : Below wr.heap.size wr wc) => HIH.out k hlt b[k].kids _ _ wc (hC1.tr.below h) (hC2.tr.below h))
          have HQ := Lib.hid hnx
          have hs1 := S_toList a[k].info
          have hs2 := S_toList b[k].info
          clear hnx HN hC1 hC2
          generalize smB a[k].kids b[k].kids = y at *
          generalize smAll a[k].spans b[k].spans = ys at *
          generalize decide (a[k].lines = b[k].lines) = yl at *
          generalize a[k].kids.length = kn1 at *
          generalize a[k].lines.length = ln1 at *
          generalize b[k].lines.length = ln2 at *
          generalize a[k].spans.length = sn1 at *
          generalize b[k].spans.length = sn2 at *
          generalize b[k].kids.length = kn2 at *
          generalize a[k].kind = z1 at *
          generalize b[k].kind = z2 at *
          generalize a[k].level = y1 at *
          generalize b[k].level = y2 at *
          generalize a[k].info = i1 at *
          generalize b[k].info = i2 at *
          obtain ⟨s1, hS1⟩ : ∃ s, S i1 = s := ⟨_, rfl⟩
          obtain ⟨s2, hS2⟩ : ∃ s, S i2 = s := ⟨_, rfl⟩
          rw [hS1] at c2 hs1
          rw [hS2] at d2 hs2
          clear hS1 hS2
          go_upto_region 6 with fail
          go_cut [6, 7, 15] from 15 to 69 (fun pa pb ci wx => ci = .int .i64 k ∧ ∃ PA PB : Nat, pa = .pointer (some ⟨PA, 0, none⟩) ∧ pb = .pointer (some ⟨PB, 0, none⟩) ∧ Hid (wx.heap[PA]? = some (.cells #[.int .i64 z1, .int .i64 y1, .string s1, .slice al1 ln1 cl1, .slice as1 sn1 cs1, .slice ak1 kn1 ck1] 33 (0, 0))) ∧ Hid (wx.heap[PB]? = some (.cells #[.int .i64 z2, .int .i64 y2, .string s2, .slice al2 ln2 cl2, .slice as2 sn2 cs2, .slice ak2 kn2 ck2] 33 (0, 0))) ∧ Hid (Below wr.heap.size wr wx))
          case first =>
            clear HL HS HC HQ HIH TA TB HB hs1 hs2
            have sz : ∀ o : Obj, (wr.alloc o).heap.size = wr.heap.size + 1 := fun o => by simp
            go_region
            · have hA := alloc_at (alloc_new wr (.cells #[.int .i64 z1, .int .i64 y1, .string s1, .slice al1 ln1 cl1, .slice as1 sn1 cs1, .slice ak1 kn1 ck1] 33)) (.cells #[.int .i64 z2, .int .i64 y2, .string s2, .slice al2 ln2 cl2, .slice as2 sn2 cs2, .slice ak2 kn2 ck2] 33)
              have hB := alloc_new (wr.alloc (.cells #[.int .i64 z1, .int .i64 y1, .string s1, .slice al1 ln1 cl1, .slice as1 sn1 cs1, .slice ak1 kn1 ck1] 33)) (.cells #[.int .i64 z2, .int .i64 y2, .string s2, .slice al2 ln2 cl2, .slice as2 sn2 cs2, .slice ak2 kn2 ck2] 33)
              rw [sz] at hB
              have hZ := Lib.hid ((((Below.refl wr.heap.size wr).alloc (Nat.le_refl _) (.cells #[.int .i64 z1, .int .i64 y1, .string s1, .slice al1 ln1 cl1, .slice as1 sn1 cs1, .slice ak1 kn1 ck1] 33)).alloc (by rw [sz]; omega) (.cells #[.int .i64 z2, .int .i64 y2, .string s2, .slice al2 ln2 cl2, .slice as2 sn2 cs2, .slice ak2 kn2 ck2] 33)).drew)
              have hA' := Lib.hid hA
              have hB' := Lib.hid hB
              clear hA hB sz
              go_wp2_with fail
              go_meet
              exact ⟨rfl, _, _, rfl, rfl, Lib.hid hA'.out, Lib.hid hB'.out, hZ⟩
            · have hA := alloc_at (alloc_new wr (.cells #[.int .i64 z2, .int .i64 y2, .string s2, .slice al2 ln2 cl2, .slice as2 sn2 cs2, .slice ak2 kn2 ck2] 33)) (.cells #[.int .i64 z1, .int .i64 y1, .string s1, .slice al1 ln1 cl1, .slice as1 sn1 cs1, .slice ak1 kn1 ck1] 33)
              have hB := alloc_new (wr.alloc (.cells #[.int .i64 z2, .int .i64 y2, .string s2, .slice al2 ln2 cl2, .slice as2 sn2 cs2, .slice ak2 kn2 ck2] 33)) (.cells #[.int .i64 z1, .int .i64 y1, .string s1, .slice al1 ln1 cl1, .slice as1 sn1 cs1, .slice ak1 kn1 ck1] 33)
              rw [sz] at hB
              have hZ := Lib.hid ((((Below.refl wr.heap.size wr).alloc (Nat.le_refl _) (.cells #[.int .i64 z2, .int .i64 y2, .string s2, .slice al2 ln2 cl2, .slice as2 sn2 cs2, .slice ak2 kn2 ck2] 33)).alloc (by rw [sz]; omega) (.cells #[.int .i64 z1, .int .i64 y1, .string s1, .slice al1 ln1 cl1, .slice as1 sn1 cs1, .slice ak1 kn1 ck1] 33)).drew)
              have hA' := Lib.hid hA
              have hB' := Lib.hid hB
              clear hA hB sz
              go_wp2_with fail
              go_meet
              exact ⟨rfl, _, _, rfl, rfl, Lib.hid hB'.out, Lib.hid hA'.out, hZ⟩
          case rest =>
            obtain ⟨rfl, PA, PB, rfl, rfl, HPA, HPB, HB5⟩ := hcut
            have a0 : wc.cell? ⟨PA, 0, none⟩ = some (.int .i64 z1) := cell_at HPA.out 0
            have a1 : wc.cell? ⟨PA, 1, none⟩ = some (.int .i64 y1) := cell_at HPA.out 1
            have a2 : wc.cell? ⟨PA, 2, none⟩ = some (.string s1) := cell_at HPA.out 2
            have a3 : wc.cell? ⟨PA, 3, none⟩ = some (.slice al1 ln1 cl1) := cell_at HPA.out 3
            have a4 : wc.cell? ⟨PA, 4, none⟩ = some (.slice as1 sn1 cs1) := cell_at HPA.out 4
            have a5 : wc.cell? ⟨PA, 5, none⟩ = some (.slice ak1 kn1 ck1) := cell_at HPA.out 5
            have b0 : wc.cell? ⟨PB, 0, none⟩ = some (.int .i64 z2) := cell_at HPB.out 0
            have b1' : wc.cell? ⟨PB, 1, none⟩ = some (.int .i64 y2) := cell_at HPB.out 1
            have b2' : wc.cell? ⟨PB, 2, none⟩ = some (.string s2) := cell_at HPB.out 2
            have b3 : wc.cell? ⟨PB, 3, none⟩ = some (.slice al2 ln2 cl2) := cell_at HPB.out 3
            have b4 : wc.cell? ⟨PB, 4, none⟩ = some (.slice as2 sn2 cs2) := cell_at HPB.out 4
            have b5 : wc.cell? ⟨PB, 5, none⟩ = some (.slice ak2 kn2 ck2) := cell_at HPB.out 5
            have HBw := Lib.hid (HB.out.trans (HB5.out.mono HB.out.size))
            have HK := Lib.hid (fun n => (⟨cell_at (show (wc.drewN n).heap[PA]? = _ from HPA.out) 4, cell_at (show (wc.drewN n).heap[PA]? = _ from HPA.out) 5, cell_at (show (wc.drewN n).heap[PB]? = _ from HPB.out) 4, cell_at (show (wc.drewN n).heap[PB]? = _ from HPB.out) 5⟩ : (wc.drewN n).cell? ⟨PA, 4, none⟩ = some (.slice as1 sn1 cs1) ∧ (wc.drewN n).cell? ⟨PA, 5, none⟩ = some (.slice ak1 kn1 ck1) ∧ (wc.drewN n).cell? ⟨PB, 4, none⟩ = some (.slice as2 sn2 cs2) ∧ (wc.drewN n).cell? ⟨PB, 5, none⟩ = some (.slice ak2 kn2 ck2)))
            clear HPA HPB c0 c1 c2 c3 c4 c5 d0 d1 d2 d3 d4 d5 TA TB
            by_cases hz : z1 = z2
            · have e1 : (z1 != z2) = false := by simp [hz]
              by_cases hy : y1 = y2
              · have e2 : (y1 != y2) = false := by simp [hy]
                by_cases hs : i1 = i2
                · have e3 : (s1.toList == s2.toList) = true := by rw [hs1, hs2, hs]; simp
                  have e3' : (s1.toList != s2.toList) = false := by rw [hs1, hs2, hs]; simp
                  have HQ2 : Hid (X = (yl && ys && y && smB (a.drop (k + 1)) (b.drop (k + 1)))) := Lib.hid (by rw [HQ.out, decide_eq_true hz, decide_eq_true hy, decide_eq_true hs]; simp)
                  clear HQ hz hy hs hs1 hs2
                  go_wp2_with fail
                  refine (HL.out _ HB5.out).mono ?_
                  rintro e w6 ⟨rfl, n6, rfl⟩
                  obtain ⟨p4, p5, p4', p5'⟩ := HK.out n6
                  have HB6 := Lib.hid (below_drewN HB5.out n6)
                  have HW6 := Lib.hid (below_drewN HBw.out n6)
                  clear HL
                  cases yl with
                  | false =>
                    have HR : Hid (X = false) := Lib.hid (by rw [HQ2.out]; simp)
                    go_wp2_with fail
                    go_ret
                    exact ⟨ret_bool HR.out.symm, HW6.out⟩
                  | true =>
                    go_wp2_with fail
                    refine (HS.out _ HB6.out).mono ?_
                    rintro e w7 ⟨rfl, n7, rfl⟩
                    rw [World.drewN_drewN]
                    obtain ⟨q4, q5, q4', q5'⟩ := HK.out (n6 + n7)
                    have HB7 := Lib.hid (below_drewN HB5.out (n6 + n7))
                    have HW7 := Lib.hid (below_drewN HBw.out (n6 + n7))
                    clear HS
                    cases ys with
                    | false =>
                      have HR : Hid (X = false) := Lib.hid (by rw [HQ2.out]; simp)
                      go_wp2_with fail
                      go_ret
                      exact ⟨ret_bool HR.out.symm, HW7.out⟩
                    | true =>
                      go_wp2_with fail
                      refine (HC.out _ HB7.out).mono ?_
                      rintro e w8 ⟨rfl, b8⟩
                      have HW8 := Lib.hid (HW7.out.trans (b8.mono HW7.out.size))
                      clear HC b8
                      cases y with
                      | false =>
                        have HR : Hid (X = false) := Lib.hid (by rw [HQ2.out]; simp)
                        go_wp2_with fail
                        go_ret
                        exact ⟨ret_bool HR.out.symm, HW8.out⟩
                      | true =>
                        have HR : Hid (X = smB (a.drop (k + 1)) (b.drop (k + 1))) := Lib.hid (by rw [HQ2.out]; simp)
                        go_wp2_with fail
                        go_roundw
                        case rel => exact ⟨k + 1, by omega, by go_num, HW8, HR⟩
                        case measure => simp [intOf] <;> omega
                · have e3 : (s1.toList == s2.toList) = false := by rw [hs1, hs2]; simpa using hs
                  have e3' : (s1.toList != s2.toList) = true := by rw [hs1, hs2]; simpa using hs
                  have HR : Hid (X = false) := Lib.hid (by rw [HQ.out, decide_eq_false hs]; simp)
                  clear HQ hz hy hs hs1 hs2 HL HS HC HK
                  go_wp2_with fail
                  go_ret
                  exact ⟨ret_bool HR.out.symm, HBw.out⟩
              · have e2 : (y1 != y2) = true := by rw [bne_iff_ne]; exact hy
                have HR : Hid (X = false) := Lib.hid (by rw [HQ.out, decide_eq_false hy]; simp)
                clear HQ hz hy hs1 hs2 HL HS HC HK
                go_wp2_with fail
                go_ret
                exact ⟨ret_bool HR.out.symm, HBw.out⟩
            · have e1 : (z1 != z2) = true := by rw [bne_iff_ne]; exact hz
              have HR : Hid (X = false) := Lib.hid (by rw [HQ.out, decide_eq_false hz]; simp)
              clear HQ hz hs1 hs2 HL HS HC HK
              go_wp2_with fail
              go_ret
              exact ⟨ret_bool HR.out.symm, HBw.out⟩
        · obtain rfl : k = a.length := by omega
          have hnx := HN.out
          rw [List.drop_length, List.drop_eq_nil_of_le (by have := HLn.out; omega)] at hnx
          have HR : Hid (X = true) := Lib.hid (by rw [hnx]; unfold smB; rfl)
          clear hnx HN hlt
          go_wp2_with fail
          go_ret
          exact ⟨ret_bool HR.out.symm, HB.out⟩
    · have e0 : ((a.length : Int) != (b.length : Int)) = true := by simp; omega
      have HR := Lib.hid (smB_len a b hl)
      clear ih ta tb hm hl TA TB
      go_enter Tryd.func10, Tryd.ntmps10
      go_wp2_with fail
      go_ret
      exact ⟨ret_bool HR.out.symm, Below.refl _ _⟩

end Go.Proofs.YtldllbmbcnipoaaDoor.Bt
