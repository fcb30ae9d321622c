import Derived.Test.YthpnbialpkkpgaaGreatDoorWrBlocks
import Derived.Test.YthpnbialpkkpgaaGreatDoorPkL
import Derived.Test.YthpnbialpkkpgaaGreatDoorPkAR
import Derived.Test.YthpnbialpkkpgaaGreatDoorPkAK
import Derived.StillTailTactics
namespace Go.Proofs.YthpnbialpkkpgaaGreatDoor.Wr
open Go.RowKit
open Go.Proofs.YthpnbialpkkpgaaGreatDoor.Tk (S S_of S_list S_size S_toList S_app ret_int len_data Rd)
open Go.Proofs.YthpnbialpkkpgaaGreatDoor.Sp (Sp Tr rtB wrs totAll wrs_le rwrite_any WrAns ret_str)
open Go.Proofs.YthpnbialpkkpgaaGreatDoor.Bt (TrB fitAll fitOne ttAll ttOne szAll szOne allB oneB allB_cons lnTot)
open Go.Proofs.YthpnbialpkkpgaaGreatDoor.Cm (Keep own_keep cell_at alloc_new)
open Go.Proofs.YthpnbialpkkpgaaGreatDoor.Bk (Tx Bk wl its preQ preI itemW ticksL)
open Go.Proofs.YthpnbialpkkpgaaGreatDoor.Pa (OutG OutS encX encX_map appS_rd tot)
set_option linter.unusedVariables false
theorem out_low {B B' : Nat} {w : World} {v : Value} {l : List Tx} (h : OutS B' w v l) (hB : B ≤ B') : OutS B w v l :=
  ⟨Nat.le_trans hB (OutG.size h), ⟨(OutG.own h).1, (OutG.own h).2.elim Or.inl (fun ⟨g, cap, cur, hv, hg, rest⟩ => Or.inr ⟨g, cap, cur, hv, Nat.le_trans hB hg, rest⟩)⟩, fun _ _ _ _ => trivial⟩
theorem out_one {B : Nat} {w : World} (h : B ≤ w.heap.size) (x : Tx) : OutS B (w.alloc (.cells #[.string (S x)] 9)) (.slice (some ⟨w.heap.size, 0, none⟩) 1 1) [x] :=
  ⟨by simp; omega, ⟨rfl, .inr ⟨w.heap.size, 1, _, rfl, h, alloc_new w _, Nat.le_refl _, by unfold maxLen; omega, rfl, rfl⟩⟩, fun _ _ _ _ => trivial⟩
theorem strsR_app {B : Nat} {w : World} {v u : Value} {os ys : List Tx} (h : OutS B w v os) (hu : Rd w u ys) (hs : os.length + ys.length ≤ 1000000) :
    ∃ v' w', (∀ ty, (Builtin.append_ #[23, 23] ty #[v, u]).run Tryz.prog w = .ok v' w') ∧ OutS B w' v' (os ++ ys) ∧ Keep (fun j => some j = v.ownBlock) w w' := by
  have ho := OutG.own h
  rw [encX_map] at ho
  obtain ⟨v', w', g1, g2, g3⟩ := appS_rd ho hu (OutG.size h) hs
  have hk : Keep (fun j => some j = v.ownBlock) w w' := (Keep.refl _ _).grown g3 (fun k hk => Or.inl hk.symm)
  exact ⟨v', w', g1, ⟨Nat.le_trans (OutG.size h) hk.size, by rw [encX_map]; exact g2, fun _ _ _ _ => trivial⟩, hk⟩
set_option maxHeartbeats 800000 in
theorem rticks_any (v : Value) (xs : List Tx) (w : World) (hr : Rd w v xs) (hn : xs.length ≤ 1000000) (hx : ∀ x ∈ xs, x.length ≤ 1000000) :
    Calls Tryz.prog 16 #[v] w fun e w' => e = .returned (.int .i64 (ticksL xs : Nat)) ∧ w = w' := by
  obtain ⟨ao, ca, rfl⟩ := hr.len
  have e96 : (((96 : UInt8).toNat : Nat) : Int) = 96 := rfl
  have HL := Lib.hid (fun j (hj : j < xs.length) (w' : World) => Ln.rlongest_any (S xs[j]) (by rw [S_size]; have := hx xs[j] (List.getElem_mem hj); omega) 96 w')
  simp only [S_list, e96] at HL
  have HM : Hid (∀ j (hj : j < xs.length), Ln.mx 96 xs[j] ≤ 1000000) := Lib.hid (fun j hj => Nat.le_trans (Ln.mx_le 96 _) (hx xs[j] (List.getElem_mem hj)))
  have HRd := Lib.hid (Bt.Rd.at hr)
  have H0 : Hid (ticksL xs = tkL 3 (xs.drop 0)) := Lib.hid (by rw [List.drop_zero, tkL_ticks])
  generalize ticksL xs = X at *
  clear hr hx e96
  go_enter Tryz.func16, Tryz.ntmps16
  go_wp2_with fail
  go_loop [3, 7] (fun n i => ∃ j q : Nat, j ≤ xs.length ∧ i = .int .i64 j ∧ n = .int .i64 q ∧ q ≤ 1000001 ∧ Hid (X = tkL q (xs.drop j))) (fun _ i => xs.length - (intOf i).toNat)
  case atStart => exact ⟨0, 3, Nat.zero_le _, rfl, rfl, by omega, H0⟩
  case round =>
    clear H0
    obtain ⟨j, q, hj, rfl, rfl, hq, HN⟩ := hrel
    by_cases hlt : j < xs.length
    · have hi1 : (j : Int) < (xs.length : Int) := by omega
      obtain ⟨b, o, rfl, c0⟩ := HRd.out j hlt
      have HLj := Lib.hid (HL.out j hlt w)
      have hm := HM.out j hlt
      have hdr : xs.drop j = xs[j] :: xs.drop (j + 1) := List.drop_eq_getElem_cons hlt
      have HN2 : Hid (X = tkL (max q (Ln.mx 96 xs[j] + 1)) (xs.drop (j + 1))) := Lib.hid (by rw [HN.out, hdr]; rfl)
      clear HN hdr
      generalize Ln.mx 96 xs[j] = m at *
      generalize S xs[j] = sx at *
      go_wp2_with fail
      refine HLj.out.mono ?_
      rintro e w' ⟨rfl, rfl⟩
      clear HLj
      go_wp2_with fail
      go_round
      case rel => exact ⟨j + 1, max q (m + 1), by omega, by go_num, by go_num, by omega, HN2⟩
      case measure => simp [intOf] <;> omega
    · have hi1 : ¬ (j : Int) < (xs.length : Int) := by omega
      have HX : Hid (X = q) := Lib.hid (by rw [HN.out, List.drop_eq_nil_of_le (by omega)]; rfl)
      clear HN hlt
      go_wp2_with fail
      go_ret
      exact ⟨ret_int (by rw [HX.out]), rfl⟩
theorem many_any (c : UInt8) (n : Nat) (hn : n ≤ 1000000) (w : World) : Calls Tryz.prog 59 #[.string (S [c]), .int .i64 (n : Nat)] w fun e w' => e = .returned (.string (S (List.replicate n c))) ∧ w = w' := by
  have hz : (S [c]).size = 1 := by rw [S_size]; rfl
  have HS : Hid (∀ k, S (List.replicate k c) ++ S [c] = S (List.replicate (k + 1) c)) := Lib.hid (fun k => by rw [S_app, List.replicate_succ'])
  have HZ : Hid (∀ k, (S (List.replicate k c)).size = k) := Lib.hid (fun k => by rw [S_size, List.length_replicate])
  have h0 : S (List.replicate 0 c) = ⟨#[]⟩ := rfl
  have H0 := Lib.hid h0
  clear h0
  generalize S [c] = y at *
  go_enter Tryz.func59, Tryz.ntmps59
  go_wp2_with fail
  go_loop [5, 6] (fun o i => ∃ k : Nat, k ≤ n ∧ i = .int .i64 k ∧ o = .string (S (List.replicate k c))) (fun _ i => n - (intOf i).toNat)
  case atStart => exact ⟨0, Nat.zero_le _, rfl, by rw [H0.out]⟩
  case round =>
    obtain ⟨k, hk, rfl, rfl⟩ := hrel
    have hzk := HZ.out k
    by_cases hlt : k < n
    · have hi1 : (k : Int) < (n : Int) := by omega
      have HSk := Lib.hid (HS.out k)
      generalize S (List.replicate k c) = x at *
      go_wp2_with fail
      go_round
      case rel => exact ⟨k + 1, by omega, by go_num, by rw [HSk.out]⟩
      case measure => simp [intOf] <;> omega
    · obtain rfl : k = n := by omega
      have hi1 : ¬ (k : Int) < (k : Int) := by omega
      clear HS HZ
      go_wp2_with fail
      go_ret
      exact ⟨rfl, rfl⟩
def RLinesC (l : List Bk) : Prop := ∀ (v : Value) (w : World), TrB w v l → Calls Tryz.prog 19 #[v] w (RowS w (wl l))
theorem item_take (s : Tx) (r : List Tx) (j : Nat) (h1 : 1 ≤ j) (hj : j < (s :: r).length) : (itemW (s :: r)).take (j + 1) = (itemW (s :: r)).take j ++ [preI (s :: r)[j]] := by
  have hl : j < (itemW (s :: r)).length := by show j < ((45 :: 32 :: s) :: r.map preI).length; simpa using hj
  rw [List.take_succ_eq_append_getElem hl]
  congr 2
  obtain ⟨k, rfl⟩ : ∃ k, j = k + 1 := ⟨j - 1, by omega⟩
  have hk : k < r.length := by simpa using hj
  show ((r.map preI)[k]'(by rw [List.length_map]; exact hk)) = preI (r[k]'hk)
  exact List.getElem_map preI
set_option maxHeartbeats 1600000 in
theorem ritem_any (l : List Bk) (H : RLinesC l) (v : Value) (w : World) (ht : TrB w v l) (hl : (wl l).length ≤ 100000) (hx : ∀ x ∈ wl l, x.length ≤ 10000000000) :
    Calls Tryz.prog 60 #[v] w (RowS w (itemW (wl l))) := by
  have HL := Lib.hid (H v w ht)
  unfold RowS at HL
  clear H ht
  generalize wl l = L at *
  cases L with
  | nil =>
    have hS : S [45] = ⟨#[45]⟩ := rfl
    go_enter Tryz.func60, Tryz.ntmps60
    go_wp2_with fail
    refine HL.out.mono ?_
    rintro e w2 ⟨u, rfl, ho, b2⟩
    obtain ⟨ao, co, hu⟩ := (Pa.OutS.rd ho).len
    rw [show ([] : List Tx).length = 0 from rfl] at hu
    subst hu
    have HO := out_one b2.size [45]
    rw [hS] at HO
    have HO2 := Lib.hid HO
    have HB := Lib.hid (b2.alloc b2.size (.cells #[.string ⟨#[45]⟩] 9))
    clear ho b2 HL HO hS
    go_wp2_with fail
    go_ret
    exact ⟨_, rfl, HO2.out, HB.out⟩
  | cons s r =>
    have hs0 : (S s).size ≤ 10000000000 := by rw [S_size]; exact hx s (List.mem_cons_self ..)
    have HT : Hid (∀ j (h1 : 1 ≤ j) (hj : j < (s :: r).length), (itemW (s :: r)).take (j + 1) = (itemW (s :: r)).take j ++ [preI (s :: r)[j]]) := Lib.hid (fun j h1 hj => item_take s r j h1 hj)
    have HTl : Hid (∀ j, ((itemW (s :: r)).take j).length ≤ j) := Lib.hid (fun j => by rw [List.length_take]; omega)
    have HEnd : Hid ((itemW (s :: r)).length = (s :: r).length) := Lib.hid (by show ((45 :: 32 :: s) :: r.map preI).length = _; simp)
    have H1 : Hid ((itemW (s :: r)).take 1 = [45 :: 32 :: s]) := Lib.hid rfl
    have HA : Hid (⟨#[45, 32]⟩ ++ S s = S (45 :: 32 :: s)) := Lib.hid (S_app [45, 32] s)
    have HAI : Hid (∀ x : Tx, x ≠ [] → ⟨#[32, 32]⟩ ++ S x = S (preI x)) := Lib.hid (fun x hx => by unfold preI; rw [if_neg hx]; exact S_app [32, 32] x)
    have HXl := Lib.hid hx
    obtain ⟨L, hL⟩ : ∃ L, L = s :: r := ⟨_, rfl⟩
    have hL0 : L[0]? = some s := by rw [hL]; rfl
    rw [← hL] at HL HT HTl HEnd H1 HXl hl ⊢
    have hpos : 0 < L.length := by rw [hL]; simp
    have hg0 : L[0] = s := by rw [List.getElem?_eq_getElem hpos] at hL0; exact Option.some.inj hL0
    clear hx hL hL0
    generalize hI : itemW L = I at *
    clear hI
    generalize hss : S s = ss at *
    generalize hsi : S (45 :: 32 :: s) = si at *
    have hzi : (⟨#[45, 32]⟩ ++ ss : ByteArray).size ≤ 20000000000 := by rw [ByteArray.size_append]; show 2 + _ ≤ _; omega
    go_enter Tryz.func60, Tryz.ntmps60
    go_wp2_with fail
    refine HL.out.mono ?_
    rintro e w2 ⟨u, rfl, ho, b2⟩
    obtain ⟨ao, co, hu⟩ := (Pa.OutS.rd ho).len
    subst hu
    have HRd := Lib.hid (fun w' (h : Below w2.heap.size w2 w') => Bt.Rd.at ((Pa.OutS.rd ho).below h))
    obtain ⟨bb, o, rfl, c0⟩ := Bt.Rd.at (Pa.OutS.rd ho) 0 hpos
    rw [Nat.add_zero, hg0, hss] at c0
    have hO := out_one (Nat.le_refl w2.heap.size) (45 :: 32 :: s)
    rw [hsi, ← HA.out] at hO
    have HO : Hid (OutS w2.heap.size (w2.alloc (.cells #[.string (⟨#[45, 32]⟩ ++ ss)] 9)) (.slice (some ⟨w2.heap.size, 0, none⟩) 1 1) (I.take 1)) := Lib.hid (by rw [H1.out]; exact hO)
    have HB := Lib.hid ((Below.refl w2.heap.size w2).alloc (Nat.le_refl _) (.cells #[.string (⟨#[45, 32]⟩ ++ ss)] 9))
    have B2 := Lib.hid b2
    have e0 : ((L.length : Int) == 0) = false := by rw [beq_eq_false_iff_ne]; omega
    have hpi : (0 : Int) < (L.length : Int) := by omega
    clear ho b2 HL hO H1 hg0
    go_wp2_with fail
    go_loopw [4, 5] (fun vv iv wr => ∃ j : Nat, 1 ≤ j ∧ j ≤ L.length ∧ iv = .int .i64 j ∧ Hid (OutS w2.heap.size wr vv (I.take j)) ∧ Hid (Below w2.heap.size w2 wr)) (fun _ iv _ => L.length - (intOf iv).toNat)
    case atStart => exact ⟨1, Nat.le_refl _, hpos, rfl, HO, HB⟩
    case round =>
      clear HO HB c0 hzi
      obtain ⟨j, h1, hj, rfl, HO, HB⟩ := hrel
      by_cases hlt : j < L.length
      · have hi1 : (j : Int) < (L.length : Int) := by omega
        obtain ⟨b', o', hbo, c1⟩ := HRd.out wr HB.out j hlt
        simp only [Option.some.injEq, Addr.mk.injEq, and_true] at hbo
        obtain ⟨rfl, rfl⟩ := hbo
        have hT := HT.out j h1 hlt
        have hTl := HTl.out j
        have hxl := HXl.out L[j] (List.getElem_mem hlt)
        by_cases hn : L[j] = []
        · have hp : preI L[j] = [] := by rw [hn]; rfl
          obtain ⟨v5, w5, hr5, ho5, hk5⟩ := Pa.OutS.push HO.out (preI L[j]) (by omega)
          have HO5 : Hid (OutS w2.heap.size w5 v5 (I.take (j + 1))) := Lib.hid (by rw [hT]; exact ho5)
          have HB5 := Lib.hid (HB.out.trans (OutG.below HO.out hk5))
          have hz : S (preI L[j]) = ⟨#[]⟩ := by rw [hp]; rfl
          rw [hz] at hr5
          have hz2 : S L[j] = ⟨#[]⟩ := by rw [hn]; rfl
          rw [hz2] at c1
          clear ho5 hk5 hz hz2 hp hn hT HT HTl HAI HXl HRd HO HB HEnd
          go_wp2_with (at_builtin; refine Lib.wpList_append_run _ rfl _ _ _ _ rfl _ _ rfl rfl _ _ (hr5 _) ?_)
          go_roundw
          case rel => exact ⟨j + 1, by omega, by omega, by go_num, HO5, HB5⟩
          case measure => simp [intOf] <;> omega
        · obtain ⟨v5, w5, hr5, ho5, hk5⟩ := Pa.OutS.push HO.out (preI L[j]) (by omega)
          have HO5 : Hid (OutS w2.heap.size w5 v5 (I.take (j + 1))) := Lib.hid (by rw [hT]; exact ho5)
          have HB5 := Lib.hid (HB.out.trans (OutG.below HO.out hk5))
          rw [← HAI.out L[j] hn] at hr5
          have f1 : ((S L[j]).toList == []) = false := by rw [S_toList]; simpa using hn
          have hzx : (S L[j]).size ≤ 10000000000 := by rw [S_size]; exact hxl
          clear ho5 hk5 hn hT HT HTl HAI HXl HRd HO HB HEnd
          generalize S L[j] = sx at *
          go_wp2_with (at_builtin; refine Lib.wpList_append_run _ rfl _ _ _ _ rfl _ _ rfl rfl _ _ (hr5 _) ?_)
          go_roundw
          case rel => exact ⟨j + 1, by omega, by omega, by go_num, HO5, HB5⟩
          case measure => simp [intOf] <;> omega
      · have hi1 : ¬ (j : Int) < (L.length : Int) := by omega
        have HX : Hid (OutS w.heap.size wr u4 I) := Lib.hid (by
          have h := HO.out
          rw [List.take_of_length_le (by rw [HEnd.out]; omega)] at h
          exact out_low h B2.out.size)
        have HB9 := Lib.hid (B2.out.trans (HB.out.mono B2.out.size))
        clear HO HB hlt HT HTl HAI HXl HRd HEnd
        go_wp2_with fail
        go_ret
        exact ⟨_, rfl, HX.out, HB9.out⟩
end Go.Proofs.YthpnbialpkkpgaaGreatDoor.Wr
namespace Go.Proofs.YthpnbialpkkpgaaGreatDoor.Wr
open Go.RowKit
open Go.Proofs.YthpnbialpkkpgaaGreatDoor.Tk (S S_of S_list S_size S_toList S_app ret_int len_data Rd)
open Go.Proofs.YthpnbialpkkpgaaGreatDoor.Sp (Sp Tr rtB wrs totAll wrs_le rwrite_any WrAns ret_str)
open Go.Proofs.YthpnbialpkkpgaaGreatDoor.Bt (TrB fitAll fitOne ttAll ttOne szAll szOne allB oneB allB_cons lnTot)
open Go.Proofs.YthpnbialpkkpgaaGreatDoor.Cm (Keep own_keep cell_at alloc_new)
open Go.Proofs.YthpnbialpkkpgaaGreatDoor.Bk (Tx Bk wl its preQ preI itemW ticksL)
open Go.Proofs.YthpnbialpkkpgaaGreatDoor.Pa (OutG OutS encX encX_map tot)
set_option linter.unusedVariables false
def InRC (x : Bk) : Prop := ∀ (l : List Bk) (p : Int), szAll l < szOne x → allB false p l = true → ttAll l ≤ 20000 → RLinesC l
theorem wl_few {l : List Bk} {p : Int} (h : allB false p l = true) (ht : ttAll l ≤ 20000) : (wl l).length ≤ 60000 ∧ ∀ x ∈ wl l, x.length ≤ 10000000000 := by
  have h1 := wl_sz false p l (Bt.dN l) h (Nat.le_refl _)
  have h2 := Bt.dN_tt l
  have h3 : (12 + 6 * Bt.dN l) * ttAll l ≤ 150000 * ttAll l := Nat.mul_le_mul_right _ (by omega)
  exact ⟨by omega, fun x hx => by have := Pa.tot_mem _ x hx; omega⟩
set_option maxHeartbeats 6400000 in
set_option maxRecDepth 100000 in
theorem rone_any (x : Bk) (hx : oneB false x = true) (IH : InRC x) (al as' ak : Option Addr) (cl cs ck : Nat) (w : World) (htt : ttOne x ≤ 20000)
    (hrd : Rd w (.slice al x.lines.length cl) x.lines) (hsp : Tr w (.slice as' x.spans.length cs) x.spans) (htr : TrB w (.slice ak x.kids.length ck) x.kids) :
    Calls Tryz.prog 33 #[.agg #[.int .i64 x.kind, .int .i64 x.level, .string (S x.info), .slice al x.lines.length cl, .slice as' x.spans.length cs, .slice ak x.kids.length ck]] w (RowS w (Bk.one x)) := by
  have hsz1 := (one_sz false x (Bt.d1N x) hx (Nat.le_refl _)).1
  obtain ⟨q, lv, i, lns, ss, l⟩ := x
  simp only [Bk.kind, Bk.level, Bk.info, Bk.lines, Bk.spans, Bk.kids] at hrd hsp htr ⊢
  rw [ttOne] at htt hsz1
  have HIn := Lib.hid IH
  have HRd := Lib.hid (fun w' (h : Below w.heap.size w w') => hrd.below h)
  have HSp := Lib.hid (fun w' (h : Below w.heap.size w w') => hsp.below h)
  have HTr := Lib.hid (fun w' (h : Below w.heap.size w w') => htr.below h)
  have hxs := hx
  rw [oneB, Bool.and_eq_true, beq_iff_eq] at hxs
  obtain ⟨hk7, hx2⟩ := hxs
  have hk7 : ¬ q = 7 := of_decide_eq_false hk7
  have HB1 := Lib.hid ((Below.refl w.heap.size w).alloc (Nat.le_refl _) (.cells #[.int .i64 q, .int .i64 lv, .string (S i), .slice al lns.length cl, .slice as' ss.length cs, .slice ak l.length ck] 46))
  have HC1 := Lib.hid (alloc_new w (.cells #[.int .i64 q, .int .i64 lv, .string (S i), .slice al lns.length cl, .slice as' ss.length cs, .slice ak l.length ck] 46))
  have HZ1 : Hid (w.heap.size < (w.alloc (.cells #[.int .i64 q, .int .i64 lv, .string (S i), .slice al lns.length cl, .slice as' ss.length cs, .slice ak l.length ck] 46)).heap.size) := Lib.hid (by simp)
  have hsi : (S i).size ≤ 20000 := by rw [S_size]; omega
  unfold RowS
  clear hrd hsp htr IH
  rw [Bk.one] at hsz1 ⊢
  split at hx2
  · rename_i e
    simp only [Bool.and_eq_true] at hx2
    rw [if_pos e] at hsz1 ⊢
    subst e
    have hwl := wrs_le ss
    have HW := Lib.hid (fun w' (hw : Below w.heap.size w w') => rwrite_any (totAll ss) ss _ w' (Nat.le_refl _) (by omega) (HSp.out w' hw))
    have HS := Lib.hid (fun w' => Ln.rsplit_any (S (wrs ss)) (by rw [S_size]; omega) w')
    simp only [S_list] at HS
    unfold WrAns at HW
    clear hx2 hsz1 HIn HRd HSp HTr hx hwl
    generalize (Ln.split (wrs ss)).1 = L at *
    generalize (Ln.split (wrs ss)).2 = xe at *
    generalize S (wrs ss) = y at *
    generalize S i = si at *
    generalize l.length = kn at *
    generalize ss.length = sn at *
    generalize lns.length = ln at *
    go_enter Tryz.func33, Tryz.ntmps33
    go_upto_region 1 with fail
    generalize w.alloc (.cells #[.int .i64 1, .int .i64 lv, .string si, .slice al ln cl, .slice as' sn cs, .slice ak kn ck] 46) = w1 at *
    have k0 : w1.cell? ⟨w.heap.size, 0, none⟩ = some (.int .i64 1) := cell_at HC1.out 0
    have k4 : w1.cell? ⟨w.heap.size, 4, none⟩ = some (.slice as' sn cs) := cell_at HC1.out 4
    have HW1 := Lib.hid (HW.out w1 HB1.out)
    clear HW HC1
    go_wp2_with fail
    refine HW1.out.mono ?_
    rintro e w2 ⟨rfl, b2⟩
    have B2 := Lib.hid (HB1.out.trans (b2.mono HB1.out.size))
    clear b2 HW1
    go_wp2_with fail
    refine (HS.out _).mono ?_
    rintro e w3 ⟨u, rfl, hown, b3⟩
    have B3 := Lib.hid (B2.out.trans (b3.mono B2.out.size))
    have HO := Lib.hid (out_low (out_of b3.size hown) B2.out.size)
    clear hown b3 HS
    go_wp2_with fail
    go_ret
    exact ⟨_, rfl, HO.out, B3.out⟩
  rw [if_neg (by assumption)] at hsz1 ⊢
  split at hx2
  · rename_i e
    simp only [Bool.and_eq_true, decide_eq_true_iff] at hx2
    rw [if_pos e] at hsz1 ⊢
    subst e
    obtain ⟨n, rfl⟩ : ∃ n : Nat, lv = n := ⟨lv.toNat, by omega⟩
    rw [Int.toNat_natCast]
    have hwl := wrs_le ss
    have HM := Lib.hid (fun w' => many_any 35 n (by omega) w')
    have h35 : S [35] = ⟨#[35]⟩ := rfl
    rw [h35] at HM
    have HW := Lib.hid (fun w' (hw : Below w.heap.size w w') => rwrite_any (totAll ss) ss _ w' (Nat.le_refl _) (by omega) (HSp.out w' hw))
    unfold WrAns at HW
    have hz1 : (S (List.replicate n (35 : UInt8))).size ≤ 6 := by rw [S_size, List.length_replicate]; omega
    have hz2 : (S (wrs ss)).size ≤ 200000 := by rw [S_size]; omega
    by_cases h0 : ss = []
    · rw [if_pos h0, List.append_nil]
      have hs0 : ¬ 0 < ss.length := by rw [h0]; simp
      have hs1 : ¬ (0 : Int) < (ss.length : Int) := by omega
      have hs2 : decide ((ss.length : Int) > 0) = false := decide_eq_false (by omega)
      have HOut := Lib.hid (fun (w' : World) (h : Below w.heap.size w w') => out_one h.size (List.replicate n (35 : UInt8)))
      clear hx2 hsz1 HIn HRd HSp HTr hx hwl HW h0 hz2 h35
      generalize S (List.replicate n (35 : UInt8)) = y at *
      generalize (List.replicate n (35 : UInt8)) = Y at *
      generalize S i = si at *
      generalize l.length = kn at *
      generalize ss.length = sn at *
      generalize lns.length = ln at *
      go_enter Tryz.func33, Tryz.ntmps33
      go_upto_region 1 with fail
      generalize w.alloc (.cells #[.int .i64 2, .int .i64 (n : Nat), .string si, .slice al ln cl, .slice as' sn cs, .slice ak kn ck] 46) = w1 at *
      have k0 : w1.cell? ⟨w.heap.size, 0, none⟩ = some (.int .i64 2) := cell_at HC1.out 0
      have k1 : w1.cell? ⟨w.heap.size, 1, none⟩ = some (.int .i64 (n : Nat)) := cell_at HC1.out 1
      have k4 : w1.cell? ⟨w.heap.size, 4, none⟩ = some (.slice as' sn cs) := cell_at HC1.out 4
      clear HC1 HZ1
      go_wp2_with fail
      refine (HM.out _).mono ?_
      rintro e w2 ⟨rfl, rfl⟩
      have HO := Lib.hid (HOut.out w1 HB1.out)
      have HB := Lib.hid (HB1.out.alloc HB1.out.size (.cells #[.string y] 9))
      clear HM HOut
      go_wp2_with fail
      go_ret
      exact ⟨_, rfl, HO.out, HB.out⟩
    · rw [if_neg h0]
      have hpos : (0 : Int) < (ss.length : Int) := by have := List.length_pos_iff.2 h0; omega
      have HA : Hid (S (List.replicate n 35) ++ ⟨#[32]⟩ ++ S (wrs ss) = S (List.replicate n 35 ++ 32 :: wrs ss)) := Lib.hid (by
        rw [show (⟨#[32]⟩ : ByteArray) = S [32] from rfl, S_app, S_app]
        congr 1
        simp)
      have HOut := Lib.hid (fun (w' : World) (h : Below w.heap.size w w') => out_one h.size (List.replicate n (35 : UInt8) ++ 32 :: wrs ss))
      rw [← HA.out] at HOut
      have hz3 : (S (List.replicate n (35 : UInt8)) ++ ⟨#[32]⟩).size ≤ 7 := by rw [ByteArray.size_append]; show _ + 1 ≤ _; omega
      clear hx2 hsz1 HIn HRd HSp HTr hx hwl h0 h35 HA
      generalize (List.replicate n (35 : UInt8) ++ 32 :: wrs ss) = Y at *
      generalize S (wrs ss) = z at *
      generalize S (List.replicate n 35) = y at *
      generalize S i = si at *
      generalize l.length = kn at *
      generalize ss.length = sn at *
      generalize lns.length = ln at *
      go_enter Tryz.func33, Tryz.ntmps33
      go_upto_region 1 with fail
      generalize w.alloc (.cells #[.int .i64 2, .int .i64 (n : Nat), .string si, .slice al ln cl, .slice as' sn cs, .slice ak kn ck] 46) = w1 at *
      have k0 : w1.cell? ⟨w.heap.size, 0, none⟩ = some (.int .i64 2) := cell_at HC1.out 0
      have k1 : w1.cell? ⟨w.heap.size, 1, none⟩ = some (.int .i64 (n : Nat)) := cell_at HC1.out 1
      have k4 : w1.cell? ⟨w.heap.size, 4, none⟩ = some (.slice as' sn cs) := cell_at HC1.out 4
      have HW1 := Lib.hid (HW.out w1 HB1.out)
      clear HC1 HZ1 HW
      go_wp2_with fail
      refine (HM.out _).mono ?_
      rintro e w2 ⟨rfl, rfl⟩
      clear HM
      go_wp2_with fail
      refine HW1.out.mono ?_
      rintro e w2 ⟨rfl, b2⟩
      have B2 := Lib.hid (HB1.out.trans (b2.mono HB1.out.size))
      have HO := Lib.hid (HOut.out w2 B2.out)
      have HB := Lib.hid (B2.out.alloc B2.out.size (.cells #[.string (y ++ ⟨#[32]⟩ ++ z)] 9))
      clear b2 HW1 HOut
      go_wp2_with fail
      go_ret
      exact ⟨_, rfl, HO.out, HB.out⟩
  rw [if_neg (by assumption)] at hsz1 ⊢
  split at hx2
  · rename_i e
    rw [if_pos e] at hsz1 ⊢
    subst e
    have HOut := Lib.hid (fun (w' : World) (h : Below w.heap.size w w') => out_one h.size ([45, 45, 45] : Tx))
    have h45 : S [45, 45, 45] = ⟨#[45, 45, 45]⟩ := rfl
    rw [h45] at HOut
    clear hx2 hsz1 HIn HRd HSp HTr hx h45
    generalize S i = si at *
    generalize l.length = kn at *
    generalize ss.length = sn at *
    generalize lns.length = ln at *
    go_enter Tryz.func33, Tryz.ntmps33
    go_upto_region 1 with fail
    generalize w.alloc (.cells #[.int .i64 3, .int .i64 lv, .string si, .slice al ln cl, .slice as' sn cs, .slice ak kn ck] 46) = w1 at *
    have k0 : w1.cell? ⟨w.heap.size, 0, none⟩ = some (.int .i64 3) := cell_at HC1.out 0
    have HO := Lib.hid (HOut.out w1 HB1.out)
    have HB := Lib.hid (HB1.out.alloc HB1.out.size (.cells #[.string ⟨#[45, 45, 45]⟩] 9))
    clear HC1 HOut
    go_wp2_with fail
    go_ret
    exact ⟨_, rfl, HO.out, HB.out⟩
  rw [if_neg (by assumption)] at hsz1 ⊢
  split at hx2
  · rename_i e
    rw [if_pos e] at hsz1 ⊢
    subst e
    have hlm := fun s (hs : s ∈ lns) => Bt.ln_mem hs
    have hll := lnTot_len lns
    have hq : ticksL lns ≤ 1000000 := by have := ticks_le lns; omega
    have HT := Lib.hid (fun w' (hw : Below w.heap.size w w') => rticks_any _ lns w' (HRd.out w' hw) (by omega) (fun s hs => by have := hlm s hs; omega))
    have HM := Lib.hid (fun w' => many_any 96 (ticksL lns) hq w')
    have h96 : S [96] = ⟨#[96]⟩ := rfl
    rw [h96] at HM
    have hz1 : (S (List.replicate (ticksL lns) (96 : UInt8))).size ≤ 1000000 := by rw [S_size, List.length_replicate]; exact hq
    have HA : Hid (S (List.replicate (ticksL lns) 96) ++ S i = S (List.replicate (ticksL lns) 96 ++ i)) := Lib.hid (S_app _ _)
    have hz2 : (S (List.replicate (ticksL lns) (96 : UInt8))).size + (S i).size ≤ 2000000 := by omega
    generalize List.replicate (ticksL lns) (96 : UInt8) = tk at *
    generalize ticksL lns = tn at *
    have hln : lns.length ≤ 20000 := by omega
    clear hx2 hsz1 HIn HSp HTr hx hlm hll h96 hq
    go_enter Tryz.func33, Tryz.ntmps33
    go_upto_region 1 with fail
    generalize S i = si at *
    generalize l.length = kn at *
    generalize ss.length = sn at *
    generalize w.alloc (.cells #[.int .i64 4, .int .i64 lv, .string si, .slice al lns.length cl, .slice as' sn cs, .slice ak kn ck] 46) = w1 at *
    have k0 : w1.cell? ⟨w.heap.size, 0, none⟩ = some (.int .i64 4) := cell_at HC1.out 0
    have k2 : w1.cell? ⟨w.heap.size, 2, none⟩ = some (.string si) := cell_at HC1.out 2
    have k3 : w1.cell? ⟨w.heap.size, 3, none⟩ = some (.slice al lns.length cl) := cell_at HC1.out 3
    have HT1 := Lib.hid (HT.out w1 HB1.out)
    have hO2 := out_one HB1.out.size (tk ++ i)
    rw [← HA.out] at hO2
    have hC2 := Cm.alloc_at HC1.out (.cells #[.string (S tk ++ si)] 9)
    have hB2 := HB1.out.alloc HB1.out.size (.cells #[.string (S tk ++ si)] 9)
    obtain ⟨v3, w3, hr3, ho3, hk3⟩ := strsR_app hO2 (HRd.out _ hB2) (by simp only [List.length_cons, List.length_nil]; omega)
    obtain ⟨v4, w4, hr4, ho4, hk4⟩ := Pa.OutS.push ho3 tk (by simp only [List.length_append, List.length_cons, List.length_nil]; omega)
    have HB4 := Lib.hid ((hB2.trans (OutG.below hO2 hk3)).trans (OutG.below ho3 hk4))
    have HO4 : Hid (OutS w.heap.size w4 v4 ((tk ++ i) :: (lns ++ [tk]))) := Lib.hid (by
      have h := ho4
      rw [List.append_assoc] at h
      exact h)
    have n3 : (w1.alloc (.cells #[.string (S tk ++ si)] 9)).cell? ⟨w.heap.size, 3, none⟩ = some (.slice al lns.length cl) := cell_at hC2 3
    obtain ⟨a3, c3, hv3⟩ := (Pa.OutS.rd ho3).len
    generalize ([tk ++ i] ++ lns).length = q3 at hv3
    subst hv3
    clear HC1 HA hO2 hC2 hB2 ho3 ho4 hk3 hk4 HB1 HT
    generalize S tk = y at *
    go_wp2_with fail
    refine HT1.out.mono ?_
    rintro e w2 ⟨rfl, rfl⟩
    clear HT1
    go_wp2_with fail
    refine (HM.out _).mono ?_
    rintro e w2 ⟨rfl, rfl⟩
    clear HM
    go_wp2_with (first
      | (at_builtin; (show wpList _ _ _ (Oper.mk (some 59) _ _ _ _ _ :: _) _ _); refine Lib.wpList_append_run _ rfl (.tmp 56) (.tmp 58) _ _ rfl _ _ rfl rfl _ _ (hr3 _) ?_)
      | (at_builtin; (show wpList _ _ _ (Oper.mk (some 63) _ _ _ _ _ :: _) _ _); refine Lib.wpList_append_run _ rfl (.tmp 60) (.tmp 62) _ _ rfl _ _ rfl rfl _ _ (hr4 _) ?_))
    go_ret
    exact ⟨_, rfl, HO4.out, HB4.out⟩
  rw [if_neg (by assumption)] at hsz1 ⊢
  split at hx2
  · rename_i e
    rw [if_pos e] at hsz1 ⊢
    subst e
    simp only [Bool.and_eq_true] at hx2
    obtain ⟨hw1, hw2⟩ := wl_few hx2.2 (by omega)
    have HL := Lib.hid (fun w' (hw : Below w.heap.size w w') => HIn.out l 0 (by rw [szOne]; omega) hx2.2 (by omega) _ w' (HTr.out w' hw))
    unfold RowS at HL
    clear hx2 hsz1 HIn HRd HSp HTr hx
    generalize wl l = L at *
    obtain ⟨X, hX⟩ : ∃ X, (if L = [] then [[62]] else L.map preQ) = X := ⟨_, rfl⟩
    have HXe := Lib.hid hX.symm
    rw [hX]
    clear hX
    generalize S i = si at *
    generalize l.length = kn at *
    generalize ss.length = sn at *
    generalize lns.length = ln at *
    go_enter Tryz.func33, Tryz.ntmps33
    go_upto_region 1 with fail
    generalize w.alloc (.cells #[.int .i64 5, .int .i64 lv, .string si, .slice al ln cl, .slice as' sn cs, .slice ak kn ck] 46) = w1 at *
    have k0 : w1.cell? ⟨w.heap.size, 0, none⟩ = some (.int .i64 5) := cell_at HC1.out 0
    have k5 : w1.cell? ⟨w.heap.size, 5, none⟩ = some (.slice ak kn ck) := cell_at HC1.out 5
    have HL1 := Lib.hid (HL.out w1 HB1.out)
    clear HC1 HL
    go_wp2_with fail
    refine HL1.out.mono ?_
    rintro e w2 ⟨u, rfl, ho, b2⟩
    have B2 := Lib.hid (HB1.out.trans (b2.mono HB1.out.size))
    have hu := Pa.OutS.rd ho
    clear b2 ho HL1 k0 k5 HZ1 HB1
    by_cases h0 : L = []
    · rw [if_pos h0] at HXe
      obtain ⟨ao, co, hv⟩ := hu.len
      rw [h0, show ([] : List Tx).length = 0 from rfl] at hv
      subst hv
      have hO := out_one B2.out.size ([62] : Tx)
      rw [show S [62] = ⟨#[62]⟩ from rfl] at hO
      have HO := Lib.hid hO
      have HB := Lib.hid (B2.out.alloc B2.out.size (.cells #[.string ⟨#[62]⟩] 9))
      clear hO hu h0 hw1 hw2
      go_wp2_with fail
      go_ret
      exact ⟨_, rfl, by rw [HXe.out]; exact HO.out, HB.out⟩
    · rw [if_neg h0] at HXe
      have hpos := List.length_pos_iff.2 h0
      obtain ⟨ao, co, hv⟩ := hu.len
      subst hv
      have HRu := Lib.hid (fun w' (h : Below w2.heap.size w2 w') => Bt.Rd.at (hu.below h))
      have HXl := Lib.hid hw2
      have e0 : ((L.length : Int) == 0) = false := by rw [beq_eq_false_iff_ne]; omega
      have HAQ : Hid (∀ x : Tx, x ≠ [] → ⟨#[62, 32]⟩ ++ S x = S (preQ x)) := Lib.hid (fun x hx => by unfold preQ; rw [if_neg hx]; exact S_app [62, 32] x)
      have HT : Hid (∀ j (hj : j < L.length), (L.map preQ).take (j + 1) = (L.map preQ).take j ++ [preQ L[j]]) := Lib.hid (fun j hj => by rw [List.take_succ_eq_append_getElem (by rw [List.length_map]; exact hj), List.getElem_map])
      have HTl : Hid (∀ j, ((L.map preQ).take j).length ≤ j) := Lib.hid (fun j => by rw [List.length_take]; omega)
      have HEnd : Hid ((L.map preQ).length = L.length) := Lib.hid (List.length_map ..)
      clear hu h0 hw2
      generalize L.map preQ = I at *
      go_wp2_with fail
      go_loopw [9, 75] (fun vv iv wr => ∃ j : Nat, j ≤ L.length ∧ iv = .int .i64 j ∧ Hid (OutS w2.heap.size wr vv (I.take j)) ∧ Hid (Below w2.heap.size w2 wr)) (fun _ iv _ => L.length - (intOf iv).toNat)
      case atStart => exact ⟨0, Nat.zero_le _, rfl, Lib.hid (by rw [List.take_zero]; exact OutG.nil (Nat.le_refl _)), Lib.hid (Below.refl _ _)⟩
      case round =>
        obtain ⟨j, hj, rfl, HO, HB⟩ := hrel
        by_cases hlt : j < L.length
        · have hi1 : (j : Int) < (L.length : Int) := by omega
          obtain ⟨b', o', rfl, c1⟩ := HRu.out wr HB.out j hlt
          have hT := HT.out j hlt
          have hTl := HTl.out j
          have hxl := HXl.out L[j] (List.getElem_mem hlt)
          obtain ⟨v5, w5, hr5, ho5, hk5⟩ := Pa.OutS.push HO.out (preQ L[j]) (by omega)
          have HO5 : Hid (OutS w2.heap.size w5 v5 (I.take (j + 1))) := Lib.hid (by rw [hT]; exact ho5)
          have HB5 := Lib.hid (HB.out.trans (OutG.below HO.out hk5))
          by_cases hn : L[j] = []
          · have hp : preQ L[j] = [62] := by rw [hn]; rfl
            rw [hp, show S [62] = ⟨#[62]⟩ from rfl] at hr5
            rw [hn, show S [] = ⟨#[]⟩ from rfl] at c1
            clear ho5 hk5 hp hn hT HT HTl HAQ HXl HRu HO HB HEnd hxl
            go_wp2_with (at_builtin; refine Lib.wpList_append_run _ rfl _ _ _ _ rfl _ _ rfl rfl _ _ (hr5 _) ?_)
            go_roundw
            case rel => exact ⟨j + 1, by omega, by go_num, HO5, HB5⟩
            case measure => simp [intOf] <;> omega
          · rw [← HAQ.out L[j] hn] at hr5
            have f1 : ((S L[j]).toList == []) = false := by rw [S_toList]; simpa using hn
            have hzx : (S L[j]).size ≤ 10000000000 := by rw [S_size]; exact hxl
            clear ho5 hk5 hn hT HT HTl HAQ HXl HRu HO HB HEnd hxl
            generalize S L[j] = sx at *
            go_wp2_with (at_builtin; refine Lib.wpList_append_run _ rfl _ _ _ _ rfl _ _ rfl rfl _ _ (hr5 _) ?_)
            go_roundw
            case rel => exact ⟨j + 1, by omega, by go_num, HO5, HB5⟩
            case measure => simp [intOf] <;> omega
        · have hi1 : ¬ (j : Int) < (L.length : Int) := by omega
          have HX : Hid (OutS w.heap.size wr u9 I) := Lib.hid (by
            have h := HO.out
            rw [List.take_of_length_le (by rw [HEnd.out]; omega)] at h
            exact out_low h B2.out.size)
          have HB9 := Lib.hid (B2.out.trans (HB.out.mono B2.out.size))
          clear HO HB hlt HT HTl HAQ HXl HRu HEnd
          go_wp2_with fail
          go_ret
          exact ⟨_, rfl, by rw [HXe.out]; exact HX.out, HB9.out⟩
  have hq5 : ¬ q = 5 := by assumption
  rw [if_neg hq5] at hsz1 ⊢
  split at hx2
  · rename_i e
    rw [if_pos e] at hsz1 ⊢
    subst e
    simp only [Bool.and_eq_true] at hx2
    have hkid := hx2.2
    have HItem : Hid (∀ j (hj : j < l.length) v' w', TrB w' v' l[j].kids → Calls Tryz.prog 60 #[v'] w' (RowS w' (Bk.one l[j]))) := Lib.hid (fun j hj v' w' hv => by
      have hm : l[j] ∈ l := List.getElem_mem hj
      have h1 := all_mem hkid _ hm
      have h3 := Bt.ttAll_mem hm
      have h5 := Bt.szAll_mem hm
      generalize l[j] = y at *
      obtain ⟨k', lv', i', ln', ss', l'⟩ := y
      rw [oneB, Bool.and_eq_true, beq_iff_eq, decide_eq_true_iff] at h1
      obtain ⟨rfl, h6⟩ := h1
      rw [if_neg (by decide), if_neg (by decide), if_neg (by decide), if_neg (by decide), if_neg (by decide), if_pos rfl] at h6
      simp only [Bool.and_eq_true] at h6
      rw [ttOne] at h3
      rw [szOne] at h5
      obtain ⟨hw1, hw2⟩ := wl_few h6.2 (by omega)
      have h := ritem_any l' (HIn.out l' 0 (by rw [szOne]; omega) h6.2 (by omega)) v' w' hv (by omega) hw2
      have e : Bk.one (.mk 7 lv' i' ln' ss' l') = itemW (wl l') := by rw [Bk.one]; simp
      rw [e]
      exact h)
    have HT0 : Hid (∀ j (hj : j < l.length), its (l.take (j + 1)) = its (l.take j) ++ Bk.one l[j] ∧ (its (l.take j)).length + (Bk.one l[j]).length ≤ 60000) := Lib.hid (fun j hj => by
      have h1 := its_sz 0 (l.take (j + 1)) _ (all_take hkid (j + 1)) (Nat.le_refl _)
      have h3 := tt_take l (j + 1)
      rw [List.take_succ_eq_append_getElem hj] at h1 h3 ⊢
      rw [its_snoc, List.length_append] at h1
      rw [its_snoc]
      exact ⟨rfl, by omega⟩)
    have hlen20 : l.length ≤ 20000 := by have := Bt.szAll_len l; have := Bt.sz_tt l; omega
    unfold RowS at HItem
    clear hx2 hsz1 HIn HRd HSp hx hkid
    generalize S i = si at *
    generalize ss.length = sn at *
    generalize lns.length = ln at *
    go_enter Tryz.func33, Tryz.ntmps33
    go_upto_region 1 with fail
    generalize w.alloc (.cells #[.int .i64 6, .int .i64 lv, .string si, .slice al ln cl, .slice as' sn cs, .slice ak l.length ck] 46) = w1 at *
    have k0 : w1.cell? ⟨w.heap.size, 0, none⟩ = some (.int .i64 6) := cell_at HC1.out 0
    have k5 : w1.cell? ⟨w.heap.size, 5, none⟩ = some (.slice ak l.length ck) := cell_at HC1.out 5
    have HK5 : Hid (∀ w', Below w1.heap.size w1 w' → w'.cell? ⟨w.heap.size, 5, none⟩ = some (.slice ak l.length ck)) := Lib.hid (fun w' h => (h.cell (p := ⟨w.heap.size, 5, none⟩) HZ1.out).trans k5)
    clear HC1 HZ1
    go_wp2_with fail
    go_loopw [11, 101] (fun vv iv wr => ∃ j : Nat, j ≤ l.length ∧ iv = .int .i64 j ∧ Hid (OutS w1.heap.size wr vv (its (l.take j))) ∧ Hid (Below w1.heap.size w1 wr)) (fun _ iv _ => l.length - (intOf iv).toNat)
    case atStart => exact ⟨0, Nat.zero_le _, rfl, Lib.hid (by rw [List.take_zero, its]; exact OutG.nil (Nat.le_refl _)), Lib.hid (Below.refl _ _)⟩
    case round =>
      clear k0 k5
      obtain ⟨j, hj, rfl, HO, HB⟩ := hrel
      by_cases hlt : j < l.length
      · have hi1 : (j : Int) < (l.length : Int) := by omega
        have hBr := HB1.out.trans (HB.out.mono HB1.out.size)
        have k5 := HK5.out wr HB.out
        obtain ⟨bb, o, vl, vs, ak', ck', rfl, hbl, hC⟩ := (HTr.out wr hBr).at j hlt
        have c5 := hC.kids
        have HIj := Lib.hid (HItem.out j hlt _ wr hC.tr)
        obtain ⟨hT1, hT2⟩ := HT0.out j hlt
        have HT1 := Lib.hid hT1
        clear hC hT1 HItem HT0 hBr hbl
        generalize Bk.one l[j] = X at *
        generalize l[j].kids.length = kn' at *
        go_wp2_with fail
        refine HIj.out.mono ?_
        rintro e w5 ⟨u, rfl, hu, b5⟩
        have hO5 : OutS w1.heap.size w5 u11 (its (l.take j)) := OutG.go HO.out (Keep.of_below b5)
        obtain ⟨v6, w6, hr6, ho6, hk6⟩ := strsR_app hO5 (Pa.OutS.rd hu) (by omega)
        have HO6 : Hid (OutS w1.heap.size w6 v6 (its (l.take (j + 1)))) := Lib.hid (by rw [HT1.out]; exact ho6)
        have HB6 := Lib.hid ((HB.out.trans (b5.mono HB.out.size)).trans (OutG.below hO5 hk6))
        clear hu b5 hO5 ho6 hk6 HIj HO HB HT1 k5 c5
        go_wp2_with (at_builtin; refine Lib.wpList_append_run _ rfl _ _ _ _ rfl _ _ rfl rfl _ _ (hr6 _) ?_)
        go_roundw
        case rel => exact ⟨j + 1, by omega, by go_num, HO6, HB6⟩
        case measure => simp [intOf] <;> omega
      · have hi1 : ¬ (j : Int) < (l.length : Int) := by omega
        have HX : Hid (OutS w.heap.size wr u11 (its l)) := Lib.hid (by
          have h := HO.out
          rw [List.take_of_length_le (by omega)] at h
          exact out_low h HB1.out.size)
        have HB9 := Lib.hid (HB1.out.trans (HB.out.mono HB1.out.size))
        clear HO HB hlt HItem HT0 HK5
        go_wp2_with fail
        go_ret
        exact ⟨_, rfl, HX.out, HB9.out⟩
  have hq6 : ¬ q = 6 := by assumption
  rw [if_neg hq6, if_neg hk7] at hsz1 ⊢
  split at hx2
  · rename_i e
    subst e
    simp only [Bool.and_eq_true, decide_eq_true_iff] at hx2
    obtain ⟨d, hd⟩ := List.length_eq_one_iff.1 hx2.1.2
    subst hd
    rw [List.headD_cons]
    simp only [lnTot] at htt
    have HRd0 := Lib.hid (fun w' (h : Below w.heap.size w w') => Bt.Rd.at (HRd.out w' h) 0 (by simp))
    simp only [List.getElem_cons_zero, Nat.add_zero] at HRd0
    have hE : ⟨#[91]⟩ ++ S i ++ ⟨#[93, 58, 32]⟩ ++ S d = S (91 :: (i ++ 93 :: 58 :: 32 :: d)) := by
      rw [show (⟨#[91]⟩ : ByteArray) = S [91] from rfl, show (⟨#[93, 58, 32]⟩ : ByteArray) = S [93, 58, 32] from rfl, S_app, S_app, S_app]
      congr 1
      simp
    have HOut := Lib.hid (fun (w' : World) (h : Below w.heap.size w w') => out_one h.size (91 :: (i ++ 93 :: 58 :: 32 :: d) : Tx))
    rw [← hE] at HOut
    have hsd : (S d).size ≤ 20000 := by rw [S_size]; omega
    have hs1 : (⟨#[91]⟩ ++ S i).size ≤ 20001 := by rw [ByteArray.size_append]; show 1 + _ ≤ _; omega
    have hs2 : (⟨#[91]⟩ ++ S i ++ ⟨#[93, 58, 32]⟩).size ≤ 20004 := by rw [ByteArray.size_append]; show _ + 3 ≤ _; omega
    have hone1 : (List.length [d]) = 1 := rfl
    obtain ⟨bb, o, hbo, c0⟩ := HRd0.out w (Below.refl _ _)
    subst hbo
    clear hx2 hsz1 HIn HRd HSp HTr hx hE c0 HZ1
    generalize (91 :: (i ++ 93 :: 58 :: 32 :: d)) = L at *
    generalize S i = si at *
    generalize S d = sd at *
    generalize l.length = kn at *
    generalize ss.length = sn at *
    rw [hone1] at HB1 HC1 ⊢
    clear hone1
    go_enter Tryz.func33, Tryz.ntmps33
    go_upto_region 1 with fail
    generalize w.alloc (.cells #[.int .i64 8, .int .i64 lv, .string si, .slice (some ⟨bb, o, none⟩) 1 cl, .slice as' sn cs, .slice ak kn ck] 46) = w1 at *
    have k0 : w1.cell? ⟨w.heap.size, 0, none⟩ = some (.int .i64 8) := cell_at HC1.out 0
    have k2 : w1.cell? ⟨w.heap.size, 2, none⟩ = some (.string si) := cell_at HC1.out 2
    have k3 : w1.cell? ⟨w.heap.size, 3, none⟩ = some (.slice (some ⟨bb, o, none⟩) 1 cl) := cell_at HC1.out 3
    obtain ⟨bb', o', hbo, c0⟩ := HRd0.out w1 HB1.out
    simp only [Option.some.injEq, Addr.mk.injEq, and_true] at hbo
    obtain ⟨rfl, rfl⟩ := hbo
    clear HC1 HRd0
    have m2 : ({ heap := w1.heap, tape := w1.tape, drawn := w1.drawn + 1, os := w1.os, output := w1.output } : World).cell? ⟨w.heap.size, 2, none⟩ = some (.string si) := k2
    have m3 : ({ heap := w1.heap, tape := w1.tape, drawn := w1.drawn + 1, os := w1.os, output := w1.output } : World).cell? ⟨w.heap.size, 3, none⟩ = some (.slice (some ⟨bb, o, none⟩) 1 cl) := k3
    have m0 : ({ heap := w1.heap, tape := w1.tape, drawn := w1.drawn + 1, os := w1.os, output := w1.output } : World).cell? ⟨bb, o, none⟩ = some (.string sd) := c0
    have n1 : ¬ 9223372036854775807 < 1 + si.size := by omega
    have n2 : ¬ 9223372036854775807 < (⟨#[91]⟩ ++ si).size + 3 := by omega
    have n3 : ¬ 9223372036854775807 < (⟨#[91]⟩ ++ si ++ ⟨#[93, 58, 32]⟩).size + sd.size := by omega
    have n4 : ¬ 9223372036854775807 < 1 + si.size + 3 := by omega
    have n5 : ¬ 9223372036854775807 < 1 + si.size + 3 + sd.size := by omega
    go_upto_region 38 with fail
    go_still_tail 9, (by kernel_rfl)
    change wpList _ _ _ _ _ w1.drew
    have HB2 : Hid (Below w.heap.size w w1.drew) := Lib.hid HB1.out.drew
    generalize w1.drew = w2 at *
    have HO := Lib.hid (HOut.out w2 HB2.out)
    have HB3 := Lib.hid (HB2.out.alloc HB2.out.size (.cells #[.string (⟨#[91]⟩ ++ si ++ ⟨#[93, 58, 32]⟩ ++ sd)] 9))
    clear HOut m0 m2 m3 k0 k2 k3 c0 HB1 HB2
    go_wp2_with fail
    go_ret
    exact ⟨_, rfl, HO.out, HB3.out⟩
  · cases hx2
end Go.Proofs.YthpnbialpkkpgaaGreatDoor.Wr
