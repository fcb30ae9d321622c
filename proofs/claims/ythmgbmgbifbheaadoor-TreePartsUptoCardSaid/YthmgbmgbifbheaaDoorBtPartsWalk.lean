/-
  THE WALK of the statement TreeParts (of what is not too much for a machine).
-/
import Derived.Test.YthmgbmgbifbheaaDoorBt10Told
import Derived.Test.YthmgbmgbifbheaaDoorBtParts
import Derived.Test.YthmgbmgbifbheaaDoorBtRow
import Derived.Lib.AppendZeros
import Derived.Deep.RegionHeld3
namespace Go.Proofs.YthmgbmgbifbheaaDoor.Bt
open Go.RowKit
open Go.Proofs.YthmgbmgbifbheaaDoor.Tk (S S_of S_list S_size S_toList ret_int Rd)
open Go.Proofs.YthmgbmgbifbheaaDoor.Cm (calls_at)
open Go.Proofs.YthmgbmgbifbheaaDoor.Sp (Sp Tr ret_bool OkAns)
open Go.Proofs.YthmgbmgbifbheaaDoor.Bk (Bk)
set_option linter.unusedVariables false

set_option maxHeartbeats 6400000 in
set_option maxRecDepth 100000 in
theorem treeParts_walk (K : Told10) (w : World) (va : Value) (a : List Bk) (ra : TrB w va a) (fa : fitAll reachBytes a) (ta : ttAll a ≤ 1048576) (vb : Value) (b : List Bk) (rb : TrB w vb b) (fb : fitAll reachBytes b) (tb : ttAll b ≤ 1048576) (tab : ttAll a + ttAll b ≤ 1048576) :
    Calls Tryd.prog 6 #[va, vb] w (OkAns w true) := by
  obtain ⟨aa, ca, rfl⟩ := ra.len
  obtain ⟨ab, cb, rfl⟩ := rb.len
  have RA := Lib.hid ra
  have RB := Lib.hid rb
  have fsa := fitAll_tt a fa ta
  have fsb := fitAll_tt b fb tb
  have HA := Lib.hid (awake10_any K)
  have FA := Lib.hid (fun w' (h : Below w.heap.size w w') => few10_any a _ w' (ra.below h) fa)
  have FB := Lib.hid (fun w' (h : Below w.heap.size w w') => few10_any b _ w' (rb.below h) fb)
  have S1 := Lib.hid (fun w' (h : Below w.heap.size w w') => K.right _ a w' (ra.below h) fsa (by omega))
  have S2 := Lib.hid (fun w' (h : Below w.heap.size w w') => K.right _ b w' (rb.below h) fsb (by omega))
  have C1 := Lib.hid (fun w' (h : Below w.heap.size w w') => K.count _ a w' (ra.below h) (fit47 fa) (by omega))
  have C2 := Lib.hid (fun w' (h : Below w.heap.size w w') => K.count _ b w' (rb.below h) (fit47 fb) (by omega))
  have L1 := Lib.hid (fun v w' (h : TrB w' v (a ++ rule :: b)) => K.right v _ w' h (mid_fit fsa fsb) (by rw [mid_tt]; omega))
  have L2 := Lib.hid (fun v w' (h : TrB w' v (a ++ rule :: b)) => K.count v _ w' h (mid_fit (fit47 fa) (fit47 fb)) (by rw [mid_tt]; omega))
  have P1 := Lib.hid (fun k (hk : k < a.length) v w' (h : TrB w' v [a[k]]) (hr : rgB a = true) => by
    have hm := List.getElem_mem hk
    have ht := ttAll_mem hm
    have := K.right v _ w' h (fitAll_of (fun x hx => by rw [List.mem_singleton.1 hx]; exact fitAll_at fsa _ hm)) (by rw [ttAll_cons, ttAll]; omega)
    rw [one_rg hr hm] at this
    exact this)
  have P2 := Lib.hid (fun k (hk : k < a.length) v w' (h : TrB w' v [.mk 7 0 [] [] [] [a[k]]]) => by
    have hm := List.getElem_mem hk
    have ht := ttAll_mem hm
    have f1 : fitAll 1048576 [a[k]] := fitAll_of (fun x hx => by rw [List.mem_singleton.1 hx]; exact fitAll_at fsa _ hm)
    have := K.right v _ w' h (by rw [fitAll, fitOne, fitAll]; exact ⟨⟨by omega, by omega, by simp, fun s hs => (by cases hs), by unfold Sp.fitAll; trivial, f1⟩, trivial⟩) (by rw [ttAll_cons, ttOne, ttAll, ttAll_cons, ttAll]; simp [lnTot, Sp.totAll]; omega)
    rw [item_rg] at this
    exact this)
  have P3 := Lib.hid (fun k (hk : k < a.length) v w' (h : TrB w' v [a[k], a[k]]) (h6 : a[k].kind = 6) => by
    have hm := List.getElem_mem hk
    have ht := ttAll_mem hm
    have := K.right v _ w' h (fitAll_of (fun x hx => by simp at hx; rw [hx]; exact fitAll_at fsa _ hm)) (by rw [ttAll_cons, ttAll_cons, ttAll]; omega)
    rw [two_rg h6] at this
    exact this)
  have P4 := Lib.hid (fun k (hk : k < a.length) v w' (h : TrB w' v a[k].kids) (h6 : a[k].kind = 6) (hr : rgB a = true) => by
    have hm := List.getElem_mem hk
    have ht := ttAll_mem hm
    rw [ttOne_eq] at ht
    have := K.right v _ w' h (fitOne_eq.1 (fitAll_at fsa _ hm)).2.2.2.2.2 (by omega)
    rw [kids_rg hr hm h6] at this
    exact this)
  have la : a.length ≤ 2100000 := by have h1 := sz_tt a; have h2 := szAll_len a; omega
  have lab : a.length + b.length ≤ 2100000 := by have h1 := sz_tt a; have h2 := szAll_len a; have h3 := sz_tt b; have h4 := szAll_len b; omega
  have e1 : cnt (a ++ rule :: b) = cnt a + cnt b + 1 := by
    rw [cnt_is (by rw [mid_tt]; omega), cnt_is (by omega), cnt_is (by omega), mid_sz]
    omega
  have e5 : 0 ≤ cnt a ∧ cnt a ≤ 2100000 ∧ 0 ≤ cnt b ∧ cnt b ≤ 2100000 := by
    rw [cnt_is (by omega), cnt_is (by omega)]
    have h1 := sz_tt a
    have h3 := sz_tt b
    omega
  rw [e1] at L2
  have hmid := fun h1 h2 => mid_rg (a := a) (b := b) h1 h2
  clear ra rb fa fb fsa fsb ta tb tab K e1
  go_enter Tryd.func6, Tryd.ntmps6
  go_wp2_with fail
  refine (HA.out _).mono ?_
  rintro e w2 ⟨rfl, b2⟩
  have H2 := Lib.hid b2
  clear b2
  go_wp2_with fail
  refine (FA.out _ H2.out).mono ?_
  rintro e w3 ⟨rfl, n3, rfl⟩
  have H3 := Lib.hid (below_drewN H2.out n3)
  clear FA
  generalize w2.drewN n3 = w3 at *
  cases hf : fewB a with
  | false =>
    go_wp2_with fail
    refine (HA.out _).mono ?_
    rintro e w4 ⟨rfl, b4⟩
    have H4 := Lib.hid (H3.out.trans (b4.mono H3.out.size))
    clear b4
    go_wp2_with fail
    go_ret
    exact ⟨rfl, H4.out⟩
  | true =>
    clear hf
    go_wp2_with fail
    refine (FB.out _ H3.out).mono ?_
    rintro e w4 ⟨rfl, n4, rfl⟩
    have H4 := Lib.hid (below_drewN H3.out n4)
    clear FB
    generalize w3.drewN n4 = w4 at *
    cases hg : fewB b with
    | false =>
      go_wp2_with fail
      refine (HA.out _).mono ?_
      rintro e w5 ⟨rfl, b5⟩
      have H5 := Lib.hid (H4.out.trans (b5.mono H4.out.size))
      clear b5
      go_wp2_with fail
      go_ret
      exact ⟨rfl, H5.out⟩
    | true =>
      clear hg
      go_wp2_with fail
      refine (S1.out _ H4.out).mono ?_
      rintro e w5 ⟨rfl, b5⟩
      have H5 := Lib.hid (H4.out.trans (b5.mono H4.out.size))
      clear b5 S1
      cases hra : rgB a with
      | false =>
        go_wp2_with fail
        refine (HA.out _).mono ?_
        rintro e w6 ⟨rfl, b6⟩
        have H6 := Lib.hid (H5.out.trans (b6.mono H5.out.size))
        clear b6
        go_wp2_with fail
        go_ret
        exact ⟨rfl, H6.out⟩
      | true =>
        go_wp2_with fail
        refine (S2.out _ H5.out).mono ?_
        rintro e w6 ⟨rfl, b6⟩
        have H6 := Lib.hid (H5.out.trans (b6.mono H5.out.size))
        clear b6 S2
        cases hrb : rgB b with
        | false =>
          go_wp2_with fail
          refine (HA.out _).mono ?_
          rintro e w7 ⟨rfl, b7⟩
          have H7 := Lib.hid (H6.out.trans (b7.mono H6.out.size))
          clear b7
          go_wp2_with fail
          go_ret
          exact ⟨rfl, H7.out⟩
        | true =>
          rw [hmid hra hrb] at L1
          have Q1 := Lib.hid (fun k (hk : k < a.length) v w' (h : TrB w' v [a[k]]) => P1.out k hk v w' h hra)
          have Q4 := Lib.hid (fun k (hk : k < a.length) v w' (h : TrB w' v a[k].kids) (h6 : a[k].kind = 6) => P4.out k hk v w' h h6 hra)
          clear HA hmid hra hrb P1 P4 H4 H5 H3 H2
          go_wp2_with fail
          go_loopw [32] (fun i wr => ∃ k : Nat, k ≤ a.length ∧ i = .int .i64 k ∧ Hid (Below w.heap.size w wr)) (fun i _ => a.length - (intOf i).toNat)
          case atStart => exact ⟨0, Nat.zero_le _, rfl, H6⟩
          case round =>
            clear H6
            obtain ⟨k, hk, rfl, HB⟩ := hrel
            by_cases hlt : k < a.length
            · have hi1 : (k : Int) < (a.length : Int) := by omega
              have hT := RA.out.below HB.out
              obtain ⟨bk, ok, vl, vs, ak, ck, rfl, hbk, hC⟩ := hT.at k hlt
              obtain ⟨hS, hcap⟩ := sliceB hT k hlt
              have hs1 : (k : Int) + 1 ≤ (ca : Int) := by omega
              have hs2 : IntKind.i64.wrap ((k : Int) + 1) = (k : Int) + 1 := by rw [IntKind.wrap_i64]; omega
              have hkc : k < ca := by omega
              have HSl := Lib.hid hS
              have HCl := Lib.hid hC
              clear hT hS hC
              go_wp2_with fail
              refine (Q1.out k hlt _ _ HSl.out).mono ?_
              rintro e w7 ⟨rfl, b7⟩
              have H7 := Lib.hid (HB.out.trans (b7.mono HB.out.size))
              have hSi := litB (k := 7) (lv := 0) (i := []) (nilR w7) (by simp) (nilS w7) (HSl.out.below b7) 32
              rw [show S [] = ⟨#[]⟩ from rfl] at hSi
              have HSi := Lib.hid hSi
              have H8 := Lib.hid (H7.out.alloc H7.out.size (.cells #[.int .i64 7, .int .i64 0, .string ⟨#[]⟩, .slice none 0 0, .slice none 0 0, .slice (some ⟨bk, ok + k * 6, none⟩) 1 (ca - k)] 32))
              clear b7 hSi HSl HCl
              go_wp2_with fail
              refine (P2.out k hlt _ _ HSi.out).mono ?_
              rintro e w9 ⟨rfl, b9⟩
              have H9 := Lib.hid (H8.out.trans (b9.mono H8.out.size))
              clear b9 H7 H8 HSi
              obtain ⟨bk', ok', vl, vs, ak, ck, hao, lt9, hC⟩ := (RA.out.below H9.out).at k hlt
              simp only [Option.some.injEq, Addr.mk.injEq, and_true] at hao
              obtain ⟨rfl, rfl⟩ := hao
              obtain ⟨al, cl, rfl⟩ := hC.rd.len
              obtain ⟨as', cs, rfl⟩ := hC.sp.len
              have c0 := hC.kind
              have c1 := hC.level
              have c2 := hC.info
              have c3 := hC.lines
              have c4 := hC.spans
              have c5 := hC.kids
              go_upto_region 8 with fail
              go_cut [32, 77] from 32 to 78 (fun i s wx => i = .int .i64 k ∧ s = .bool false ∧ Hid (Below w.heap.size w wx))
              case first =>
                by_cases h6 : a[k].kind = 6
                · have HC3 : Hid (∀ W, Below w9.heap.size w9 W → Calls Tryd.prog 11 #[.slice (some ⟨W.heap.size, 0, none⟩) 2 2] (W.alloc (.cells #[.int .i64 a[k].kind, .int .i64 a[k].level, .string (S a[k].info), .slice al a[k].lines.length cl, .slice as' a[k].spans.length cs, .slice ak a[k].kids.length ck, .int .i64 a[k].kind, .int .i64 a[k].level, .string (S a[k].info), .slice al a[k].lines.length cl, .slice as' a[k].spans.length cs, .slice ak a[k].kids.length ck] 32)) (OkAns (W.alloc (.cells #[.int .i64 a[k].kind, .int .i64 a[k].level, .string (S a[k].info), .slice al a[k].lines.length cl, .slice as' a[k].spans.length cs, .slice ak a[k].kids.length ck, .int .i64 a[k].kind, .int .i64 a[k].level, .string (S a[k].info), .slice al a[k].lines.length cl, .slice as' a[k].spans.length cs, .slice ak a[k].kids.length ck] 32)) false)) := Lib.hid (fun W hW => by
                    obtain ⟨bk', ok', vl', vs', ak', ck', hao, _, hD⟩ := (RA.out.below (H9.out.trans (hW.mono H9.out.size))).at k hlt
                    simp only [Option.some.injEq, Addr.mk.injEq, and_true] at hao
                    obtain ⟨rfl, rfl⟩ := hao
                    have q3 := hD.lines
                    have q4 := hD.spans
                    have q5 := hD.kids
                    rw [(hW.cell (p := ⟨bk, ok + k * 6 + 3, none⟩) (by exact lt9)).trans c3] at q3
                    rw [(hW.cell (p := ⟨bk, ok + k * 6 + 4, none⟩) (by exact lt9)).trans c4] at q4
                    rw [(hW.cell (p := ⟨bk, ok + k * 6 + 5, none⟩) (by exact lt9)).trans c5] at q5
                    simp only [Option.some.injEq] at q3 q4
                    simp only [Option.some.injEq, Value.slice.injEq, true_and] at q5
                    obtain ⟨rfl, rfl⟩ := q5
                    subst q3
                    subst q4
                    exact P3.out k hlt _ _ (twoB hD 32) h6)
                  have HC4 : Hid (∀ W, Below w9.heap.size w9 W → Calls Tryd.prog 11 #[.slice ak a[k].kids.length ck] W (OkAns W false)) := Lib.hid (fun W hW => Q4.out k hlt _ W (hC.tr.below hW) h6)
                  have HS0 : Hid (∀ W, Below w9.heap.size w9 W → W.cell? ⟨bk, ok + k * 6, none⟩ = some (.int .i64 a[k].kind) ∧ W.cell? ⟨bk, ok + k * 6 + 1, none⟩ = some (.int .i64 a[k].level) ∧ W.cell? ⟨bk, ok + k * 6 + 2, none⟩ = some (.string (S a[k].info)) ∧ W.cell? ⟨bk, ok + k * 6 + 3, none⟩ = some (.slice al a[k].lines.length cl) ∧ W.cell? ⟨bk, ok + k * 6 + 4, none⟩ = some (.slice as' a[k].spans.length cs) ∧ W.cell? ⟨bk, ok + k * 6 + 5, none⟩ = some (.slice ak a[k].kids.length ck)) := Lib.hid (fun W hW => ⟨(hW.cell (by exact lt9)).trans c0, (hW.cell (by exact lt9)).trans c1, (hW.cell (by exact lt9)).trans c2, (hW.cell (by exact lt9)).trans c3, (hW.cell (by exact lt9)).trans c4, (hW.cell (by exact lt9)).trans c5⟩)
                  rw [h6] at HC3 HS0 c0
                  clear h6 hC Q1 Q4 P2 P3 HB
                  generalize a[k].level = lv at *
                  generalize S a[k].info = si at *
                  generalize a[k].lines.length = ln at *
                  generalize a[k].spans.length = sn at *
                  generalize a[k].kids.length = kn at *
                  have HS : Hid (∀ W, Below w9.heap.size w9 W → W.cell? ⟨bk, ok + k * 6, none⟩ = some (.int .i64 6) ∧ W.cell? ⟨bk, ok + k * 6 + 1, none⟩ = some (.int .i64 lv) ∧ W.cell? ⟨bk, ok + k * 6 + 2, none⟩ = some (.string si) ∧ W.cell? ⟨bk, ok + k * 6 + 3, none⟩ = some (.slice al ln cl) ∧ W.cell? ⟨bk, ok + k * 6 + 4, none⟩ = some (.slice as' sn cs) ∧ W.cell? ⟨bk, ok + k * 6 + 5, none⟩ = some (.slice ak kn ck)) := HS0
                  clear HS0 c0 c1 c2 c3 c4 c5
                  have bD : Below w9.heap.size w9 w9.drew := (Below.refl _ _).drew
                  go_region_held3 (fun W => W.cell? ⟨bk, ok + k * 6, none⟩ = some (.int .i64 6) ∧ W.cell? ⟨bk, ok + k * 6 + 1, none⟩ = some (.int .i64 lv) ∧ W.cell? ⟨bk, ok + k * 6 + 2, none⟩ = some (.string si) ∧ W.cell? ⟨bk, ok + k * 6 + 3, none⟩ = some (.slice al ln cl) ∧ W.cell? ⟨bk, ok + k * 6 + 4, none⟩ = some (.slice as' sn cs) ∧ W.cell? ⟨bk, ok + k * 6 + 5, none⟩ = some (.slice ak kn ck))
                    (first | exact HS.out _ (Below.refl _ _) | exact HS.out _ bD | exact HS.out _ (bD.alloc bD.size _) | exact HS.out _ ((bD.alloc bD.size _).trans (b10.mono (bD.alloc bD.size _).size)) | exact HS.out _ (((bD.alloc bD.size _).trans (b10.mono (bD.alloc bD.size _).size)).trans (b11.mono ((bD.alloc bD.size _).trans (b10.mono (bD.alloc bD.size _).size)).size)))
                    (first
                      | (go_at_call 11; refine (HC3.out _ bD).mono ?_; rintro e w10 ⟨rfl, b10⟩)
                      | (go_at_call 11; refine (HC4.out _ ((bD.alloc bD.size _).trans (b10.mono (bD.alloc bD.size _).size))).mono ?_; rintro e w11 ⟨rfl, b11⟩))
                  have bZ := ((bD.alloc bD.size (.cells #[.int .i64 6, .int .i64 lv, .string si, .slice al ln cl, .slice as' sn cs, .slice ak kn ck, .int .i64 6, .int .i64 lv, .string si, .slice al ln cl, .slice as' sn cs, .slice ak kn ck] 32)).trans (b10.mono (bD.alloc bD.size _).size)).trans (b11.mono ((bD.alloc bD.size _).trans (b10.mono (bD.alloc bD.size _).size)).size)
                  have HZ := Lib.hid (H9.out.trans (bZ.mono H9.out.size))
                  clear bZ b10 b11 HS HC3 HC4
                  go_wp2_with fail
                  go_meet
                  exact ⟨rfl, rfl, HZ⟩
                · have f6 : (a[k].kind == 6) = false := beq_eq_false_iff_ne.2 h6
                  clear hC HB h6 Q1 Q4 P2 P3
                  generalize a[k].kind = q at *
                  clear c1 c2 c3 c4 c5
                  go_wp2_with fail
                  go_quiet (fail)
                  have H10 := Lib.hid (below_drewN H9.out nq)
                  go_wp2_with fail
                  go_meet
                  exact ⟨rfl, rfl, H10⟩
              case rest =>
                obtain ⟨rfl, rfl, HX⟩ := hcut
                clear hC c0 c1 c2 c3 c4 c5
                go_wp2_with fail
                go_roundw
                case rel => exact ⟨k + 1, by omega, by go_num, HX⟩
                case measure => simp [intOf] <;> omega
            · obtain rfl : k = a.length := by omega
              clear hlt Q1 Q4 P2 P3
              obtain ⟨pa, hpa, rka, kka⟩ := RA.out.pairs
              obtain ⟨pb, hpb, rkb, kkb⟩ := RB.out.pairs
              have lpa : pa.length = a.length := by rw [← hpa, List.length_map]
              have lpb : pb.length = b.length := by rw [← hpb, List.length_map]
              have hba : Below wr.heap.size wr (wr.alloc (.cells #[] 32)) := (Below.refl _ _).alloc (Nat.le_refl _) _
              have Hba := HB.out.trans (hba.mono HB.out.size)
              have oA : (wr.alloc (.cells #[] 32)).ownsRow wr.heap.size 32 6 (.slice (some ⟨wr.heap.size, 0, none⟩) 0 0) ([] : List (Bk × Value × Value × Value)).length (([] : List (Bk × Value × Value × Value)).flatMap encT) := World.ownsRow_lit wr #[] 0 (Nat.le_refl _) (Nat.zero_le _) rfl
              obtain ⟨v5, w5, q5, o5, g5⟩ := run_append_bk oA (rka.below Hba) (fun p hp => (kka p hp).below Hba) (by simp) (by simp; omega)
              have hb5 := hba.grown g5 (by simp) (fun k hk => (oA.lt k hk).1)
              have H5 := HB.out.trans (hb5.mono HB.out.size)
              have hbl : Below w5.heap.size w5 (w5.alloc (.cells #[.int .i64 3, .int .i64 0, .string ⟨#[]⟩, .slice none 0 0, .slice none 0 0, .slice none 0 0] 32)) := (Below.refl _ _).alloc (Nat.le_refl _) _
              have tl := litB (k := 3) (lv := 0) (i := []) (nilR w5) (by simp) (nilS w5) (nilB w5) 32
              rw [show S [] = ⟨#[]⟩ from rfl] at tl
              obtain ⟨pt, hpt, rkt, kkt⟩ := tl.pairs
              have lpt : pt.length = 1 := by rw [← List.length_map (f := (·.1)), hpt]; rfl
              obtain ⟨v6, w6, q6, o6, g6⟩ := run_append_bk (o5.alloc (.cells #[.int .i64 3, .int .i64 0, .string ⟨#[]⟩, .slice none 0 0, .slice none 0 0, .slice none 0 0] 32)) rkt kkt (Nat.le_trans hb5.size hbl.size) (by simp; omega)
              have hb5' := hb5.trans (hbl.mono hb5.size)
              have hb6 := hb5'.grown g6 hb5'.size (fun k hk => ((o5.alloc (.cells #[.int .i64 3, .int .i64 0, .string ⟨#[]⟩, .slice none 0 0, .slice none 0 0, .slice none 0 0] 32)).lt k hk).1)
              have H6 := HB.out.trans (hb6.mono HB.out.size)
              obtain ⟨v7, w7, q7, o7, g7⟩ := run_append_bk o6 (rkb.below H6) (fun p hp => (kkb p hp).below H6) hb6.size (by simp; omega)
              have hb7 := hb6.grown g7 hb6.size (fun k hk => (o6.lt k hk).1)
              have H7 := Lib.hid (HB.out.trans (hb7.mono HB.out.size))
              have hpr : ∀ p ∈ pt, KB w7 p := fun p hp => by
                have hm : p.1 ∈ pt.map (·.1) := List.mem_map.2 ⟨p, hp, rfl⟩
                rw [hpt, List.mem_singleton] at hm
                obtain ⟨r1, r2, r3, r4⟩ := kkt p hp
                rw [show p.1.lines = [] by rw [hm]; rfl] at r1 r2
                rw [show p.1.spans = [] by rw [hm]; rfl] at r3
                rw [show p.1.kids = [] by rw [hm]; rfl] at r4
                obtain ⟨ao1, c1, hv1, hc1, _⟩ := r1
                obtain ⟨ao3, c3, hv3, hc3, _⟩ := r3
                obtain ⟨ao4, c4, hv4, hc4, _⟩ := r4
                refine ⟨?_, ?_, ?_, ?_⟩
                · rw [show p.1.lines = [] by rw [hm]; rfl]; exact ⟨ao1, c1, hv1, hc1, Or.inl rfl⟩
                · rw [show p.1.lines = [] by rw [hm]; rfl]; simp
                · rw [show p.1.spans = [] by rw [hm]; rfl]; exact ⟨ao3, c3, hv3, hc3, Or.inl rfl⟩
                · rw [show p.1.kids = [] by rw [hm]; rfl]; exact ⟨ao4, c4, hv4, hc4, Or.inl rfl⟩
              have hT := TrB.of_own o7 (fun p hp => by
                rw [List.nil_append, List.mem_append, List.mem_append] at hp
                rcases hp with (hp | hp) | hp
                · exact (kka p hp).below H7.out
                · exact hpr p hp
                · exact (kkb p hp).below H7.out)
              rw [List.nil_append, List.map_append, List.map_append, hpa, hpt, hpb, show a ++ [Bk.mk 3 0 [] [] [] []] ++ b = a ++ rule :: b by simp [rule]] at hT
              obtain ⟨l, hl⟩ : ∃ l, a ++ rule :: b = l := ⟨_, rfl⟩
              rw [hl] at hT L1 L2
              obtain ⟨a7, c7, rfl⟩ := hT.len
              have HT := Lib.hid hT
              obtain ⟨a5, c5, rfl⟩ : ∃ ao cap, v5 = .slice ao ([] ++ pa).length cap := by
                rcases o5.2 with ⟨rfl, hz⟩ | ⟨g, cap, _, rfl, _⟩
                · exact ⟨none, 0, by rw [hz]⟩
                · exact ⟨_, _, rfl⟩
              obtain ⟨a6, c6, rfl⟩ : ∃ ao cap, v6 = .slice ao ([] ++ pa ++ pt).length cap := by
                rcases o6.2 with ⟨rfl, hz⟩ | ⟨g, cap, _, rfl, _⟩
                · exact ⟨none, 0, by rw [hz]⟩
                · exact ⟨_, _, rfl⟩
              clear hT hpr o7 g7 hb7 o6 g6 hb6 H6 hb5' rkt kkt tl hbl H5 o5 g5 hb5 oA hba Hba rka rkb kka kkb hpa hpb hpt lpa lpb lpt hl la lab RA RB HB
              generalize cnt a = na at *
              generalize cnt b = nb at *
              generalize l.length = ln at *
              generalize ([] ++ pa ++ pt).length = n6 at *
              generalize ([] ++ pa).length = n5 at *
              have wn : IntKind.i64.wrap (na + nb) = na + nb := by rw [IntKind.wrap_i64]; omega
              have wn1 : IntKind.i64.wrap (na + nb + 1) = na + nb + 1 := by rw [IntKind.wrap_i64]; omega
              clear e5
              go_wp2_with (first
                | (at_builtin; refine Lib.wpList_append_run _ rfl (.tmp 79) (.tmp 80) _ _ rfl _ _ rfl rfl _ _ (q5 _) ?_)
                | (at_builtin; refine Lib.wpList_append_run _ rfl (.tmp 81) (.tmp 83) _ _ rfl _ _ rfl rfl _ _ (q6 _) ?_)
                | (at_builtin; refine Lib.wpList_append_run _ rfl (.tmp 84) (.tmp 85) _ _ rfl _ _ rfl rfl _ _ (q7 _) ?_))
              refine (L1.out _ _ HT.out).mono ?_
              rintro e w8 ⟨rfl, b8⟩
              have H8 := Lib.hid (H7.out.trans (b8.mono H7.out.size))
              have T8 := Lib.hid (HT.out.below b8)
              clear b8 H7 HT q5 q6 q7 L1
              go_wp2_with fail
              refine (L2.out _ _ T8.out).mono ?_
              rintro e w9 ⟨rfl, b9⟩
              have H9 := Lib.hid (H8.out.trans (b9.mono H8.out.size))
              clear b9 T8 L2 H8
              go_wp2_with fail
              refine (C1.out _ H9.out).mono ?_
              rintro e w10 ⟨rfl, b10⟩
              have H10 := Lib.hid (H9.out.trans (b10.mono H9.out.size))
              clear b10 C1 H9
              go_wp2_with fail
              refine (C2.out _ H10.out).mono ?_
              rintro e w11 ⟨rfl, b11⟩
              have H11 := Lib.hid (H10.out.trans (b11.mono H10.out.size))
              clear b11 C2 H10
              go_wp2_with fail
              go_ret
              exact ⟨by simp, H11.out⟩

end Go.Proofs.YthmgbmgbifbheaaDoor.Bt
