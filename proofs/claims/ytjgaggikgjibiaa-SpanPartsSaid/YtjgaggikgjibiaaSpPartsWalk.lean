/-
  THE WALK of the statement SpanParts.
-/
import Derived.Test.YtjgaggikgjibiaaSpParts
import Derived.Test.YtjgaggikgjibiaaSpCut
import Derived.Deep.RegionLaw
namespace Go.Proofs.Ytjgaggikgjibiaa.Sp
open Go.RowKit
open Go.Proofs.Ytjgaggikgjibiaa.Tk (S S_of S_list S_size S_toList S_app ret_int len_data)
open Go.Proofs.Ytjgaggikgjibiaa.Cm (calls_at Rk Rk.of_own flat_get Keep own_keep cell_at alloc_new alloc_at lt_of_at step_append_run)
set_option linter.unusedVariables false
set_option linter.unusedSimpArgs false

theorem fitAll_app {R : Nat} {l m : List Sp} (h1 : fitAll R l) (h2 : fitAll R m) : fitAll R (l ++ m) :=
  fitAll_of (fun x hx => by
    rcases List.mem_append.1 hx with h | h
    · exact fitAll_at h1 x h
    · exact fitAll_at h2 x h)
theorem totAll_take_drop (a : List Sp) (k : Nat) : totAll (a.take k) + totAll (a.drop k) = totAll a := by
  rw [← totAll_app, List.take_append_drop]

set_option maxHeartbeats 6400000 in
set_option maxRecDepth 100000 in
theorem spanParts_walk (K : Told) (w : World) (va : Value) (a : List Sp) (ra : Tr w va a) (fa : fitAll reachBytes a) (vb : Value) (b : List Sp) (rb : Tr w vb b) (fb : fitAll reachBytes b) (s : ByteArray) (hs : s.size ≤ maxLen) (hr : s.size ≤ reachBytes) :
    Calls Try.prog 5 #[va, vb, .string s] w (OkAns w true) := by
  obtain ⟨aa, ca, rfl⟩ := ra.len
  obtain ⟨ab, cb, rfl⟩ := rb.len
  have HA := Lib.hid (awake7_any K)
  have RA := Lib.hid ra
  have RB := Lib.hid rb
  have FA := Lib.hid (fun w' (h : Below w.heap.size w w') => few7_any a _ w' (RA.out.below h) fa)
  have FB := Lib.hid (fun w' (h : Below w.heap.size w w') => few7_any b _ w' (RB.out.below h) fb)
  have hrb : reachBytes ≤ 140737488355328 := by decide
  clear ra rb hs
  go_enter Try.func5, Try.ntmps5
  go_wp2_with fail
  refine (HA.out _).mono ?_
  rintro e w2 ⟨rfl, b2⟩
  have H2 := Lib.hid b2
  clear b2
  go_wp2_with fail
  refine (FA.out _ H2.out).mono ?_
  rintro e w3 ⟨rfl, rfl⟩
  clear FA
  cases ha : fewB a with
  | false =>
    go_wp2_with fail
    refine (HA.out _).mono ?_
    rintro e w4 ⟨rfl, b4⟩
    have H4 := Lib.hid (H2.out.trans (b4.mono H2.out.size))
    clear b4
    go_wp2_with fail
    go_ret
    exact ⟨rfl, H4.out⟩
  | true =>
    go_wp2_with fail
    refine (FB.out _ H2.out).mono ?_
    rintro e w3 ⟨rfl, rfl⟩
    clear FB
    cases hb : fewB b with
    | false =>
      go_wp2_with fail
      refine (HA.out _).mono ?_
      rintro e w4 ⟨rfl, b4⟩
      have H4 := Lib.hid (H2.out.trans (b4.mono H2.out.size))
      clear b4
      go_wp2_with fail
      go_ret
      exact ⟨rfl, H4.out⟩
    | true =>
      by_cases hl : s.size ≤ 1000
      · have ta := (few_of ha).1
        have tb := (few_of hb).1
        have la := totAll_len a
        have lb := totAll_len b
        have hsl : s.data.toList.length ≤ 1000 := by rw [len_data]; exact hl
        have SA := Lib.hid (fun w' (h : Below w.heap.size w w') => K.right _ a w' (RA.out.below h) (by omega) (fit_reach fa))
        have SB := Lib.hid (fun w' (h : Below w.heap.size w w') => K.right _ b w' (RB.out.below h) (by omega) (fit_reach fb))
        have fc : fitAll 140737488355328 [Sp.mk 2 s.data.toList []] := by
          unfold fitAll fitOne
          exact ⟨⟨by omega, by omega, by unfold fitAll; trivial⟩, by unfold fitAll; trivial⟩
        have tc : totAll [Sp.mk 2 s.data.toList []] ≤ 2000 := by rw [totAll_cons, totOne_eq]; simp [Sp.s, Sp.kids, totAll]; omega
        have SC : Hid (∀ w' : World, Calls Try.prog 12 #[.slice (some ⟨w'.heap.size, 0, none⟩) 1 1] (w'.alloc (.cells #[.int .i64 2, .string s, .slice none 0 0] 31)) (OkAns (w'.alloc (.cells #[.int .i64 2, .string s, .slice none 0 0] 31)) (rtB [Sp.mk 2 s.data.toList []]))) := Lib.hid (fun w' => by
          have := K.right _ _ _ (tr_one (q := 2) (s := s.data.toList) (tr_nil w') 31) (by omega) fc
          rw [S_of] at this
          exact this)
        go_upto_region 4 with fail
        have HB3 := Lib.hid (H2.out.trans (((Below.refl w2.heap.size w2).alloc (Nat.le_refl _) (.cells #[.int .i64 2, .string s, .slice none 0 0] 31)).mono H2.out.size))
        have HC3 := Lib.hid (alloc_new w2 (.cells #[.int .i64 2, .string s, .slice none 0 0] 31))
        have hC3 : w2.heap.size < (w2.alloc (.cells #[.int .i64 2, .string s, .slice none 0 0] 31)).heap.size := by simp
        generalize w2.alloc (.cells #[.int .i64 2, .string s, .slice none 0 0] 31) = w3 at *
        generalize w2.heap.size = C at *
        have HK : Hid (∀ w' : World, Below w3.heap.size w3 w' → Below w.heap.size w w' ∧ C < w'.heap.size ∧ w'.cell? ⟨C, 0, none⟩ = some (.int .i64 2) ∧ w'.cell? ⟨C, 1, none⟩ = some (.string s) ∧ w'.cell? ⟨C, 2, none⟩ = some (.slice none 0 0)) := Lib.hid (fun w' h =>
          ⟨HB3.out.trans (h.mono HB3.out.size), Nat.lt_of_lt_of_le hC3 h.size, (h.cell (by exact hC3)).trans (cell_at HC3.out 0), (h.cell (by exact hC3)).trans (cell_at HC3.out 1), (h.cell (by exact hC3)).trans (cell_at HC3.out 2)⟩)
        clear HC3 hC3 H2
        go_wp2_with fail
        refine (SA.out _ HB3.out).mono ?_
        rintro e w4 ⟨rfl, b4⟩
        have H4 := Lib.hid b4
        clear b4 HB3
        cases hra : rtB a with
        | false =>
          go_wp2_with fail
          go_ret
          exact ⟨rfl, (HK.out _ H4.out).1⟩
        | true =>
          go_wp2_with fail
          refine (SB.out _ (HK.out _ H4.out).1).mono ?_
          rintro e w5 ⟨rfl, b5⟩
          have H5 := Lib.hid (H4.out.trans (b5.mono H4.out.size))
          clear b5 SB
          cases hrb' : rtB b with
          | false =>
            go_wp2_with fail
            go_ret
            exact ⟨rfl, (HK.out _ H5.out).1⟩
          | true =>
            obtain ⟨_, lC, k0, k1, k2⟩ := HK.out _ H5.out
            go_wp2_with fail
            refine (SC.out _).mono ?_
            rintro e w6 ⟨rfl, b6⟩
            have H6 := Lib.hid (H5.out.trans ((((Below.refl w5.heap.size w5).alloc (Nat.le_refl _) _).trans (b6.mono (by simp))).mono H5.out.size))
            clear b6 SC lC k0 k1 k2
            cases hrc : rtB [Sp.mk 2 s.data.toList []] with
            | false =>
              go_wp2_with fail
              go_ret
              exact ⟨rfl, (HK.out _ H6.out).1⟩
            | true =>
              have Na := Lib.hid (RA.out.below (HK.out _ H6.out).1).at
              have Nb := Lib.hid (RB.out.below (HK.out _ H6.out).1).at
              have HXa : Hid (∃ x, (!a.isEmpty && decide (lastK a = 2)) = x ∧ ((a.length = 0 ∧ x = false) ∨ ∃ n q b o, a.length = n + 1 ∧ aa = some ⟨b, o, none⟩ ∧ b < w6.heap.size ∧ w6.cell? ⟨b, o + n * 3, none⟩ = some (.int .i64 q) ∧ x = decide (q = 2))) := Lib.hid (by
                refine ⟨_, rfl, ?_⟩
                rcases Nat.eq_zero_or_pos a.length with hz | hp
                · exact Or.inl ⟨hz, by rw [List.eq_nil_of_length_eq_zero hz]; rfl⟩
                · obtain ⟨b', o', _, _, h1, h2, h3⟩ := Na.out (a.length - 1) (by omega)
                  refine Or.inr ⟨a.length - 1, lastK a, b', o', by omega, h1, h2, by rw [lastK_at a hp]; exact h3.kind, ?_⟩
                  cases a with
                  | nil => exact absurd hp (Nat.not_lt_zero _)
                  | cons y r => simp)
              have HXb : Hid (∃ x, (!b.isEmpty && decide (headK b = 2)) = x ∧ ((b.length = 0 ∧ x = false) ∨ ∃ n q g o, b.length = n + 1 ∧ ab = some ⟨g, o, none⟩ ∧ g < w6.heap.size ∧ w6.cell? ⟨g, o, none⟩ = some (.int .i64 q) ∧ x = decide (q = 2))) := Lib.hid (by
                refine ⟨_, rfl, ?_⟩
                rcases Nat.eq_zero_or_pos b.length with hz | hp
                · exact Or.inl ⟨hz, by rw [List.eq_nil_of_length_eq_zero hz]; rfl⟩
                · obtain ⟨b', o', _, _, h1, h2, h3⟩ := Nb.out 0 (by omega)
                  refine Or.inr ⟨b.length - 1, headK b, b', o', by omega, h1, h2, by rw [headK_at b hp]; simpa using h3.kind, ?_⟩
                  cases b with
                  | nil => exact absurd hp (Nat.not_lt_zero _)
                  | cons y r => simp)
              have HBT : Hid (rtB (a ++ Sp.mk 2 s.data.toList [] :: b) = !((!a.isEmpty && decide (lastK a = 2)) || (!b.isEmpty && decide (headK b = 2)))) := Lib.hid (between_rt hra hrb' hrc rfl)
              obtain ⟨xa, hxa, hxa'⟩ := HXa.out
              obtain ⟨xb, hxb, hxb'⟩ := HXb.out
              rw [hxa, hxb] at HBT
              have GA := Lib.hid hxa'
              have GB := Lib.hid hxb'
              clear hxa hxb hxa' hxb' HXa HXb Na Nb
              go_upto_region 6 with fail
              go_cut [8] from 71 (fun x wx => wx = w6 ∧ x = .bool (xa || xb))
              case first =>
                have lA := RA.out.short
                have lB := RB.out.short
                clear HBT K HA RA RB SA HK fa fb fc tc hrc hra hrb' ta tb la lb ha hb hsl hr hrb
                rcases GA.out with ⟨hz, rfl⟩ | ⟨n, q, b1, o1, hn, rfl, g1, c1, hx⟩
                rotate_left
                by_cases hq : q = 2
                · obtain rfl : xa = true := by rw [hx]; exact decide_eq_true hq
                  subst hq
                  have e1 : IntKind.i64.wrap ((a.length : Int) - 1) = (n : Int) := by rw [IntKind.wrap_i64]; omega
                  have e1' : IntKind.i64.wrap (n : Int) = (n : Int) := by rw [IntKind.wrap_i64]; omega
                  have t1 : (n : Int) < (a.length : Int) := by omega
                  have t0 : (0 : Int) < (a.length : Int) := by omega
                  clear hx hn GA GB
                  go_wp2_with fail
                  go_meet
                  exact ⟨rfl, rfl⟩
                have pa : ((0 : Int) < (a.length : Int) ∧ IntKind.i64.wrap ((a.length : Int) - 1) = (n : Int) ∧ IntKind.i64.wrap (n : Int) = (n : Int) ∧ (n : Int) < (a.length : Int) ∧ (q == 2) = false) := ⟨by omega, by rw [IntKind.wrap_i64]; omega, by rw [IntKind.wrap_i64]; omega, by omega, by rw [beq_eq_false_iff_ne]; exact hq⟩
                obtain rfl : xa = false := by rw [hx]; exact decide_eq_false hq
                obtain ⟨p1, p2, p3, p4, p5⟩ := pa
                clear hx hn hq
                rotate_left
                have p1 : ¬ (0 : Int) < (a.length : Int) := by omega
                clear hz
                all_goals (
                  clear GA
                  rcases GB.out with ⟨hz, rfl⟩ | ⟨m, y, b2, o2, hm, rfl, g2, c2, hy⟩
                  · have r1 : ¬ (0 : Int) < (b.length : Int) := by omega
                    clear hz
                    clear GB
                    go_wp2_with fail
                    go_meet
                    exact ⟨rfl, rfl⟩
                  · have r1 : (0 : Int) < (b.length : Int) := by omega
                    by_cases hy2 : y = 2
                    · obtain rfl : xb = true := by rw [hy]; exact decide_eq_true hy2
                      subst hy2
                      clear hy hm GB
                      go_wp2_with fail
                      go_meet
                      exact ⟨rfl, rfl⟩
                    · obtain rfl : xb = false := by rw [hy]; exact decide_eq_false hy2
                      have r2 : (y == 2) = false := by rw [beq_eq_false_iff_ne]; exact hy2
                      clear hy hm GB hy2
                      go_wp2_with fail
                      go_meet
                      exact ⟨rfl, rfl⟩)
              case rest =>
                obtain ⟨hwc, rfl⟩ := hcut
                subst wc
                have hw6 := (HK.out _ H6.out).1
                obtain ⟨pa, hpa, rka, kka⟩ := (RA.out.below hw6).pairs
                obtain ⟨pb, hpb, rkb, kkb⟩ := (RB.out.below hw6).pairs
                have lpa : pa.length = a.length := by rw [← hpa, List.length_map]
                have lpb : pb.length = b.length := by rw [← hpb, List.length_map]
                have SRa : Hid (∀ w' : World, Below w6.heap.size w6 w' → Rk 3 encT w' (.slice aa a.length ca) pa ∧ ∀ p ∈ pa, Tr w' p.2 p.1.kids) := Lib.hid (fun w' h => ⟨rka.below h, fun p hp => (kka p hp).below h⟩)
                have SRb : Hid (∀ w' : World, Below w6.heap.size w6 w' → Rk 3 encT w' (.slice ab b.length cb) pb ∧ ∀ p ∈ pb, Tr w' p.2 p.1.kids) := Lib.hid (fun w' h => ⟨rkb.below h, fun p hp => (kkb p hp).below h⟩)
                have HKK : Hid (∀ w' : World, Below w6.heap.size w6 w' → C < w'.heap.size ∧ w'.cell? ⟨C, 0, none⟩ = some (.int .i64 2) ∧ w'.cell? ⟨C, 1, none⟩ = some (.string s) ∧ w'.cell? ⟨C, 2, none⟩ = some (.slice none 0 0)) := Lib.hid (fun w' h => (HK.out _ (H6.out.trans (h.mono H6.out.size))).2)
                obtain ⟨pc, hpc⟩ : ∃ pc : Sp × Value, pc = (Sp.mk 2 s.data.toList [], Value.slice none 0 0) := ⟨_, rfl⟩
                have epc : encT pc = [.int .i64 2, .string s, .slice none 0 0] := by rw [hpc]; simp [encT, Sp.kind, Sp.s, S_of]
                have kpc : ∀ w' : World, ∀ p ∈ [pc], Tr w' p.2 p.1.kids := fun w' p hp => by
                  rw [List.mem_singleton] at hp
                  subst hp
                  rw [hpc]
                  exact tr_nil w'
                have B0 : Below w6.heap.size w6 w6 := Below.refl _ _
                obtain ⟨lC6, n0, n1, n2⟩ := HKK.out _ B0
                go_upto_region 7 with fail
                go_cut [9] from 79 (fun x wx => Hid (Acc w6 wx x ([] ++ pa ++ [pc] ++ pb)))
                case first =>
                  clear HBT K HA RA RB SA HK fa fb fc tc hrc hra hrb' ha hb hsl hr hrb GA GB rka rkb kka kkb hpa hpb H4 H5 hw6 hpc
                  go_region_law (first
                    | (refine step_sp rfl rfl (.tmp 71) (.tmp 72) rfl rfl rfl (by repeat (first | exact Acc.lit B0 | exact Acc.lit2 B0 _ | apply Acc.drew | apply Acc.alloc)) (SRa.out _ (by repeat (first | exact B0 | apply bel_d | apply bel_a))) (by simp; omega) ?_
                       intro v7 w7 H7 k7
                       obtain ⟨lC7, m0, m1, m2⟩ := HKK.out _ H7.bel)
                    | (refine step_sp rfl rfl (.tmp 73) (.tmp 75) rfl rfl rfl (by repeat (first | exact H7 | apply Acc.drew | apply Acc.alloc)) ⟨one_rk (p := pc) (by first | exact alloc_new _ _ | exact (k7 (w6.heap.size + 1) (by simp) (fun e => absurd (show (some w6.heap.size : Option Nat) = some (w6.heap.size + 1) from e) (by simp))).trans (new_bT _ _) | exact (k7 w6.heap.size (by simp; omega) (fun e => absurd (show (some (w6.heap.size + 1) : Option Nat) = some w6.heap.size from e) (by simp))).trans (new_aT _ _)) epc, kpc _⟩ (by simp; omega) ?_
                       intro v8 w8 H8 k8)
                    | (refine step_sp rfl rfl (.tmp 76) (.tmp 77) rfl rfl rfl (by repeat (first | exact H8 | apply Acc.drew | apply Acc.alloc)) (SRb.out _ (by repeat (first | exact H8.bel | apply bel_d | apply bel_a))) (by simp; omega) ?_
                       intro v9 w9 H9 k9))
                  all_goals (
                    have HF := Lib.hid H9
                    clear H7 k7 H8 k8 H9 k9 lC7 m0 m1 m2
                    go_simp
                    go_wp2_with fail
                    go_meet
                    exact HF)
                case rest =>
                  have hL : ([] ++ pa ++ [pc] ++ pb : List (Sp × Value)).map (·.1) = a ++ Sp.mk 2 s.data.toList [] :: b := by
                    simp only [List.nil_append, List.map_append, List.map_cons, List.map_nil, hpa, hpb, hpc]
                    simp
                  have hT := Tr.of_own hcut.out.own (fun p hp => by
                    rw [List.nil_append, List.mem_append, List.mem_append] at hp
                    rcases hp with (hp | hp) | hp
                    · exact (SRa.out _ hcut.out.bel).2 p hp
                    · exact kpc _ p hp
                    · exact (SRb.out _ hcut.out.bel).2 p hp)
                  rw [hL] at hT
                  have fL : fitAll 140737488355328 (a ++ Sp.mk 2 s.data.toList [] :: b) := fitAll_app (fit_reach fa) (fitAll_app fc (fit_reach fb))
                  have tL : totAll (a ++ Sp.mk 2 s.data.toList [] :: b) ≤ 20000 := by
                    rw [totAll_app, totAll_cons]
                    have := tc
                    rw [totAll_cons] at this
                    simp [totAll] at this
                    omega
                  have SL := Lib.hid (K.right _ _ wc hT tL fL)
                  rw [HBT.out] at SL
                  obtain ⟨al, cl, rfl⟩ := hT.len
                  have BC := Lib.hid hcut.out.bel
                  have HPA := Lib.hid hpa
                  have RKA := Lib.hid rka
                  have KKA := Lib.hid kka
                  have HRA := Lib.hid hra
                  have HKW := Lib.hid (fun w' (h : Below w6.heap.size w6 w') => (HK.out w' (H6.out.trans (h.mono H6.out.size))).1)
                  clear hL hT fL tL hcut HBT epc kpc hpc B0 lC6 n0 n1 n2 HKK SRa SRb HK SA RA RB hpa hpb rka rkb kka kkb GA GB hra hrb' hrc H4 H5 fc tc hw6 lpb
                  have eb : ((!(xa || xb)) == (xa || xb)) = false := by cases xa <;> cases xb <;> rfl
                  generalize (xa || xb) = xx at *
                  generalize (a ++ Sp.mk 2 s.data.toList [] :: b).length = ln at *
                  go_wp2_with fail
                  refine SL.out.mono ?_
                  rintro e w8 ⟨rfl, b8⟩
                  have B8 := Lib.hid (BC.out.trans (b8.mono BC.out.size))
                  clear b8 SL BC
                  go_wp2_with fail
                  go_loopw [85] (fun i wr => ∃ k : Nat, k ≤ a.length ∧ i = .int .i64 k ∧ Hid (Below w6.heap.size w6 wr)) (fun i _ => a.length - (intOf i).toNat)
                  case atStart => exact ⟨0, Nat.zero_le _, rfl, B8⟩
                  case round =>
                    obtain ⟨k, hk, rfl, HB⟩ := hrel
                    by_cases hlt : k < a.length
                    · have hkp : k < pa.length := by omega
                      obtain ⟨b1, o1, rfl, hb1, hcell⟩ := RKA.out.at k hkp
                      obtain ⟨q, sx, kx, ak, ck, hpk⟩ : ∃ q sx kx ak ck, pa[k] = (Sp.mk q sx kx, Value.slice ak kx.length ck) := by
                        obtain ⟨ak, ck, h1⟩ := (KKA.out _ (List.getElem_mem hkp)).len
                        rcases hx : pa[k] with ⟨x, vx⟩
                        obtain ⟨q, sx, kx⟩ := x
                        rw [hx] at h1
                        exact ⟨q, sx, kx, ak, ck, by rw [show vx = Value.slice ak kx.length ck from h1]⟩
                      have hak : a[k] = Sp.mk q sx kx := by
                        have : a[k] = (pa.map (·.1))[k]'(by rw [List.length_map]; exact hkp) := by congr 1; exact HPA.out.symm
                        rw [this, List.getElem_map, hpk]
                      have hmem : Sp.mk q sx kx ∈ a := by rw [← hak]; exact List.getElem_mem hlt
                      rw [hpk] at hcell
                      have HE : Hid (∀ w' : World, Below w6.heap.size w6 w' → b1 < w'.heap.size ∧ w'.cell? ⟨b1, o1 + k * 3, none⟩ = some (.int .i64 q) ∧ w'.cell? ⟨b1, o1 + k * 3 + 1, none⟩ = some (.string (S sx)) ∧ w'.cell? ⟨b1, o1 + k * 3 + 2, none⟩ = some (.slice ak kx.length ck) ∧ Tr w' (.slice ak kx.length ck) kx) := Lib.hid (fun w' h => by
                        have hk' := KKA.out _ (List.getElem_mem hkp)
                        rw [hpk] at hk'
                        exact ⟨Nat.lt_of_lt_of_le hb1 h.size, (h.cell (by exact hb1)).trans (hcell 0 _ rfl), (h.cell (by exact hb1)).trans (hcell 1 _ rfl), (h.cell (by exact hb1)).trans (hcell 2 _ rfl), hk'.below h⟩)
                      have rka' : Rk 3 encT w6 (.slice (some ⟨b1, o1, none⟩) pa.length ca) pa := by rw [lpa]; exact RKA.out
                      obtain ⟨v1, q1, s1⟩ := slice_toT rka' (k + 1) hkp (by omega)
                      obtain ⟨v2, q2, s2⟩ := slice_fromT rka' (k + 1) hkp (by omega)
                      rw [lpa, show ((k + 1 : Nat) : Int) = (k : Int) + 1 by omega] at q1 q2
                      have HW := Lib.hid (fun w' (h : Below wr.heap.size wr w') => HB.out.trans (h.mono HB.out.size))
                      have S1 : Hid (∀ w' : World, Below wr.heap.size wr w' → Rk 3 encT w' v1 (pa.take (k + 1)) ∧ ∀ p ∈ pa.take (k + 1), Tr w' p.2 p.1.kids) := Lib.hid (fun w' h => ⟨s1 _ (HW.out _ h), fun p hp => (KKA.out p (List.mem_of_mem_take hp)).below (HW.out _ h)⟩)
                      have S2 : Hid (∀ w' : World, Below wr.heap.size wr w' → Rk 3 encT w' v2 (pa.drop (k + 1)) ∧ ∀ p ∈ pa.drop (k + 1), Tr w' p.2 p.1.kids) := Lib.hid (fun w' h => ⟨s2 _ (HW.out _ h), fun p hp => (KKA.out p (List.mem_of_mem_drop hp)).below (HW.out _ h)⟩)
                      have l1 : (pa.take (k + 1)).length ≤ 3000 := by rw [List.length_take]; omega
                      have l2 : (pa.drop (k + 1)).length ≤ 3000 := by rw [List.length_drop]; omega
                      have ew : IntKind.i64.wrap ((k : Int) + 1) = (k : Int) + 1 := by rw [IntKind.wrap_i64]; omega
                      have i1 : (k : Int) < (a.length : Int) := by omega
                      have B0 : Below wr.heap.size wr wr := Below.refl _ _
                      obtain ⟨lb0, c0, c1, c2, _⟩ := HE.out _ HB.out
                      have epk : encT (Sp.mk q sx kx, Value.slice ak kx.length ck) = [.int .i64 q, .string (S sx), .slice ak kx.length ck] := rfl
                      clear s1 s2 rka' hcell
                      go_upto_region 13 with fail
                      go_cut [85, 11] from 85 to 140 (fun i x wx => i = .int .i64 k ∧ Hid (Acc wr wx x ([] ++ pa.take (k + 1) ++ [(Sp.mk q sx kx, Value.slice ak kx.length ck)] ++ pa.drop (k + 1))))
                      case first =>
                        clear HRA HKW KKA RKA HPA K HA hmem hak hpk B8 fa fb ta tb hsl hr hrb
                        go_region_law (first
                          | (refine step_sp rfl rfl (.tmp 88) (.tmp 92) rfl rfl rfl (by repeat (first | exact Acc.lit B0 | exact Acc.lit2 B0 _ | apply Acc.drew | apply Acc.alloc)) (S1.out _ (by repeat (first | exact B0 | apply bel_d | apply bel_a))) (by simp only [List.length_append, List.length_nil, List.length_cons]; omega) ?_
                             intro v7 w7 H7 k7
                             obtain ⟨lb7, m0, m1, m2, _⟩ := HE.out _ (HW.out _ H7.bel))
                          | (refine step_sp rfl rfl (.tmp 93) (.tmp 98) rfl rfl rfl (by repeat (first | exact H7 | apply Acc.drew | apply Acc.alloc)) ⟨one_rk (p := (Sp.mk q sx kx, Value.slice ak kx.length ck)) (by first | exact alloc_new _ _ | exact (k7 (wr.heap.size + 1) (by simp) (fun e => absurd (show (some wr.heap.size : Option Nat) = some (wr.heap.size + 1) from e) (by simp))).trans (new_bT _ _) | exact (k7 wr.heap.size (by simp; omega) (fun e => absurd (show (some (wr.heap.size + 1) : Option Nat) = some wr.heap.size from e) (by simp))).trans (new_aT _ _)) epk, fun p hp => by (rw [List.mem_singleton] at hp; subst hp; exact (HE.out _ (HW.out _ (by repeat (first | exact H7.bel | apply bel_d | apply bel_a)))).2.2.2.2)⟩ (by simp only [List.length_append, List.length_nil, List.length_cons]; omega) ?_
                             intro v8 w8 H8 k8)
                          | (refine step_sp rfl rfl (.tmp 99) (.tmp 103) rfl rfl rfl (by repeat (first | exact H8 | apply Acc.drew | apply Acc.alloc)) (S2.out _ (by repeat (first | exact H8.bel | apply bel_d | apply bel_a))) (by simp only [List.length_append, List.length_nil, List.length_cons]; omega) ?_
                             intro v9 w9 H9 k9))
                        all_goals (
                          have HF := Lib.hid H9
                          clear H7 k7 H8 k8 H9 k9 lb7 m0 m1 m2
                          go_simp
                          go_wp2_with fail
                          go_meet
                          exact ⟨rfl, HF⟩)
                      case rest =>
                        obtain ⟨rfl, HT⟩ := hcut
                        have BW := Lib.hid (HW.out _ HT.out.bel)
                        have hL : ([] ++ pa.take (k + 1) ++ [(Sp.mk q sx kx, Value.slice ak kx.length ck)] ++ pa.drop (k + 1) : List (Sp × Value)).map (·.1) = a.take (k + 1) ++ a[k] :: a.drop (k + 1) := by
                          rw [hak]
                          simp only [List.nil_append, List.map_append, List.map_cons, List.map_nil, List.map_take, List.map_drop, HPA.out]
                          simp
                        have hT := Tr.of_own HT.out.own (fun p hp => by
                          rw [List.nil_append, List.mem_append, List.mem_append] at hp
                          rcases hp with (hp | hp) | hp
                          · exact (S1.out _ HT.out.bel).2 p hp
                          · rw [List.mem_singleton] at hp
                            subst hp
                            exact (HE.out _ BW.out).2.2.2.2
                          · exact (S2.out _ HT.out.bel).2 p hp)
                        rw [hL] at hT
                        have fT : fitAll 140737488355328 (a.take (k + 1) ++ a[k] :: a.drop (k + 1)) := fitAll_of (fun x hx => fitAll_at (fit_reach fa) x (by
                          rw [List.mem_append, List.mem_cons] at hx
                          rcases hx with h | rfl | h
                          · exact List.mem_of_mem_take h
                          · exact List.getElem_mem hlt
                          · exact List.mem_of_mem_drop h))
                        have hto : totOne (Sp.mk q sx kx) ≤ totAll a := totAll_mem hmem
                        have tT : totAll (a.take (k + 1) ++ a[k] :: a.drop (k + 1)) ≤ 20000 := by
                          have h1 := totAll_take_drop a (k + 1)
                          rw [totAll_app, totAll_cons, hak]
                          omega
                        have ST := Lib.hid (K.right _ _ wc hT tT fT)
                        have HTW := Lib.hid (twice_rt a k hlt)
                        obtain ⟨at', ct, rfl⟩ := hT.len
                        obtain ⟨lb1, d0, d1, d2, htk⟩ := HE.out _ BW.out
                        have HTK := Lib.hid htk
                        have fx : fitOne 140737488355328 (Sp.mk q sx kx) := fitAll_at (fit_reach fa) _ hmem
                        have g0 : a[k].kind = q := by rw [hak]; rfl
                        rw [g0] at HTW
                        clear hL hT fT tT HT S1 S2 htk lb0 c0 c1 c2 epk q1 q2 l1 l2 hpk g0 hak
                        by_cases h2 : q ≤ 2
                        · rw [HTW.out h2] at ST
                          have g1 : decide (q ≤ 2) = true := decide_eq_true h2
                          have g3 : (q == 3) = false := by rw [beq_eq_false_iff_ne]; omega
                          clear HTW hto fx HTK
                          generalize (a.take (k + 1) ++ a[k] :: a.drop (k + 1)).length = tn at *
                          go_wp2_with fail
                          refine ST.out.mono ?_
                          rintro e w10 ⟨rfl, b10⟩
                          have B10 := Lib.hid (BW.out.trans (b10.mono BW.out.size))
                          clear b10 ST d0 d1 d2 lb1
                          obtain ⟨lb2, d0, d1, d2, _⟩ := HE.out _ B10.out
                          go_wp2_with fail
                          go_roundw
                          case rel => exact ⟨k + 1, by omega, by go_num, B10⟩
                          case measure => simp [intOf] <;> omega
                        · have g1 : decide (q ≤ 2) = false := decide_eq_false h2
                          clear ST HTW
                          generalize (a.take (k + 1) ++ a[k] :: a.drop (k + 1)).length = tn at *
                          by_cases h3 : q = 3
                          · subst h3
                            have e1 := emph_alone HRA.out hmem rfl
                            have e2 := emph_in (x := Sp.mk 3 sx kx) rfl
                            have f1 : fitAll 140737488355328 [Sp.mk 3 sx kx] := by
                              unfold fitAll
                              exact ⟨fx, by unfold fitAll; trivial⟩
                            have f2 : fitAll 140737488355328 [Sp.mk 3 [] [Sp.mk 3 sx kx]] := by
                              unfold fitAll fitOne
                              exact ⟨⟨by omega, by simp, f1⟩, by unfold fitAll; trivial⟩
                            have t1 : totAll [Sp.mk 3 sx kx] ≤ 10000 := by rw [totAll_cons]; simp [totAll]; omega
                            have t2 : totAll [Sp.mk 3 [] [Sp.mk 3 sx kx]] ≤ 20000 := by rw [totAll_cons, totOne_eq]; simp [Sp.s, Sp.kids]; simp [totAll]; omega
                            have SE1 : Hid (∀ w' : World, Below w6.heap.size w6 w' → Calls Try.prog 12 #[.slice (some ⟨w'.heap.size, 0, none⟩) 1 1] (w'.alloc (.cells #[.int .i64 3, .string (S sx), .slice ak kx.length ck] 31)) (OkAns (w'.alloc (.cells #[.int .i64 3, .string (S sx), .slice ak kx.length ck] 31)) true)) := Lib.hid (fun w' h => by
                              have := K.right _ _ _ (tr_one (q := 3) (s := sx) (HE.out _ h).2.2.2.2 31) (by omega) f1
                              rw [e1] at this
                              exact this)
                            have SE2 : Hid (Calls Try.prog 12 #[.slice (some ⟨wc.heap.size + 1, 0, none⟩) 1 1] ((wc.alloc (.cells #[.int .i64 3, .string (S sx), .slice ak kx.length ck] 31)).alloc (.cells #[.int .i64 3, .string ⟨#[]⟩, .slice (some ⟨wc.heap.size, 0, none⟩) 1 1] 31)) (OkAns ((wc.alloc (.cells #[.int .i64 3, .string (S sx), .slice ak kx.length ck] 31)).alloc (.cells #[.int .i64 3, .string ⟨#[]⟩, .slice (some ⟨wc.heap.size, 0, none⟩) 1 1] 31)) false)) := Lib.hid (by
                              have := K.right _ _ _ (tr_one (q := 3) (s := []) (tr_one (q := 3) (s := sx) HTK.out 31) 31) t2 f2
                              rw [e2, show (wc.alloc (.cells #[.int .i64 3, .string (S sx), .slice ak kx.length ck] 31)).heap.size = wc.heap.size + 1 by simp] at this
                              exact this)
                            have HXY : Hid (Below wc.heap.size wc ((wc.alloc (.cells #[.int .i64 3, .string (S sx), .slice ak kx.length ck] 31)).alloc (.cells #[.int .i64 3, .string ⟨#[]⟩, .slice (some ⟨wc.heap.size, 0, none⟩) 1 1] 31))) := Lib.hid (((Below.refl _ _).alloc (Nat.le_refl _) _).alloc (by simp) _)
                            clear e1 e2 f1 f2 t1 t2 fx hto HTK hmem h2
                            go_wp2_with fail
                            refine SE2.out.mono ?_
                            rintro e w10 ⟨rfl, b10⟩
                            have B10 := Lib.hid (BW.out.trans ((HXY.out.trans (b10.mono HXY.out.size)).mono BW.out.size))
                            clear b10 SE2 HXY d0 d1 d2 lb1
                            obtain ⟨lb2, d0, d1, d2, _⟩ := HE.out _ B10.out
                            go_wp2_with fail
                            refine (SE1.out _ B10.out).mono ?_
                            rintro e w11 ⟨rfl, b11⟩
                            have B11 := Lib.hid (B10.out.trans ((((Below.refl w10.heap.size w10).alloc (Nat.le_refl _) _).trans (b11.mono (by simp))).mono B10.out.size))
                            clear b11 SE1 d0 d1 d2 lb2
                            go_wp2_with fail
                            go_roundw
                            case rel => exact ⟨k + 1, by omega, by go_num, B11⟩
                            case measure => simp [intOf] <;> omega
                          · have g3 : (q == 3) = false := by rw [beq_eq_false_iff_ne]; exact h3
                            clear hto fx HTK hmem
                            go_wp2_with fail
                            go_roundw
                            case rel => exact ⟨k + 1, by omega, by go_num, BW⟩
                            case measure => simp [intOf] <;> omega
                    · go_wp2_with fail
                      go_ret
                      exact ⟨rfl, HKW.out _ HB.out⟩
      · have d2 : decide ((s.size : Int) > 1000) = true := decide_eq_true (by omega)
        go_wp2_with fail
        refine (HA.out _).mono ?_
        rintro e w4 ⟨rfl, b4⟩
        have H4 := Lib.hid (H2.out.trans (b4.mono H2.out.size))
        clear b4
        go_wp2_with fail
        go_ret
        exact ⟨rfl, H4.out⟩

end Go.Proofs.Ytjgaggikgjibiaa.Sp
