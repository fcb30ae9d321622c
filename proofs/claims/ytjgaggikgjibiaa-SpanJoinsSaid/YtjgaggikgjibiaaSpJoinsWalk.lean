/-
  THE WALK of the statement SpanJoins.
-/
import Derived.Test.YtjgaggikgjibiaaSpRow
namespace Go.Proofs.Ytjgaggikgjibiaa.Sp
open Go.RowKit
open Go.Proofs.Ytjgaggikgjibiaa.Tk (S S_of S_list S_size S_toList S_app ret_int)
open Go.Proofs.Ytjgaggikgjibiaa.Cm (calls_at)
set_option linter.unusedVariables false

theorem lnI_app (a b : List Sp) : lnI (a ++ b) = lnI a + lnI b - 1 := by
  unfold lnI
  rw [plAll_app, List.count_append]
  omega
theorem lnI_bound (a : List Sp) : 1 ≤ lnI a ∧ lnI a ≤ 1 + totAll a := by
  have h1 : (plAll a).count 10 ≤ (plAll a).length := List.count_le_length
  have h2 := plAll_len a
  unfold lnI
  omega
theorem pl_emph (l : List Sp) : plAll [.mk 3 [] l] = plAll l := by
  rw [plAll_cons, plOne_eq]
  simp [Sp.kind, Sp.kids, plAll]
theorem S_len (p : List UInt8) : (S p).size = p.length := S_size p

set_option maxHeartbeats 3200000 in
set_option maxRecDepth 100000 in
theorem spanJoins_walk (K : Told) (w : World) (va : Value) (a : List Sp) (ra : Tr w va a) (fa : fitAll reachBytes a) (vb : Value) (b : List Sp) (rb : Tr w vb b) (fb : fitAll reachBytes b) :
    Calls Try.prog 7 #[va, vb] w (OkAns w true) := by
  obtain ⟨aa, ca, rfl⟩ := ra.len
  obtain ⟨ab, cb, rfl⟩ := rb.len
  have HA := Lib.hid (awake7_any K)
  have RA := Lib.hid ra
  have RB := Lib.hid rb
  have FA := Lib.hid (fun w' (h : Below w.heap.size w w') => few7_any a _ w' (RA.out.below h) fa)
  have FB := Lib.hid (fun w' (h : Below w.heap.size w w') => few7_any b _ w' (RB.out.below h) fb)
  clear ra rb
  go_enter Try.func7, Try.ntmps7
  go_wp2_with fail
  refine (HA.out _).mono ?_
  rintro e w2 ⟨rfl, b2⟩
  have H2 := Lib.hid b2
  clear b2
  go_wp2_with fail
  refine (FA.out _ H2.out).mono ?_
  rintro e w3 ⟨rfl, rfl⟩
  clear FA
  cases ha : fewB a with
  | false =>
    go_wp2_with fail
    refine (HA.out _).mono ?_
    rintro e w4 ⟨rfl, b4⟩
    have H4 := Lib.hid (H2.out.trans (b4.mono H2.out.size))
    clear b4
    go_wp2_with fail
    go_ret
    exact ⟨rfl, H4.out⟩
  | true =>
    go_wp2_with fail
    refine (FB.out _ H2.out).mono ?_
    rintro e w3 ⟨rfl, rfl⟩
    clear FB
    cases hb : fewB b with
    | false =>
      go_wp2_with fail
      refine (HA.out _).mono ?_
      rintro e w4 ⟨rfl, b4⟩
      have H4 := Lib.hid (H2.out.trans (b4.mono H2.out.size))
      clear b4
      go_wp2_with fail
      go_ret
      exact ⟨rfl, H4.out⟩
    | true =>
      have ta := (few_of ha).1
      have tb := (few_of hb).1
      have la := totAll_len a
      have lb := totAll_len b
      obtain ⟨pa, hpa, rka, kka⟩ := RA.out.pairs
      obtain ⟨pb, hpb, rkb, kkb⟩ := RB.out.pairs
      have lpa : pa.length = a.length := by rw [← hpa, List.length_map]
      have lpb : pb.length = b.length := by rw [← hpb, List.length_map]
      have hba : Below w2.heap.size w2 (w2.alloc (.cells #[] 31)) := (Below.refl _ _).alloc (Nat.le_refl _) _
      have Hba := H2.out.trans (hba.mono H2.out.size)
      have oA : (w2.alloc (.cells #[] 31)).ownsRow w2.heap.size 31 3 (.slice (some ⟨w2.heap.size, 0, none⟩) 0 0) ([] : List (Sp × Value)).length (([] : List (Sp × Value)).flatMap encT) := World.ownsRow_lit w2 #[] 0 (Nat.le_refl _) (Nat.zero_le _) rfl
      obtain ⟨v3, w3, q3, o3, g3⟩ := run_append_sp oA (rka.below Hba) (fun p hp => (kka p hp).below Hba) (by simp) (by simp; omega)
      have hb3 := hba.grown g3 (by simp) (fun k hk => (oA.lt k hk).1)
      have H3 := H2.out.trans (hb3.mono H2.out.size)
      obtain ⟨v4, w4, q4, o4, g4⟩ := run_append_sp o3 (rkb.below H3) (fun p hp => (kkb p hp).below H3) hb3.size (by simp; omega)
      have hb4 := hb3.grown g4 hb3.size (fun k hk => (o3.lt k hk).1)
      have H4 := Lib.hid (H2.out.trans (hb4.mono H2.out.size))
      have hT := Tr.of_own o4 (fun p hp => by
        rw [List.nil_append, List.mem_append] at hp
        rcases hp with hp | hp
        · exact (kka p hp).below H4.out
        · exact (kkb p hp).below H4.out)
      rw [List.nil_append, List.map_append, hpa, hpb] at hT
      obtain ⟨l, hl⟩ : ∃ l, a ++ b = l := ⟨_, rfl⟩
      rw [hl] at hT
      have hpl : plAll l = plAll a ++ plAll b := by rw [← hl, plAll_app]
      have hln : lnI l = lnI a + lnI b - 1 := by rw [← hl, lnI_app]
      have hlt : totAll l ≤ 6000 := by rw [← hl, totAll_app]; omega
      have bA := lnI_bound a
      have bB := lnI_bound b
      have pA := plAll_len a
      have pB := plAll_len b
      have pL := plAll_len l
      have HT := Lib.hid hT
      have PL := Lib.hid (fun w' (h : Below w4.heap.size w4 w') => K.plain _ l w' (HT.out.below h) (by omega))
      have LL := Lib.hid (fun w' (h : Below w4.heap.size w4 w') => K.lines _ l w' (HT.out.below h) (by omega))
      have PA := Lib.hid (fun w' (h : Below w.heap.size w w') => K.plain _ a w' (RA.out.below h) (by omega))
      have LA := Lib.hid (fun w' (h : Below w.heap.size w w') => K.lines _ a w' (RA.out.below h) (by omega))
      have PB := Lib.hid (fun w' (h : Below w.heap.size w w') => K.plain _ b w' (RB.out.below h) (by omega))
      have LB := Lib.hid (fun w' (h : Below w.heap.size w w') => K.lines _ b w' (RB.out.below h) (by omega))
      obtain ⟨a4, c4, hv4⟩ := hT.len
      have te : totAll [Sp.mk 3 [] l] ≤ 20000 := by rw [totAll_cons, totOne_eq]; simp [Sp.s, Sp.kids, totAll]; omega
      have PE : Hid (∀ w', Below w4.heap.size w4 w' → Calls Try.prog 14 #[.slice (some ⟨w'.heap.size, 0, none⟩) 1 1] (w'.alloc (.cells #[.int .i64 3, .string ⟨#[]⟩, .slice a4 l.length c4] 31)) (StrAns (w'.alloc (.cells #[.int .i64 3, .string ⟨#[]⟩, .slice a4 l.length c4] 31)) (plAll l))) := Lib.hid (fun w' h => by
        have h2 := HT.out.below h
        rw [hv4] at h2
        have := K.plain _ _ _ (tr_one (q := 3) (s := []) h2 31) te
        rw [pl_emph] at this
        exact this)
      have HW := Lib.hid (fun w' (h : Below w4.heap.size w4 w') => H4.out.trans (h.mono H4.out.size))
      rw [hln] at LL
      unfold StrAns at PL PA PB PE
      unfold IntAns at LL LA LB
      subst hv4
      obtain ⟨a3, c3, rfl⟩ : ∃ ao cap, v3 = .slice ao ([] ++ pa).length cap := by
        rcases o3.2 with ⟨rfl, hz⟩ | ⟨g, cap, _, rfl, _⟩
        · exact ⟨none, 0, by rw [hz]⟩
        · exact ⟨_, _, rfl⟩
      have e2 : ((S (plAll l)).toList == (S (plAll a) ++ S (plAll b)).toList) = true := by rw [S_app, ← hpl]; simp
      have e3 : ((S (plAll l)).toList == (S (plAll l)).toList) = true := by simp
      have z1 := S_size (plAll a)
      have z2 := S_size (plAll b)
      have z3 : ¬ 9223372036854775807 < (S (plAll a)).size + (S (plAll b)).size := by omega
      have w1' : IntKind.i64.wrap (lnI a + lnI b) = lnI a + lnI b := by rw [IntKind.wrap_i64]; omega
      have w2' : IntKind.i64.wrap (lnI a + lnI b - 1) = lnI a + lnI b - 1 := by rw [IntKind.wrap_i64]; omega
      clear hT o4 g4 hb4 o3 g3 hb3 oA hba Hba H3 rka rkb kka kkb hpa hpb lpa lpb ha hb ta tb hl hpl hln HA la lb te pA pB pL RA RB hlt
      generalize plAll a = xa at *
      generalize plAll b = xb at *
      generalize plAll l = xl at *
      generalize lnI a = na at *
      generalize lnI b = nb at *
      generalize S xa = sa at *
      generalize S xb = sb at *
      generalize S xl = sl at *
      generalize l.length = ln at *
      go_wp2_with (first
        | (at_builtin; refine Lib.wpList_append_run _ rfl (.tmp 19) (.tmp 20) _ _ rfl _ _ rfl rfl _ _ (q3 _) ?_)
        | (at_builtin; refine Lib.wpList_append_run _ rfl (.tmp 21) (.tmp 22) _ _ rfl _ _ rfl rfl _ _ (q4 _) ?_))
      have G4 := Lib.hid (Below.refl w4.heap.size w4)
      go_wp2_with fail
      refine (PL.out _ G4.out).mono ?_
      rintro e w5 ⟨rfl, b5⟩
      have G5 := Lib.hid (G4.out.trans (b5.mono G4.out.size))
      clear b5
      go_wp2_with fail
      refine (PA.out _ (HW.out _ G5.out)).mono ?_
      rintro e w6 ⟨rfl, b6⟩
      have G6 := Lib.hid (G5.out.trans (b6.mono G5.out.size))
      clear b6 PA
      go_wp2_with fail
      refine (PB.out _ (HW.out _ G6.out)).mono ?_
      rintro e w7 ⟨rfl, b7⟩
      have G7 := Lib.hid (G6.out.trans (b7.mono G6.out.size))
      clear b7 PB
      go_wp2_with fail
      refine (LL.out _ G7.out).mono ?_
      rintro e w8 ⟨rfl, b8⟩
      have G8 := Lib.hid (G7.out.trans (b8.mono G7.out.size))
      clear b8 LL
      go_wp2_with fail
      refine (LA.out _ (HW.out _ G8.out)).mono ?_
      rintro e w9 ⟨rfl, b9⟩
      have G9 := Lib.hid (G8.out.trans (b9.mono G8.out.size))
      clear b9 LA
      go_wp2_with fail
      refine (LB.out _ (HW.out _ G9.out)).mono ?_
      rintro e w10 ⟨rfl, b10⟩
      have G10 := Lib.hid (G9.out.trans (b10.mono G9.out.size))
      clear b10 LB
      go_wp2_with fail
      refine (PE.out _ G10.out).mono ?_
      rintro e w11 ⟨rfl, b11⟩
      have G11 := Lib.hid (G10.out.trans ((((Below.refl w10.heap.size w10).alloc (Nat.le_refl _) _).trans (b11.mono (by simp))).mono G10.out.size))
      clear b11 PE
      go_wp2_with fail
      refine (PL.out _ G11.out).mono ?_
      rintro e w12 ⟨rfl, b12⟩
      have G12 := Lib.hid (HW.out _ (G11.out.trans (b12.mono G11.out.size)))
      clear b12 PL
      go_wp2_with fail
      go_ret
      exact ⟨rfl, G12.out⟩

end Go.Proofs.Ytjgaggikgjibiaa.Sp
