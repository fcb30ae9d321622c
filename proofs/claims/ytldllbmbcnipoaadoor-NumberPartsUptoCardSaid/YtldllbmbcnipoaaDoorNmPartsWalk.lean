/-
  THE WALK of the statement NumberParts (gen_parts.py writes it).
-/
import Derived.Test.YtldllbmbcnipoaaDoorPkNP
import Derived.Test.YtldllbmbcnipoaaDoorNmMore
import Derived.Test.YtldllbmbcnipoaaDoorNmCut
namespace Go.Proofs.YtldllbmbcnipoaaDoor.Nm
open Go.RowKit
open Go.Proofs.YtldllbmbcnipoaaDoor.Tk (S S_of S_list S_size S_toList S_app Rd RdI ret_int)
open Go.Proofs.YtldllbmbcnipoaaDoor.Cm (cell_at alloc_new alloc_at Keep Keep.of_below calls_at Rk)
open Go.Proofs.YtldllbmbcnipoaaDoor.Sp (Sp Tr totAll OkAns)
open Go.Proofs.YtldllbmbcnipoaaDoor.Bt (TrB ttAll ttOne lnTot szAll szOne smB spAll encT KB)
open Go.Proofs.YtldllbmbcnipoaaDoor.Bk (Bk Tx)
set_option linter.unusedVariables false

theorem fit1' {R : Nat} {x : Bk} (h : Bt.fitOne R x) : Bt.fitAll R [x] := by unfold Bt.fitAll; exact ⟨h, by unfold Bt.fitAll; trivial⟩
theorem tt1' (x : Bk) : ttAll [x] = ttOne x := by rw [Bt.ttAll_cons]; simp [ttAll]
theorem qu_fit {R : Nat} {l : List Bk} (h : Bt.fitAll R l) : Bt.fitOne R (qu l) := by
  unfold qu
  rw [Bt.fitOne]
  exact ⟨by omega, by omega, by simp, fun s hs => (by cases hs), by unfold Sp.fitAll; trivial, h⟩
theorem qu_tt (l : List Bk) : ttOne (qu l) = 1 + ttAll l := by
  rw [Bt.ttOne_eq]
  unfold qu
  simp [Bk.info, Bk.lines, Bk.spans, Bk.kids, lnTot, totAll]
theorem app_tt (l : List Bk) (x : Bk) : ttAll (l ++ [x]) = ttAll l + ttOne x := by
  rw [Bt.tt_sum, Bt.tt_sum]
  simp
theorem app_fit {R : Nat} {l : List Bk} {x : Bk} (h : Bt.fitAll R l) (g : Bt.fitOne R x) : Bt.fitAll R (l ++ [x]) := Bt.fitAll_of (fun y hy => by
  rcases List.mem_append.1 hy with hy | hy
  · exact Bt.fitAll_at h y hy
  · rw [List.mem_singleton.1 hy]; exact g)
/-- A quote's value. -/
theorem qu_v {w : World} {ao : Option Addr} {n c : Nat} {l : List Bk} (h : TrB w (.slice ao n c) l) : BkV w (qu l) (.agg #[.int .i64 5, .int .i64 0, .string ⟨#[]⟩, .slice none 0 0, .slice none 0 0, .slice ao n c]) := by
  have hn : n = l.length := by obtain ⟨_, _, hv, _⟩ := h; simp only [Value.slice.injEq] at hv; exact hv.2.1
  subst hn
  exact ⟨none, none, ao, 0, 0, c, rfl, ⟨none, 0, rfl, Nat.le_refl _, Or.inl rfl⟩, Nat.zero_le _, ⟨none, 0, rfl, ⟨Nat.le_refl _, by omega⟩, Or.inl rfl⟩, h⟩
theorem new_c {w : World} (o o' o'' : Obj) : (((w.alloc o).alloc o').alloc o'').heap[w.heap.size + 2]? = some o'' := by
  have h := alloc_new ((w.alloc o).alloc o') o''
  rw [show ((w.alloc o).alloc o').heap.size = w.heap.size + 2 by simp] at h
  exact h
theorem AccB.lit3 {w0 w : World} (hb : Below w0.heap.size w0 w) (o o' : Obj) : AccB w0 (((w.alloc o).alloc o').alloc (.cells #[] 33)) (.slice (some ⟨w.heap.size + 2, 0, none⟩) 0 0) [] := by
  have h := AccB.lit2 (bel_a hb o) o'
  rw [show (w.alloc o).heap.size = w.heap.size + 1 by simp] at h
  exact h
/-- Six cells stored leave a row that lies elsewhere. -/
theorem AccB.set6 {w0 w : World} {v : Value} {ps : List (Bk × Value × Value × Value)} (h : AccB w0 w v ps) {g : Nat} (hg : w0.heap.size ≤ g) (hne : v.ownBlock ≠ some g) (u0 u1 u2 u3 u4 u5 : Value) :
    AccB w0 ((((((w.setCell ⟨g, 0, none⟩ u0).setCell ⟨g, 1, none⟩ u1).setCell ⟨g, 2, none⟩ u2).setCell ⟨g, 3, none⟩ u3).setCell ⟨g, 4, none⟩ u4).setCell ⟨g, 5, none⟩ u5) v ps :=
  ⟨nset6_below h.bel hg u0 u1 u2 u3 u4 u5, Cm.own_keep (S := fun k => k = g) h.own ((((((Keep.refl (fun k => k = g) w).setCell (p := ⟨g, 0, none⟩) (Or.inl rfl) u0).setCell (p := ⟨g, 1, none⟩) (Or.inl rfl) u1).setCell (p := ⟨g, 2, none⟩) (Or.inl rfl) u2).setCell (p := ⟨g, 3, none⟩) (Or.inl rfl) u3).setCell (p := ⟨g, 4, none⟩) (Or.inl rfl) u4 |>.setCell (p := ⟨g, 5, none⟩) (Or.inl rfl) u5) (fun k hk e => hne (by rw [hk, e]))⟩
def Zc : Obj := .cells #[.int .i64 0, .int .i64 0, .string ⟨#[]⟩, .slice none 0 0, .slice none 0 0, .slice none 0 0] 33
/-- The quote's memory, made before a row was appended to. -/
structure QF (w0 w : World) (v : Value) (g : Nat) : Prop where
  low : w0.heap.size ≤ g
  at' : w.heap[g]? = some (.cells #[.int .i64 0, .int .i64 0, .string ⟨#[]⟩, .slice none 0 0, .slice none 0 0, .slice none 0 0] 33)
  ne : v.ownBlock ≠ some g
theorem own_ne {w0 w : World} {v : Value} {ps : List (Bk × Value × Value × Value)} (h : AccB w0 w v ps) {g : Nat} (hg : w.heap.size ≤ g) : v.ownBlock ≠ some g := fun e => by
  have := (h.own.lt g e).2
  omega
set_option maxHeartbeats 12800000 in
set_option maxRecDepth 100000 in
theorem numberParts_walk (K : Told15) (w : World) (hT : Tab w) (vl : Value) (l : List Bk) (rl : TrB w vl l) (fl : Bt.fitAll reachBytes l) (tl : ttAll l ≤ 1048576) (vx : Value) (x : Bk) (hx : BkV w x vx) (fx : Bt.fitOne reachBytes x) (tx' : ttAll [x] ≤ 1048576) :
    Calls Tryd.prog 6 #[vl, vx] w (OkAns w true) := by
  have HTb := Lib.hid (fun w' (h : Below w.heap.size w w') => hT.below h)
  have HA := Lib.hid (fun w' (h : Below w.heap.size w w') => awake15_any K w' (hT.below h))
  have fl' := Bt.fitAll_wide (R' := 140737488355328) (by decide) _ fl
  have fx' := Bt.fitOne_wide (R' := 140737488355328) (by decide) _ fx
  have K1 := Lib.hid (fun (h : fewN l = true) (g : fewN [x] = true) va vb w' (r : BkV w' (qu l) va) (s : BkV w' (qu (l ++ [x])) vb) (t : Tab w') => K.alike _ _ va vb w' r s t (by have := (fewN_tt h tl).2; rw [qu_tt]; omega) (by have h1 := (fewN_tt h tl).2; have h2 := (fewN_tt g tx').2; rw [tt1'] at h2; rw [qu_tt, app_tt]; omega) (qu_fit fl') (qu_fit (app_fit fl' fx')))
  have K2 := Lib.hid (fun (h : fewN l = true) (g : fewN [x] = true) va vb w' (r : BkV w' (qu []) va) (s : BkV w' (qu (l ++ [x])) vb) (t : Tab w') => K.alike _ _ va vb w' r s t (by decide) (by have h1 := (fewN_tt h tl).2; have h2 := (fewN_tt g tx').2; rw [tt1'] at h2; rw [qu_tt, app_tt]; omega) (qu_fit (by unfold Bt.fitAll; trivial)) (qu_fit (app_fit fl' fx')))
  have K3 := Lib.hid (fun va vb w' (r : BkV w' (qu []) va) (s : BkV w' (qu []) vb) (t : Tab w') => K.alike _ _ va vb w' r s t (by decide) (by decide) (qu_fit (by unfold Bt.fitAll; trivial)) (qu_fit (by unfold Bt.fitAll; trivial)))
  rw [al_qu] at K1
  rw [al_none] at K2
  rw [al_self] at K3
  have LL : Hid (fewN l = true → l.length ≤ 20) := Lib.hid (fun h => (fewN_tt h tl).1)
  have RL := Lib.hid rl
  obtain ⟨aa, ca, rfl⟩ := rl.len
  obtain ⟨al1, as1, ak1, cl1, cs1, ck1, rfl, r1, n1, s1, t1⟩ := hx
  have LX := Lib.hid (fun w' (h : Below w.heap.size w w') => Bt.litB (k := x.kind) (lv := x.level) (i := x.info) (r1.below h) n1 (s1.below h) (t1.below h) 33)
  have KX := Lib.hid (fun w' (h : Below w.heap.size w w') => (⟨r1.below h, n1, s1.below h, t1.below h⟩ : KB w' (x, .slice al1 x.lines.length cl1, .slice as1 x.spans.length cs1, .slice ak1 x.kids.length ck1)))
  have EX : encT (x, .slice al1 x.lines.length cl1, .slice as1 x.spans.length cs1, .slice ak1 x.kids.length ck1) = [.int .i64 x.kind, .int .i64 x.level, .string (S x.info), .slice al1 x.lines.length cl1, .slice as1 x.spans.length cs1, .slice ak1 x.kids.length ck1] := rfl
  have FL := Lib.hid (fun w' (h : Below w.heap.size w w') => few15_any l _ w' (rl.below h) fl)
  have FX := Lib.hid (fun v w' (h : TrB w' v [x]) => few15_any [x] v w' h (fit1' fx))
  have HBx := Lib.hid ((Below.refl w.heap.size w).alloc (Nat.le_refl _) (.cells #[.int .i64 x.kind, .int .i64 x.level, .string (S x.info), .slice al1 x.lines.length cl1, .slice as1 x.spans.length cs1, .slice ak1 x.kids.length ck1] 33))
  have HCx := Lib.hid (alloc_new w (.cells #[.int .i64 x.kind, .int .i64 x.level, .string (S x.info), .slice al1 x.lines.length cl1, .slice as1 x.spans.length cs1, .slice ak1 x.kids.length ck1] 33))
  unfold OkAns
  unfold BoolA at HA FL FX
  unfold IntA at K1 K2 K3
  clear r1 n1 s1 t1 tx' fx fl tl rl K fl' fx' hT
  have elx : x = .mk x.kind x.level x.info x.lines x.spans x.kids := by cases x; rfl
  rw [← elx] at LX
  clear elx
  obtain ⟨px, hpx⟩ : ∃ px : Bk × Value × Value × Value, px = (x, .slice al1 x.lines.length cl1, .slice as1 x.spans.length cs1, .slice ak1 x.kids.length ck1) := ⟨_, rfl⟩
  rw [← hpx] at KX EX
  have hp1 : Hid (px.1 = x) := Lib.hid (by rw [hpx])
  clear hpx
  generalize fewN l = f1 at *
  generalize fewN [x] = f2 at *
  generalize x.lines.length = ln1 at *
  generalize x.spans.length = sn1 at *
  generalize x.kids.length = kn1 at *
  generalize S x.info = si1 at *
  generalize x.level = lv1 at *
  generalize x.kind = q1 at *
  have EX' := Lib.hid EX
  clear EX
  go_enter Tryd.func6, Tryd.ntmps6
  go_upto_region 1 with fail
  generalize w.alloc (.cells #[.int .i64 q1, .int .i64 lv1, .string si1, .slice al1 ln1 cl1, .slice as1 sn1 cs1, .slice ak1 kn1 ck1] 33) = w2 at *
  go_wp2_with fail
  refine (HA.out _ HBx.out).mono ?_
  rintro e w3 ⟨rfl, b3⟩
  have HB3 := Lib.hid (HBx.out.trans (b3.mono HBx.out.size))
  have HCx3 := Lib.hid ((Keep.of_below (S := fun _ => False) b3).at HCx.out (fun h => h))
  clear b3 HCx HBx
  go_wp2_with fail
  refine (FL.out _ HB3.out).mono ?_
  rintro e w4 ⟨rfl, b4⟩
  have HB4 := Lib.hid (HB3.out.trans (b4.mono HB3.out.size))
  have HCx4 := Lib.hid ((Keep.of_below (S := fun _ => False) b4).at HCx3.out (fun h => h))
  clear b4 HCx3 HB3 FL
  cases f1 with
  | false =>
    clear HCx4
    go_wp2_with fail
    refine (HA.out _ HB4.out).mono ?_
    rintro e w9 ⟨rfl, b9⟩
    have H9 := Lib.hid (HB4.out.trans (b9.mono HB4.out.size))
    clear b9
    go_wp2_with fail
    go_ret
    exact ⟨rfl, H9.out⟩
  | true =>
    have x0 : w4.cell? ⟨w.heap.size, 0, none⟩ = some (.int .i64 q1) := cell_at HCx4.out 0
    have x1 : w4.cell? ⟨w.heap.size, 1, none⟩ = some (.int .i64 lv1) := cell_at HCx4.out 1
    have x2 : w4.cell? ⟨w.heap.size, 2, none⟩ = some (.string si1) := cell_at HCx4.out 2
    have x3 : w4.cell? ⟨w.heap.size, 3, none⟩ = some (.slice al1 ln1 cl1) := cell_at HCx4.out 3
    have x4 : w4.cell? ⟨w.heap.size, 4, none⟩ = some (.slice as1 sn1 cs1) := cell_at HCx4.out 4
    have x5 : w4.cell? ⟨w.heap.size, 5, none⟩ = some (.slice ak1 kn1 ck1) := cell_at HCx4.out 5
    have TX := LX.out w4 HB4.out
    have HF := Lib.hid (FX.out _ _ TX)
    have bA : Below w4.heap.size w4 (w4.alloc (.cells #[.int .i64 q1, .int .i64 lv1, .string si1, .slice al1 ln1 cl1, .slice as1 sn1 cs1, .slice ak1 kn1 ck1] 33)) := (Below.refl _ _).alloc (Nat.le_refl _) _
    have HB5 := Lib.hid (HB4.out.trans (bA.mono HB4.out.size))
    have HCx5 := Lib.hid ((Keep.of_below (S := fun _ => False) bA).at HCx4.out (fun h => h))
    clear TX bA FX
    go_wp2_with fail
    refine HF.out.mono ?_
    rintro e w6 ⟨rfl, b6⟩
    have HB6 := Lib.hid (HB5.out.trans (b6.mono HB5.out.size))
    have HCx6 := Lib.hid ((Keep.of_below (S := fun _ => False) b6).at HCx5.out (fun h => h))
    clear b6 HF HB4 HB5 HCx4 HCx5 x0 x1 x2 x3 x4 x5
    cases f2 with
    | false =>
      clear HCx6
      go_wp2_with fail
      refine (HA.out _ HB6.out).mono ?_
      rintro e w9 ⟨rfl, b9⟩
      have H9 := Lib.hid (HB6.out.trans (b9.mono HB6.out.size))
      clear b9
      go_wp2_with fail
      go_ret
      exact ⟨rfl, H9.out⟩
    | true =>
      have x0 : w6.cell? ⟨w.heap.size, 0, none⟩ = some (.int .i64 q1) := cell_at HCx6.out 0
      have x1 : w6.cell? ⟨w.heap.size, 1, none⟩ = some (.int .i64 lv1) := cell_at HCx6.out 1
      have x2 : w6.cell? ⟨w.heap.size, 2, none⟩ = some (.string si1) := cell_at HCx6.out 2
      have x3 : w6.cell? ⟨w.heap.size, 3, none⟩ = some (.slice al1 ln1 cl1) := cell_at HCx6.out 3
      have x4 : w6.cell? ⟨w.heap.size, 4, none⟩ = some (.slice as1 sn1 cs1) := cell_at HCx6.out 4
      have x5 : w6.cell? ⟨w.heap.size, 5, none⟩ = some (.slice ak1 kn1 ck1) := cell_at HCx6.out 5
      have ll := LL.out (by trivial)
      have K1' := Lib.hid (K1.out (by trivial) (by trivial))
      have K2' := Lib.hid (K2.out (by trivial) (by trivial))
      clear K1 K2 LL HA
      go_upto_region 4 with fail
      have bQ : Below w6.heap.size w6 (w6.alloc (.cells #[.int .i64 5, .int .i64 0, .string ⟨#[]⟩, .slice none 0 0, .slice none 0 0, .slice aa l.length ca] 33)) := (Below.refl _ _).alloc (Nat.le_refl _) _
      have HBa := Lib.hid (HB6.out.trans (bQ.mono HB6.out.size))
      have HCxa := Lib.hid ((Keep.of_below (S := fun _ => False) bQ).at HCx6.out (fun h => h))
      have HCa := Lib.hid (alloc_new w6 (.cells #[.int .i64 5, .int .i64 0, .string ⟨#[]⟩, .slice none 0 0, .slice none 0 0, .slice aa l.length ca] 33))
      clear bQ HCx6 x0 x1 x2 x3 x4 x5
      generalize w6.alloc (.cells #[.int .i64 5, .int .i64 0, .string ⟨#[]⟩, .slice none 0 0, .slice none 0 0, .slice aa l.length ca] 33) = wa at *
      obtain ⟨pl, hpl, rkl, kkl⟩ := (RL.out.below HBa.out).pairs
      have lpl : pl.length = l.length := by rw [← hpl, List.length_map]
      have SRl : Hid (∀ w' : World, Below wa.heap.size wa w' → Rk 6 encT w' (.slice aa l.length ca) pl ∧ ∀ p ∈ pl, KB w' p) := Lib.hid (fun w' h => ⟨rkl.below h, fun p hp => (kkl p hp).below h⟩)
      have KX' : Hid (∀ w' : World, Below wa.heap.size wa w' → ∀ p ∈ [px], KB w' p) := Lib.hid (fun w' h p hp => by rw [List.mem_singleton.1 hp]; exact KX.out _ (HBa.out.trans (h.mono HBa.out.size)))
      have B0 : Below wa.heap.size wa wa := Below.refl _ _
      have HKK : Hid (∀ w' : World, Below wa.heap.size wa w' → w.heap.size < w'.heap.size ∧ w'.cell? ⟨w.heap.size, 0, none⟩ = some (.int .i64 q1) ∧ w'.cell? ⟨w.heap.size, 1, none⟩ = some (.int .i64 lv1) ∧ w'.cell? ⟨w.heap.size, 2, none⟩ = some (.string si1) ∧ w'.cell? ⟨w.heap.size, 3, none⟩ = some (.slice al1 ln1 cl1) ∧ w'.cell? ⟨w.heap.size, 4, none⟩ = some (.slice as1 sn1 cs1) ∧ w'.cell? ⟨w.heap.size, 5, none⟩ = some (.slice ak1 kn1 ck1)) := Lib.hid (fun w' h => by
        have h6 := (Keep.of_below (S := fun _ => False) h).at HCxa.out (fun h => h)
        exact ⟨Cm.lt_of_at h6, cell_at h6 0, cell_at h6 1, cell_at h6 2, cell_at h6 3, cell_at h6 4, cell_at h6 5⟩)
      obtain ⟨lC6, x0, x1, x2, x3, x4, x5⟩ := HKK.out _ B0
      have HPL := Lib.hid hpl
      clear rkl kkl hpl KX LX
      go_cut [6] from 32 (fun q wx => ∃ g ao c, q = .pointer (some ⟨g, 0, none⟩) ∧ wx.heap[g]? = some (.cells #[.int .i64 5, .int .i64 0, .string ⟨#[]⟩, .slice none 0 0, .slice none 0 0, .slice ao (l.length + 1) c] 33) ∧ Hid (AccB wa wx (.slice ao (l.length + 1) c) ([] ++ pl ++ [px])))
      case first =>
        rename_i Jc Kc hJc hKc
        clear K1' K2' K3 HB6 HPL hp1 RL
        go_region_law (first
          | (refine step_bk rfl rfl (.tmp 25) (.tmp 26) rfl rfl rfl (by repeat (first | exact AccB.lit B0 | exact AccB.lit2 B0 _ | exact AccB.lit3 B0 _ _ | apply AccB.drew | apply AccB.alloc)) (SRl.out _ (by repeat (first | exact B0 | apply bel_d | apply bel_a))) (by simp; omega) ?_
             intro v7 w7 H7 k7
             obtain ⟨lC7, m0, m1, m2, m3, m4, m5⟩ := HKK.out _ H7.bel
             first | (have Q7 : QF wa w7 v7 (wa.heap.size) := ⟨by omega, (k7 (wa.heap.size) (by first | omega | (simp; done) | (simp; omega)) (fun e => absurd (Option.some.inj (show some _ = some _ from e)) (by first | omega | (simp; done) | (simp; omega)))).1.trans (by (first | exact alloc_new _ _ | exact Sp.new_aT _ _ | exact Sp.new_bT _ _ | exact alloc_at (Sp.new_aT _ _) _ | exact alloc_at (Sp.new_bT _ _) _ | exact new_c _ _ _)), (k7 (wa.heap.size) (by first | omega | (simp; done) | (simp; omega)) (fun e => absurd (Option.some.inj (show some _ = some _ from e)) (by first | omega | (simp; done) | (simp; omega)))).2⟩) | (have Q7 : QF wa w7 v7 (wa.heap.size + 1) := ⟨by omega, (k7 (wa.heap.size + 1) (by first | omega | (simp; done) | (simp; omega)) (fun e => absurd (Option.some.inj (show some _ = some _ from e)) (by first | omega | (simp; done) | (simp; omega)))).1.trans (by (first | exact alloc_new _ _ | exact Sp.new_aT _ _ | exact Sp.new_bT _ _ | exact alloc_at (Sp.new_aT _ _) _ | exact alloc_at (Sp.new_bT _ _) _ | exact new_c _ _ _)), (k7 (wa.heap.size + 1) (by first | omega | (simp; done) | (simp; omega)) (fun e => absurd (Option.some.inj (show some _ = some _ from e)) (by first | omega | (simp; done) | (simp; omega)))).2⟩) | (have Q7 : QF wa w7 v7 (wa.heap.size + 2) := ⟨by omega, (k7 (wa.heap.size + 2) (by first | omega | (simp; done) | (simp; omega)) (fun e => absurd (Option.some.inj (show some _ = some _ from e)) (by first | omega | (simp; done) | (simp; omega)))).1.trans (by (first | exact alloc_new _ _ | exact Sp.new_aT _ _ | exact Sp.new_bT _ _ | exact alloc_at (Sp.new_aT _ _) _ | exact alloc_at (Sp.new_bT _ _) _ | exact new_c _ _ _)), (k7 (wa.heap.size + 2) (by first | omega | (simp; done) | (simp; omega)) (fun e => absurd (Option.some.inj (show some _ = some _ from e)) (by first | omega | (simp; done) | (simp; omega)))).2⟩) | skip)
          | (refine step_bk rfl rfl (.tmp 27) (.tmp 29) rfl rfl rfl (by repeat (first | exact H7 | apply AccB.drew | apply AccB.alloc)) ⟨one_rkB (p := px) (by first | (first | exact alloc_new _ _ | exact Sp.new_aT _ _ | exact Sp.new_bT _ _ | exact alloc_at (Sp.new_aT _ _) _ | exact alloc_at (Sp.new_bT _ _) _ | exact new_c _ _ _) | (refine ((k7 _ (by first | omega | (simp; done) | (simp; omega)) (fun e => absurd (Option.some.inj (show some _ = some _ from e)) (by first | omega | (simp; done) | (simp; omega)))).1).trans ?_; (first | exact alloc_new _ _ | exact Sp.new_aT _ _ | exact Sp.new_bT _ _ | exact alloc_at (Sp.new_aT _ _) _ | exact alloc_at (Sp.new_bT _ _) _ | exact new_c _ _ _)) | (refine alloc_at (((k7 _ (by first | omega | (simp; done) | (simp; omega)) (fun e => absurd (Option.some.inj (show some _ = some _ from e)) (by first | omega | (simp; done) | (simp; omega)))).1).trans ?_) _; (first | exact alloc_new _ _ | exact Sp.new_aT _ _ | exact Sp.new_bT _ _ | exact alloc_at (Sp.new_aT _ _) _ | exact alloc_at (Sp.new_bT _ _) _ | exact new_c _ _ _))) EX'.out, KX'.out _ (by repeat (first | exact H7.bel | apply bel_d | apply bel_a))⟩ (by simp; omega) ?_
             intro v8 w8 H8 k8
             first | (have Q8 : QF wa w8 v8 (w7.heap.size) := ⟨by have := H7.bel.size; omega, (k8 (w7.heap.size) (by first | omega | (simp; done) | (simp; omega)) (own_ne H7 (by omega))).1.trans (by (first | exact alloc_new _ _ | exact Sp.new_aT _ _ | exact Sp.new_bT _ _ | exact alloc_at (Sp.new_aT _ _) _ | exact alloc_at (Sp.new_bT _ _) _ | exact new_c _ _ _)), (k8 (w7.heap.size) (by first | omega | (simp; done) | (simp; omega)) (own_ne H7 (by omega))).2⟩) | (have Q8 : QF wa w8 v8 (w7.heap.size + 1) := ⟨by have := H7.bel.size; omega, (k8 (w7.heap.size + 1) (by first | omega | (simp; done) | (simp; omega)) (own_ne H7 (by omega))).1.trans (by (first | exact alloc_new _ _ | exact Sp.new_aT _ _ | exact Sp.new_bT _ _ | exact alloc_at (Sp.new_aT _ _) _ | exact alloc_at (Sp.new_bT _ _) _ | exact new_c _ _ _)), (k8 (w7.heap.size + 1) (by first | omega | (simp; done) | (simp; omega)) (own_ne H7 (by omega))).2⟩) | (have Q8 : QF wa w8 v8 (wa.heap.size) := ⟨by omega, (k8 (wa.heap.size) (by have := Cm.lt_of_at Q7.at'; first | omega | (simp; omega)) Q7.ne).1.trans (by first | exact Q7.at' | exact alloc_at Q7.at' _), (k8 (wa.heap.size) (by have := Cm.lt_of_at Q7.at'; first | omega | (simp; omega)) Q7.ne).2⟩) | (have Q8 : QF wa w8 v8 (wa.heap.size + 1) := ⟨by omega, (k8 (wa.heap.size + 1) (by have := Cm.lt_of_at Q7.at'; first | omega | (simp; omega)) Q7.ne).1.trans (by first | exact Q7.at' | exact alloc_at Q7.at' _), (k8 (wa.heap.size + 1) (by have := Cm.lt_of_at Q7.at'; first | omega | (simp; omega)) Q7.ne).2⟩) | (have Q8 : QF wa w8 v8 (wa.heap.size + 2) := ⟨by omega, (k8 (wa.heap.size + 2) (by have := Cm.lt_of_at Q7.at'; first | omega | (simp; omega)) Q7.ne).1.trans (by first | exact Q7.at' | exact alloc_at Q7.at' _), (k8 (wa.heap.size + 2) (by have := Cm.lt_of_at Q7.at'; first | omega | (simp; omega)) Q7.ne).2⟩) | skip
             obtain ⟨ao8, c8, he8, _, _⟩ := Rk.of_own Bt.encT_len H8.own
             subst he8
             try (have y0 := cell_at Q8.at' 0; have fz0 := Cm.frozen_at Q8.at' 0; have y1 := cell_at Q8.at' 1; have fz1 := Cm.frozen_at Q8.at' 1; have y2 := cell_at Q8.at' 2; have fz2 := Cm.frozen_at Q8.at' 2; have y3 := cell_at Q8.at' 3; have fz3 := Cm.frozen_at Q8.at' 3; have y4 := cell_at Q8.at' 4; have fz4 := Cm.frozen_at Q8.at' 4; have y5 := cell_at Q8.at' 5; have fz5 := Cm.frozen_at Q8.at' 5)))
        all_goals (
          have e9 : ([] ++ pl ++ [px]).length = l.length + 1 := by simp [lpl]
          rw [e9] at H8
          first
            | (have ne8 := Q8.ne
               rw [e9] at ne8
               have HF := Lib.hid (AccB.set6 H8 Q8.low ne8 (.int .i64 5) (.int .i64 0) (.string ⟨#[]⟩) (.slice none 0 0) (.slice none 0 0) (.slice ao8 (l.length + 1) c8))
               have HG := Lib.hid (nset6 (u0 := .int .i64 5) (u1 := .int .i64 0) (u2 := .string ⟨#[]⟩) (u3 := .slice none 0 0) (u4 := .slice none 0 0) (u5 := .slice ao8 (l.length + 1) c8) Q8.at')
               clear H7 k7 H8 k8 lC7 m0 m1 m2 m3 m4 m5 x0 x1 x2 x3 x4 x5 Q8 ne8 y0 y1 y2 y3 y4 y5 fz0 fz1 fz2 fz3 fz4 fz5
               try clear Q7
               show Kc _ _
               refine hKc _ _ (Met.intro (hJc _ _ ?_))
               repeat apply Exists.intro
               refine ⟨?_, rfl⟩
               with_reducible exact ⟨_, _, _, rfl, HG.out, HF⟩)
            | (have HF := Lib.hid (H8.alloc (.cells #[.int .i64 5, .int .i64 0, .string ⟨#[]⟩, .slice none 0 0, .slice none 0 0, .slice ao8 (l.length + 1) c8] 33))
               have HG := Lib.hid (alloc_new w8 (.cells #[.int .i64 5, .int .i64 0, .string ⟨#[]⟩, .slice none 0 0, .slice none 0 0, .slice ao8 (l.length + 1) c8] 33))
               clear H7 k7 H8 k8 lC7 m0 m1 m2 m3 m4 m5 x0 x1 x2 x3 x4 x5
               show Kc _ _
               refine hKc _ _ (Met.intro (hJc _ _ ?_))
               repeat apply Exists.intro
               refine ⟨?_, rfl⟩
               with_reducible exact ⟨_, _, _, rfl, HG.out, HF⟩))
      case rest =>
        clear x0 x1 x2 x3 x4 x5 HKK lC6
        obtain ⟨gq, aq, cq, rfl, hgq, HQ⟩ := hcut
        have hL : ([] ++ pl ++ [px] : List (Bk × Value × Value × Value)).map (·.1) = l ++ [x] := by
          simp only [List.nil_append, List.map_append, List.map_cons, List.map_nil, HPL.out, hp1.out]
        have e9 : ([] ++ pl ++ [px] : List (Bk × Value × Value × Value)).length = l.length + 1 := by simp [lpl]
        have bel := HQ.out.bel
        have hT := TrB.of_own HQ.out.own (fun p hp => by
          rw [List.nil_append, List.mem_append] at hp
          rcases hp with hp | hp
          · exact (SRl.out _ bel).2 p hp
          · exact KX'.out _ bel p hp)
        rw [hL] at hT
        have TA := RL.out.below (HBa.out.trans (bel.mono HBa.out.size))
        have hga := (Keep.of_below (S := fun _ => False) bel).at HCa.out (fun h => h)
        have bN : Below wc.heap.size wc (wc.alloc (.cells #[.int .i64 5, .int .i64 0, .string ⟨#[]⟩, .slice none 0 0, .slice none 0 0, .slice none 0 0] 33)) := (Below.refl _ _).alloc (Nat.le_refl _) _
        have HBN := Lib.hid ((HBa.out.trans (bel.mono HBa.out.size)).trans (bN.mono (Nat.le_trans HBa.out.size bel.size)))
        have HA9 := Lib.hid ((Keep.of_below (S := fun _ => False) bN).at hga (fun h => h))
        have HB9 := Lib.hid ((Keep.of_below (S := fun _ => False) bN).at hgq (fun h => h))
        have HC9 := Lib.hid (alloc_new wc (.cells #[.int .i64 5, .int .i64 0, .string ⟨#[]⟩, .slice none 0 0, .slice none 0 0, .slice none 0 0] 33))
        have VA := Lib.hid (qu_v (TA.below bN))
        have VB := Lib.hid (qu_v (hT.below bN))
        have VN := Lib.hid (fun w' => qu_v (Bt.nilB w'))
        clear HQ hT TA hga hgq bN bel SRl KX' RL HPL hp1 hL e9 HCa HCxa HBa lpl
        go_upto_region 6 with fail
        generalize wc.alloc (.cells #[.int .i64 5, .int .i64 0, .string ⟨#[]⟩, .slice none 0 0, .slice none 0 0, .slice none 0 0] 33) = wn at *
        go_upto_region 7 with fail
        have hD : (2000 * (l.length : Int) / (2 * (l.length : Int) + 1)) = ((2000 * l.length / (2 * l.length + 1) : Nat) : Int) := by norm_cast
        have hD9 : 2000 * l.length / (2 * l.length + 1) < 999 := by
          have h : ∀ n, n ≤ 20 → 2000 * n / (2 * n + 1) < 999 := by decide
          exact h _ ll
        rw [show min 999 (2000 * l.length / (2 * l.length + 1)) = 2000 * l.length / (2 * l.length + 1) by omega] at K1'
        rw [hD]
        clear hD
        generalize 2000 * l.length / (2 * l.length + 1) = D at *
        have d1 : (D : Int) < 999 := by omega
        have hm : min (999 : Int) (D : Int) = (D : Int) := by omega
        clear hD9 d1
        generalize (D : Int) = Z at *
        have VA9 := VA
        have VB9 := VB
        have HBN9 := HBN
        clear VA VB HBN
        have a0 : wn.cell? ⟨w6.heap.size, 0, none⟩ = some (.int .i64 5) := cell_at HA9.out 0
        have a1 : wn.cell? ⟨w6.heap.size, 1, none⟩ = some (.int .i64 0) := cell_at HA9.out 1
        have a2 : wn.cell? ⟨w6.heap.size, 2, none⟩ = some (.string ⟨#[]⟩) := cell_at HA9.out 2
        have a3 : wn.cell? ⟨w6.heap.size, 3, none⟩ = some (.slice none 0 0) := cell_at HA9.out 3
        have a4 : wn.cell? ⟨w6.heap.size, 4, none⟩ = some (.slice none 0 0) := cell_at HA9.out 4
        have a5 : wn.cell? ⟨w6.heap.size, 5, none⟩ = some (.slice aa l.length ca) := cell_at HA9.out 5
        have b0 : wn.cell? ⟨gq, 0, none⟩ = some (.int .i64 5) := cell_at HB9.out 0
        have b1 : wn.cell? ⟨gq, 1, none⟩ = some (.int .i64 0) := cell_at HB9.out 1
        have b2 : wn.cell? ⟨gq, 2, none⟩ = some (.string ⟨#[]⟩) := cell_at HB9.out 2
        have b3 : wn.cell? ⟨gq, 3, none⟩ = some (.slice none 0 0) := cell_at HB9.out 3
        have b4 : wn.cell? ⟨gq, 4, none⟩ = some (.slice none 0 0) := cell_at HB9.out 4
        have b5 : wn.cell? ⟨gq, 5, none⟩ = some (.slice aq (l.length + 1) cq) := cell_at HB9.out 5
        have n0 : wn.cell? ⟨wc.heap.size, 0, none⟩ = some (.int .i64 5) := cell_at HC9.out 0
        have n1 : wn.cell? ⟨wc.heap.size, 1, none⟩ = some (.int .i64 0) := cell_at HC9.out 1
        have n2 : wn.cell? ⟨wc.heap.size, 2, none⟩ = some (.string ⟨#[]⟩) := cell_at HC9.out 2
        have n3 : wn.cell? ⟨wc.heap.size, 3, none⟩ = some (.slice none 0 0) := cell_at HC9.out 3
        have n4 : wn.cell? ⟨wc.heap.size, 4, none⟩ = some (.slice none 0 0) := cell_at HC9.out 4
        have n5 : wn.cell? ⟨wc.heap.size, 5, none⟩ = some (.slice none 0 0) := cell_at HC9.out 5
        go_wp2_with fail
        refine (K1'.out _ _ _ VA9.out VB9.out (HTb.out _ HBN9.out)).mono ?_
        rintro e wz ⟨rfl, bz⟩
        have HBN10 := Lib.hid (HBN9.out.trans (bz.mono HBN9.out.size))
        have HA10 := Lib.hid ((Keep.of_below (S := fun _ => False) bz).at HA9.out (fun h => h))
        have HB10 := Lib.hid ((Keep.of_below (S := fun _ => False) bz).at HB9.out (fun h => h))
        have HC10 := Lib.hid ((Keep.of_below (S := fun _ => False) bz).at HC9.out (fun h => h))
        have VA10 := Lib.hid (VA9.out.below bz)
        have VB10 := Lib.hid (VB9.out.below bz)
        clear bz HBN9 HA9 HB9 HC9 VA9 VB9 a0 a1 a2 a3 a4 a5 b0 b1 b2 b3 b4 b5 n0 n1 n2 n3 n4 n5
        have a0 : wz.cell? ⟨w6.heap.size, 0, none⟩ = some (.int .i64 5) := cell_at HA10.out 0
        have a1 : wz.cell? ⟨w6.heap.size, 1, none⟩ = some (.int .i64 0) := cell_at HA10.out 1
        have a2 : wz.cell? ⟨w6.heap.size, 2, none⟩ = some (.string ⟨#[]⟩) := cell_at HA10.out 2
        have a3 : wz.cell? ⟨w6.heap.size, 3, none⟩ = some (.slice none 0 0) := cell_at HA10.out 3
        have a4 : wz.cell? ⟨w6.heap.size, 4, none⟩ = some (.slice none 0 0) := cell_at HA10.out 4
        have a5 : wz.cell? ⟨w6.heap.size, 5, none⟩ = some (.slice aa l.length ca) := cell_at HA10.out 5
        have b0 : wz.cell? ⟨gq, 0, none⟩ = some (.int .i64 5) := cell_at HB10.out 0
        have b1 : wz.cell? ⟨gq, 1, none⟩ = some (.int .i64 0) := cell_at HB10.out 1
        have b2 : wz.cell? ⟨gq, 2, none⟩ = some (.string ⟨#[]⟩) := cell_at HB10.out 2
        have b3 : wz.cell? ⟨gq, 3, none⟩ = some (.slice none 0 0) := cell_at HB10.out 3
        have b4 : wz.cell? ⟨gq, 4, none⟩ = some (.slice none 0 0) := cell_at HB10.out 4
        have b5 : wz.cell? ⟨gq, 5, none⟩ = some (.slice aq (l.length + 1) cq) := cell_at HB10.out 5
        have n0 : wz.cell? ⟨wc.heap.size, 0, none⟩ = some (.int .i64 5) := cell_at HC10.out 0
        have n1 : wz.cell? ⟨wc.heap.size, 1, none⟩ = some (.int .i64 0) := cell_at HC10.out 1
        have n2 : wz.cell? ⟨wc.heap.size, 2, none⟩ = some (.string ⟨#[]⟩) := cell_at HC10.out 2
        have n3 : wz.cell? ⟨wc.heap.size, 3, none⟩ = some (.slice none 0 0) := cell_at HC10.out 3
        have n4 : wz.cell? ⟨wc.heap.size, 4, none⟩ = some (.slice none 0 0) := cell_at HC10.out 4
        have n5 : wz.cell? ⟨wc.heap.size, 5, none⟩ = some (.slice none 0 0) := cell_at HC10.out 5
        go_wp2_with fail
        refine (K2'.out _ _ _ (VN.out _) VB10.out (HTb.out _ HBN10.out)).mono ?_
        rintro e wy ⟨rfl, bz⟩
        have HBN11 := Lib.hid (HBN10.out.trans (bz.mono HBN10.out.size))
        have HA11 := Lib.hid ((Keep.of_below (S := fun _ => False) bz).at HA10.out (fun h => h))
        have HB11 := Lib.hid ((Keep.of_below (S := fun _ => False) bz).at HB10.out (fun h => h))
        have HC11 := Lib.hid ((Keep.of_below (S := fun _ => False) bz).at HC10.out (fun h => h))
        have VA11 := Lib.hid (VA10.out.below bz)
        have VB11 := Lib.hid (VB10.out.below bz)
        clear bz HBN10 HA10 HB10 HC10 VA10 VB10 a0 a1 a2 a3 a4 a5 b0 b1 b2 b3 b4 b5 n0 n1 n2 n3 n4 n5
        have a0 : wy.cell? ⟨w6.heap.size, 0, none⟩ = some (.int .i64 5) := cell_at HA11.out 0
        have a1 : wy.cell? ⟨w6.heap.size, 1, none⟩ = some (.int .i64 0) := cell_at HA11.out 1
        have a2 : wy.cell? ⟨w6.heap.size, 2, none⟩ = some (.string ⟨#[]⟩) := cell_at HA11.out 2
        have a3 : wy.cell? ⟨w6.heap.size, 3, none⟩ = some (.slice none 0 0) := cell_at HA11.out 3
        have a4 : wy.cell? ⟨w6.heap.size, 4, none⟩ = some (.slice none 0 0) := cell_at HA11.out 4
        have a5 : wy.cell? ⟨w6.heap.size, 5, none⟩ = some (.slice aa l.length ca) := cell_at HA11.out 5
        have b0 : wy.cell? ⟨gq, 0, none⟩ = some (.int .i64 5) := cell_at HB11.out 0
        have b1 : wy.cell? ⟨gq, 1, none⟩ = some (.int .i64 0) := cell_at HB11.out 1
        have b2 : wy.cell? ⟨gq, 2, none⟩ = some (.string ⟨#[]⟩) := cell_at HB11.out 2
        have b3 : wy.cell? ⟨gq, 3, none⟩ = some (.slice none 0 0) := cell_at HB11.out 3
        have b4 : wy.cell? ⟨gq, 4, none⟩ = some (.slice none 0 0) := cell_at HB11.out 4
        have b5 : wy.cell? ⟨gq, 5, none⟩ = some (.slice aq (l.length + 1) cq) := cell_at HB11.out 5
        have n0 : wy.cell? ⟨wc.heap.size, 0, none⟩ = some (.int .i64 5) := cell_at HC11.out 0
        have n1 : wy.cell? ⟨wc.heap.size, 1, none⟩ = some (.int .i64 0) := cell_at HC11.out 1
        have n2 : wy.cell? ⟨wc.heap.size, 2, none⟩ = some (.string ⟨#[]⟩) := cell_at HC11.out 2
        have n3 : wy.cell? ⟨wc.heap.size, 3, none⟩ = some (.slice none 0 0) := cell_at HC11.out 3
        have n4 : wy.cell? ⟨wc.heap.size, 4, none⟩ = some (.slice none 0 0) := cell_at HC11.out 4
        have n5 : wy.cell? ⟨wc.heap.size, 5, none⟩ = some (.slice none 0 0) := cell_at HC11.out 5
        go_wp2_with fail
        refine (K3.out _ _ _ (VN.out _) (VN.out _) (HTb.out _ HBN11.out)).mono ?_
        rintro e wv ⟨rfl, bz⟩
        have HBN12 := Lib.hid (HBN11.out.trans (bz.mono HBN11.out.size))
        clear bz HBN11
        go_wp2_with fail
        go_ret
        exact ⟨rfl, HBN12.out⟩
end Go.Proofs.YtldllbmbcnipoaaDoor.Nm
