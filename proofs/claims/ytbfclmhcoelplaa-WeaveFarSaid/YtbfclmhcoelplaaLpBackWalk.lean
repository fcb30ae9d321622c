/-
  CONTRACT of back (package lcs): the walk.
-/
import Derived.Test.YtbfclmhcoelplaaLpBack
import Derived.Outline
namespace Go.Proofs.Ytbfclmhcoelplaa.Lp
open Go.RowKit Go.Proofs.Ytbfclmhcoelplaa.Cm Go.Proofs.Ytbfclmhcoelplaa.Lc Go.Proofs.Ytbfclmhcoelplaa.Lcx
set_option linter.unusedVariables false

theorem Keep.grownOne (w : World) (b i : Nat) (v : Value) : w.grownBy (w.setCell ⟨b, i, none⟩ v) (some b) :=
  ⟨rfl, rfl, rfl, by simp [World.setCell], fun k hk hne => Below.heap_setCell _ _ _ _ (fun e => hne (by rw [e]))⟩
def Sb (C B : Nat) (v : Value) : Nat → Prop := fun b => b = C ∨ b = B ∨ v.ownBlock = some b
theorem Pl.more {S T : Nat → Prop} {w : World} {v : Value} {l : List (Nat × Nat)} (h : Pl S w v l) (hT : ∀ b, b < w.heap.size → T b → S b) : Pl T w v l := by
  obtain ⟨ao, cap, h1, h2, h3⟩ := h
  refine ⟨ao, cap, h1, h2, ?_⟩
  rcases h3 with h3 | ⟨b, o, h4, h5, h6, h7⟩
  · exact .inl h3
  · exact .inr ⟨b, o, h4, h5, fun ht => h6 (hT b h5 ht), h7⟩
/-- .. and whatever is new. -/
def Sn (w0 : World) (C B : Nat) (v : Value) : Nat → Prop := fun b => Sb C B v b ∨ w0.heap.size ≤ b
theorem Sn.old {w0 w : World} {C B : Nat} {v : Value} (h : Keep (Sn w0 C B v) w0 w) : Keep (Sb C B v) w0 w := h.mono (fun k hk hs => hs.resolve_right (by omega))
theorem own_keep {S : Nat → Prop} {w w' : World} {B e z n : Nat} {v : Value} {xs : List Value} (h : w.ownsRow B e z v n xs) (k : Keep S w w') (hv : ∀ g, v.ownBlock = some g → ¬ S g) : w'.ownsRow B e z v n xs := by
  refine ⟨h.1, ?_⟩
  rcases h.2 with hn | ⟨g, cap, cur, rfl, hb, hgg, rest⟩
  · exact .inl hn
  · exact .inr ⟨g, cap, cur, rfl, hb, k.at hgg (hv g rfl), rest⟩
def Aft (w0 : World) (C B : Nat) (v0 : Value) (W : Nat) (M : Nat → Nat) (k : Nat) (rest : List (Nat × Nat)) (vp : Value) (wr : World) : Prop :=
  Pl (Sn w0 C B v0) wr vp rest ∧ (∀ p ∈ rest, k ≤ p.1 ∧ p.1 < W) ∧ (∀ q, k ≤ q → M q = msk rest q) ∧ rest.Pairwise (fun p q => p.1 < q.1)
structure Bk (w0 : World) (C B W : Nat) (vc : Value) (X M : Nat → Nat) (v0 : Value) (ws : List (Nat × Nat)) (k : Nat) (rest : List (Nat × Nat)) (vp vw : Value) (z : Int) (t : Nat) (wr : World) : Prop where
  col : Col wr C vc W B (mid X M k) t
  pl : Pl (Sn w0 C B v0) wr vp rest
  row : wr.ownsRow 0 89 2 vw (ws ++ chg X M k).length ((ws ++ chg X M k).flatMap encW)
  loc : vw.ownBlock = v0.ownBlock ∨ ∃ g, vw.ownBlock = some g ∧ w0.heap.size ≤ g
  keep : Keep (Sn w0 C B v0) w0 wr
  bor : z = ((cw X M k).toNat : Int)
  ge : ∀ p ∈ rest, k ≤ p.1 ∧ p.1 < W
  mq : ∀ q, k ≤ q → M q = msk rest q
  rise : rest.Pairwise (fun p q => p.1 < q.1)
def BackPost (w0 : World) (C B W : Nat) (vc : Value) (X M : Nat → Nat) (v0 : Value) (ws : List (Nat × Nat)) (e : Ending) (w' : World) : Prop :=
  ∃ v' t', e = .returned v' ∧ Col w' C vc W B (nw X M) t' ∧ w'.ownsRow 0 89 2 v' (ws ++ chg X M W).length ((ws ++ chg X M W).flatMap encW) ∧
    (v'.ownBlock = v0.ownBlock ∨ ∃ g, v'.ownBlock = some g ∧ w0.heap.size ≤ g) ∧ Keep (Sb C B v0) w0 w'

theorem BackPost.intro {w0 : World} {C B W t' : Nat} {vc v0 v' : Value} {X M : Nat → Nat} {ws : List (Nat × Nat)} {w' : World} (h1 : Col w' C vc W B (nw X M) t')
    (h2 : w'.ownsRow 0 89 2 v' (ws ++ chg X M W).length ((ws ++ chg X M W).flatMap encW)) (h3 : v'.ownBlock = v0.ownBlock ∨ ∃ g, v'.ownBlock = some g ∧ w0.heap.size ≤ g) (h4 : Keep (Sb C B v0) w0 w') :
    BackPost w0 C B W vc X M v0 ws (.returned v') w' := ⟨v', t', rfl, h1, h2, h3, h4⟩
/-- The loop's end: nothing more is to be done. -/
theorem Bk.fin {w0 : World} {C B W : Nat} {vc : Value} {X M : Nat → Nat} {v0 : Value} {ws : List (Nat × Nat)} {k : Nat} {vp vw : Value} {z : Int} {t : Nat} {wr : World} (h : Bk w0 C B W vc X M v0 ws k [] vp vw z t wr) (hX : ∀ q, X q < 2 ^ 64) (hk : k ≤ W)
    (hj : (decide (z = 0) || decide (t ≤ k)) = true) : mid X M k = nw X M ∧ chg X M W = chg X M k := by
  have hM : ∀ q, k ≤ q → M q = 0 := fun q hq => h.mq q hq
  have hs : ∀ q, k ≤ q → nw X M q = X q := by
    intro q hq
    by_cases hz : z = 0
    · have hc : cw X M k = false := by
        have := h.bor
        cases hcw : cw X M k
        · rfl
        · rw [hcw, hz] at this; simp at this
      exact (pass_idle hX hc (q + 1) (by omega) (fun i h1 _ => hM i h1)).2 q hq (by omega)
    · have ht : t ≤ k := by simpa [hz] using hj
      refine (pass_none (c := cw X M k) rfl (q + 1) (by omega) (fun i h1 _ => ⟨hM i h1, ?_⟩)).2 q hq (by omega)
      have := h.col.2.2.2 i (by omega)
      unfold mid at this
      rwa [if_neg (by omega)] at this
  exact ⟨mid_end hs, chg_same W hk (fun q h1 _ => hs q h1)⟩
def Jmp (X M : Nat → Nat) (W k k' : Nat) (rest : List (Nat × Nat)) : Prop := k ≤ k' ∧ k' < W ∧ (∀ x ∈ rest, k' ≤ x.1) ∧ (∀ q, k ≤ q → q < k' → nw X M q = X q) ∧ cw X M k' = cw X M k
/-- Words are passed over. -/
theorem Bk.jump {w0 : World} {C B W : Nat} {vc : Value} {X M : Nat → Nat} {v0 : Value} {ws : List (Nat × Nat)} {k : Nat} {rest : List (Nat × Nat)} {p : Nat × Nat} {vp vw : Value} {z : Int} {t : Nat} {wr : World} (h : Bk w0 C B W vc X M v0 ws k (p :: rest) vp vw z t wr) (hX : ∀ q, X q < 2 ^ 64)
    (hj : (decide (z = 0) || decide (t ≤ k)) = true) : k ≤ p.1 ∧ p.1 < W ∧ (∀ x ∈ p :: rest, p.1 ≤ x.1) ∧ (∀ q, k ≤ q → q < p.1 → nw X M q = X q) ∧ cw X M p.1 = cw X M k := by
  have hp := h.ge p (List.mem_cons_self ..)
  have hr := h.rise
  rw [List.pairwise_cons] at hr
  have hge : ∀ x ∈ p :: rest, p.1 ≤ x.1 := fun x hx => by
    rcases List.mem_cons.1 hx with rfl | hx
    · exact Nat.le_refl _
    · exact Nat.le_of_lt (hr.1 x hx)
  have hM : ∀ q, k ≤ q → q < p.1 → M q = 0 := fun q h1 h2 => by
    rw [h.mq q h1]
    exact msk_none (fun x hx => by have := hge x hx; omega)
  by_cases hz : z = 0
  · have hc : cw X M k = false := by
      have := h.bor
      cases hcw : cw X M k
      · rfl
      · rw [hcw, hz] at this; simp at this
    obtain ⟨h1, h2⟩ := pass_idle hX hc p.1 hp.1 hM
    exact ⟨hp.1, hp.2, hge, h2, by rw [h1, hc]⟩
  · have ht : t ≤ k := by simpa [hz] using hj
    obtain ⟨h1, h2⟩ := pass_none (c := cw X M k) rfl p.1 hp.1 (fun i h1 h2 => ⟨hM i h1 h2, by
      have := h.col.2.2.2 i (by omega)
      unfold mid at this
      rwa [if_neg (by omega)] at this⟩)
    exact ⟨hp.1, hp.2, hge, h2, h1⟩

set_option maxHeartbeats 6400000 in
set_option maxRecDepth 100000 in
theorem back_any (C B W t : Nat) (vc vp v0 : Value) (X M : Nat → Nat) (pl ws : List (Nat × Nat)) (w : World) (h : Col w C vc W B X t) (hX : ∀ q, X q < 2 ^ 64) (hM : ∀ q, M q = msk pl q)
    (hp : Pl (Sb C B v0) w vp pl) (hpl : ∀ p ∈ pl, p.1 < W ∧ p.2 < 2 ^ 64) (hrise : pl.Pairwise (fun p q => p.1 < q.1))
    (hr : w.ownsRow 0 89 2 v0 ws.length (ws.flatMap encW)) (hCv : v0.ownBlock ≠ some C) (hBv : v0.ownBlock ≠ some B) (hBC : B ≠ C) (hW : W ≤ 100000) (hws : ws.length ≤ 100000) (hpn : pl.length ≤ 100000) (hB : B < w.heap.size) :
    Calls Try.prog 52 #[.pointer (some ⟨C, 0, none⟩), vp, v0] w (BackPost w C B W vc X M v0 ws) := by
  obtain ⟨i0, hi, hz0, hz1, hz2⟩ := info_parts infoW
  have hlC := lt_of_at h.1
  have HX := Lib.hid hX
  have HM64 : Hid (∀ q, M q < 2 ^ 64) := Lib.hid (fun q => by rw [hM]; exact msk_lt (fun p hp => (hpl p hp).2) q)
  have H0 : Hid (Bk w C B W vc X M v0 ws 0 pl vp v0 0 t w) := Lib.hid ⟨by rw [mid_zero]; exact h, hp.more (fun b hb hs => hs.resolve_right (by omega)), by simpa [chg] using hr, Or.inl rfl, Keep.refl _ _, rfl, fun p hp => ⟨Nat.zero_le _, (hpl p hp).1⟩, fun q _ => hM q, hrise⟩
  have HCv := Lib.hid hCv
  have HBv := Lib.hid hBv
  clear h hX hM hp hpl hrise hr hCv hBv
  go_enter Try.func52, Try.ntmps52
  go_wp2_with fail
  go_loopw [1, 2, 7, 8] (fun vp vw bz s wr => ∃ (k : Nat) (rest : List (Nat × Nat)) (z : Int) (t : Nat), k ≤ W ∧ rest.length ≤ 100000 ∧ bz = .int .u64 z ∧ s = .int .i64 k ∧ Hid (Bk w C B W vc X M v0 ws k rest vp vw z t wr)) (fun _ _ _ s _ => W - (intOf s).toNat)
  case atStart => exact ⟨0, pl, 0, t, Nat.zero_le _, hpn, rfl, rfl, H0⟩
  case round =>
    clear H0
    obtain ⟨k, rest, z, t', hk, hrl, rfl, rfl, HB⟩ := hrel
    have hlC' : C < wr.heap.size := lt_of_at HB.out.col.1
    have c1 : wr.cell? ⟨C, 1, none⟩ = some (.int .i64 t') := cell_at HB.out.col.1 1
    obtain ⟨j, hj⟩ : ∃ j : Bool, (decide (z = 0) || decide (t' ≤ k)) = j := ⟨_, rfl⟩
    have HJ := Lib.hid hj
    clear hj
    go_upto_region 4 with fail
    go_cut [24] from 13 to 83 (fun s wx => s = .bool j ∧ wr = wx)
    case first =>
      by_cases hz : z = 0
      · have ez : (z == 0) = true := by simp [hz]
        have Hz := Lib.hid hz
        clear hz
        go_wp2_with fail
        go_meet
        exact ⟨by rw [← HJ.out, Hz.out]; simp, rfl⟩
      · have ez : (z == 0) = false := by simp [hz]
        obtain ⟨d, hd⟩ : ∃ d, decide (t' ≤ k) = d := ⟨_, rfl⟩
        have hd2 : decide ((t' : Int) ≤ (k : Int)) = d := by rw [← hd]; simp
        have Hd := Lib.hid hd
        have Hz := Lib.hid hz
        clear hz
        go_wp2_with fail
        go_meet
        exact ⟨by rw [← HJ.out, Hd.out, decide_eq_false Hz.out]; simp, rfl⟩
    case rest =>
      obtain ⟨rfl, rfl⟩ := hcut
      by_cases hbr : j = true ∧ rest = []
      · obtain ⟨rfl, rfl⟩ := hbr
        obtain ⟨ao, cap, hvp, hcap, _⟩ := HB.out.pl
        simp only [List.length_nil] at hvp
        subst hvp
        obtain ⟨hm1, hm2⟩ := HB.out.fin HX.out hk HJ.out
        have HF : Hid (∃ t, Col wr C vc W B (nw X M) t ∧ wr.ownsRow 0 89 2 u2 (ws ++ chg X M W).length ((ws ++ chg X M W).flatMap encW) ∧ Keep (Sb C B v0) w wr) :=
          Lib.hid ⟨t', by rw [← hm1]; exact HB.out.col, by rw [hm2]; exact HB.out.row, Sn.old HB.out.keep⟩
        have HL := Lib.hid HB.out.loc
        clear hm1 hm2 HB HJ c1
        go_wp2_with fail
        go_loopw [] (fun wr => ∃ t, Hid (Col wr C vc W B (nw X M) t ∧ wr.ownsRow 0 89 2 u2 (ws ++ chg X M W).length ((ws ++ chg X M W).flatMap encW) ∧ Keep (Sb C B v0) w wr)) (fun wr => (intOf ((wr.cell? ⟨C, 1, none⟩).getD undef)).toNat)
        case atStart => exact HF.out
        case round =>
          clear HF
          obtain ⟨t2, HF⟩ := hrel
          have lC := lt_of_at HF.out.1.1
          have c0 : wr.cell? ⟨C, 0, none⟩ = some vc := cell_at HF.out.1.1 0
          have c1 : wr.cell? ⟨C, 1, none⟩ = some (.int .i64 t2) := cell_at HF.out.1.1 1
          have f1 := frozen_at HF.out.1.1 1
          rcases t2 with _ | t2
          · go_wp2_with fail
            go_quiet (fail)
            go_wp2_with fail
            go_ret
            exact BackPost.intro HF.out.1 HF.out.2.1 HL.out (HF.out.2.2.drewN _)
          · have htW : t2 + 1 ≤ W := HF.out.1.2.2.1
            have e1 : IntKind.i64.wrap (((t2 + 1 : Nat) : Int) - 1) = (t2 : Int) := by rw [IntKind.wrap_i64]; omega
            rcases HF.out.1.2.1 with ⟨h0, _⟩ | ⟨h0, cap2, cur, hvc, k1, k2, k3, k4⟩
            · omega
            have c2 : wr.cell? ⟨B, t2, none⟩ = some (.int .u64 (nw X M t2)) := (cell_at k2 t2).trans (k4 t2 (by omega))
            have lB := lt_of_at k2
            have ht2 : (t2 : Int) < (W : Int) := by omega
            obtain ⟨t3, ht3⟩ : ∃ t3, t2 + 1 = t3 := ⟨_, rfl⟩
            rw [ht3] at c1 e1
            have ht3p : 0 < t3 := by omega
            have d0 : decide ((0 : Int) < (t3 : Int)) = true := decide_eq_true (by omega)
            have d1 : decide (0 < t3) = true := decide_eq_true (by omega)
            have HT := Lib.hid ht3
            have HM : Hid ((intOf ((wr.cell? ⟨C, 1, none⟩).getD undef)).toNat = t3) := Lib.hid (by rw [c1]; simp [intOf])
            have e1' : (t3 : Int) - 1 = (t2 : Int) := by omega
            rw [hvc] at c0
            clear k1 k2 k3 k4 ht3 hvc
            by_cases hz : nw X M t2 = 0
            · have ez : (((nw X M t2 : Nat) : Int) == 0) = true := by rw [hz]; rfl
              have Hz := Lib.hid hz
              clear hz
              go_wp2_with fail
              go_quiet (fail)
              have HF1 : Hid (Col (wr.drewN nq) C vc W B (nw X M) t3 ∧ (wr.drewN nq).ownsRow 0 89 2 u2 (ws ++ chg X M W).length ((ws ++ chg X M W).flatMap encW) ∧ Keep (Sb C B v0) w (wr.drewN nq)) :=
                Lib.hid (by rw [← HT.out]; exact ⟨HF.out.1, HF.out.2.1, HF.out.2.2.drewN _⟩)
              have c1' : (wr.drewN nq).cell? ⟨C, 1, none⟩ = some (.int .i64 t3) := c1
              have f1' : (wr.drewN nq).frozen? ⟨C, 1, none⟩ = false := f1
              clear HF c0 c1 c2 f1 lC lB
              generalize wr.drewN nq = w2 at *
              go_wp2_with fail
              have HF2 : Hid (Col (w2.setCell ⟨C, 1, none⟩ (.int .i64 t2)) C vc W B (nw X M) t2 ∧ (w2.setCell ⟨C, 1, none⟩ (.int .i64 t2)).ownsRow 0 89 2 u2 (ws ++ chg X M W).length ((ws ++ chg X M W).flatMap encW) ∧ Keep (Sb C B v0) w (w2.setCell ⟨C, 1, none⟩ (.int .i64 t2))) := Lib.hid ⟨
                ⟨set_at HF1.out.1.1 1 _, HF1.out.1.2.1.keep (S := fun k => k = C) ((Keep.refl (fun k => k = C) w2).setCell (p := ⟨C, 1, none⟩) (Or.inl rfl) _) hBC, by omega, fun q hq => by
                  by_cases e : q = t2
                  · rw [e]; exact Hz.out
                  · exact HF1.out.1.2.2.2 q (by have := HT.out; omega)⟩,
                by
                  refine HF1.out.2.1.kept (row := some C) (Keep.grownOne w2 C 1 _) ?_
                  rcases HL.out with h | ⟨g, h, hg⟩
                  · right; rw [h]; exact HCv.out
                  · right; rw [h]; intro e; simp at e; omega,
                HF1.out.2.2.setCell (p := ⟨C, 1, none⟩) (Or.inl (Or.inl rfl)) _⟩
              have M1 : Hid ((intOf (((w2.setCell ⟨C, 1, none⟩ (.int .i64 t2)).cell? ⟨C, 1, none⟩).getD undef)).toNat = t2) := Lib.hid (by rw [cell_at HF2.out.1.1 1]; rfl)
              have M2 : Hid ((intOf ((wr.cell? ⟨C, 1, none⟩).getD undef)).toNat = t3) := HM
              go_roundw
              case rel => exact ⟨t2, HF2⟩
              case measure => rw [M1.out, M2.out]; have := HT.out; omega
            · have ez : (((nw X M t2 : Nat) : Int) == 0) = false := by rw [beq_eq_false_iff_ne]; omega
              clear hz
              go_wp2_with fail
              go_quiet (fail)
              go_wp2_with fail
              go_ret
              exact BackPost.intro HF.out.1 HF.out.2.1 HL.out (HF.out.2.2.drewN _)
      · have HBR := Lib.hid hbr
        clear hbr
        have hlW : t' ≤ W := HB.out.col.2.2.1
        go_upto_if 24 with fail
        go_cut [8] from 13 to 83 (fun s wx => wr = wx ∧ ∃ k' : Nat, s = .int .i64 k' ∧ Jmp X M W k k' rest)
        case first =>
          rcases j with _ | _
          · have HK : Jmp X M W k k rest := ⟨Nat.le_refl _, by
                have := HJ.out
                simp at this
                omega, fun x hx => (HB.out.ge x hx).1, fun q h1 h2 => by omega, rfl⟩
            clear HB HJ HBR c1
            go_wp2_with fail
            go_meet
            exact ⟨rfl, k, rfl, HK⟩
          · rcases rest with _ | ⟨p, rest⟩
            · exact absurd ⟨rfl, rfl⟩ HBR.out
            · have HK : Jmp X M W k p.1 (p :: rest) := HB.out.jump HX.out HJ.out
              obtain ⟨ao, cap, hvp, hcap, hx⟩ := HB.out.pl
              rcases hx with hx | ⟨b, o, rfl, hb, hsb, hcell⟩
              · cases hx
              have cp := (hcell 0 p rfl).1
              simp only [Nat.zero_mul, Nat.add_zero] at cp
              subst hvp
              simp only [List.length_cons] at hrl hcap ⊢
              have e0 : (((rest.length + 1 : Nat) : Int) == 0) = false := by rw [beq_eq_false_iff_ne]; omega
              have e1 : (rest.length + 1 == 0) = false := by simp
              have e2 : ((rest.length : Int) + 1 == 0) = false := by rw [beq_eq_false_iff_ne]; omega
              have t1 : 0 < rest.length + 1 := by omega
              clear HB HJ HBR c1 hcell
              go_wp2_with fail
              go_meet
              exact ⟨rfl, p.1, rfl, HK⟩
        case rest =>
          obtain ⟨rfl, k', rfl, HK⟩ := hcut
          have hk' : k' < W := HK.2.1
          have hkk : k ≤ k' := HK.1
          clear HJ HBR
          obtain ⟨b2, hb2⟩ : ∃ b2 : Bool, (match rest with | [] => false | p :: _ => decide (p.1 = k')) = b2 := ⟨_, rfl⟩
          have HB2 := Lib.hid hb2
          clear hb2
          go_upto_region 8 with fail
          go_cut [42] from 13 to 83 (fun s wx => wr = wx ∧ s = .bool b2)
          case first =>
            rcases rest with _ | ⟨p, rest⟩
            · obtain ⟨ao, cap, hvp, hcap, hx⟩ := HB.out.pl
              simp only [List.length_nil] at hvp
              subst hvp
              have hb2 : false = b2 := HB2.out
              subst hb2
              clear HB2 HB HK c1
              go_wp2_with fail
              go_meet
              exact ⟨rfl, rfl⟩
            · obtain ⟨ao, cap, hvp, hcap, hx⟩ := HB.out.pl
              rcases hx with hx | ⟨b, o, rfl, hb, hsb, hcell⟩
              · cases hx
              have cp := (hcell 0 p rfl).1
              simp only [Nat.zero_mul, Nat.add_zero] at cp
              subst hvp
              simp only [List.length_cons] at hrl hcap ⊢
              have e0 : decide ((0 : Int) < ((rest.length + 1 : Nat) : Int)) = true := decide_eq_true (by omega)
              have e1 : decide (0 < rest.length + 1) = true := decide_eq_true (by omega)
              have e2 : decide ((0 : Int) < (rest.length : Int) + 1) = true := decide_eq_true (by omega)
              have t1 : 0 < rest.length + 1 := by omega
              have e3 : ((p.1 : Int) == (k' : Int)) = b2 := by
                have h : decide (p.1 = k') = b2 := HB2.out
                rw [← h]
                by_cases e : p.1 = k'
                · rw [decide_eq_true e, e]; simp
                · rw [decide_eq_false e, beq_eq_false_iff_ne]; omega
              clear HB HK c1 hcell HB2
              generalize p.1 = pa at *
              go_wp2_with fail
              go_meet
              exact ⟨rfl, rfl⟩
          case rest =>
            obtain ⟨rfl, rfl⟩ := hcut
            go_upto_if 42 with fail
            go_cut [1, 9] from 13 to 83 (fun vp' hh wx => ∃ (rest2 : List (Nat × Nat)) (n : Nat), wx = wr.drewN n ∧ rest2.length ≤ 100000 ∧ hh = .int .u64 ((M k' : Nat) : Int) ∧ Aft w C B v0 W M (k' + 1) rest2 vp' wr)
            case first =>
              have hge : ∀ x ∈ rest, k' ≤ x.1 := HK.2.2.1
              rcases b2 with _ | _
              · have hne : ∀ x ∈ rest, k' + 1 ≤ x.1 := by
                  rcases rest with _ | ⟨p, rest⟩
                  · intro x hx; cases hx
                  · have h1 : decide (p.1 = k') = false := HB2.out
                    have h2 := HB.out.rise
                    rw [List.pairwise_cons] at h2
                    have h3 := hge p (List.mem_cons_self ..)
                    have h4 : p.1 ≠ k' := by simpa using h1
                    intro x hx
                    rcases List.mem_cons.1 hx with rfl | hx
                    · omega
                    · have := h2.1 x hx; omega
                have HA : Aft w C B v0 W M (k' + 1) rest u1 wr := ⟨HB.out.pl, fun x hx => ⟨hne x hx, (HB.out.ge x hx).2⟩, fun q hq => HB.out.mq q (by omega), HB.out.rise⟩
                have HM0 : Hid (M k' = 0) := Lib.hid (by rw [HB.out.mq k' hkk]; exact msk_none (fun x hx => by have := hne x hx; omega))
                clear HB HK hge hne HB2
                go_wp2_with fail
                go_meet
                exact ⟨rest, 0, rfl, hrl, by rw [HM0.out]; rfl, HA⟩
              · rcases rest with _ | ⟨p, rest⟩
                · exact absurd HB2.out (by simp)
                · have h1 : p.1 = k' := by have : decide (p.1 = k') = true := HB2.out; simpa using this
                  have h2 := HB.out.rise
                  rw [List.pairwise_cons] at h2
                  have hmp : M k' = p.2 := by rw [HB.out.mq k' hkk]; exact if_pos h1
                  have HPL := HB.out.pl
                  obtain ⟨ao, cap, hvp, hcap, hx⟩ := HB.out.pl
                  rcases hx with hx | ⟨b, o, rfl, hb, hsb, hcell⟩
                  · cases hx
                  have cp := (hcell 0 p rfl).2
                  simp only [Nat.zero_mul, Nat.add_zero] at cp
                  subst hvp
                  simp only [List.length_cons] at hrl hcap HPL ⊢
                  obtain ⟨v9, hrun, hpl9⟩ := slice_rest HPL (by omega)
                  have HA : Aft w C B v0 W M (k' + 1) rest v9 wr := ⟨hpl9, fun x hx => ⟨by have := h2.1 x hx; omega, (HB.out.ge x (List.mem_cons_of_mem _ hx)).2⟩, fun q hq => by
                    rw [HB.out.mq q (by omega)]
                    exact if_neg (by omega), h2.2⟩
                  have t1 : 0 < rest.length + 1 := by omega
                  have HMP := Lib.hid hmp
                  have HRL : Hid (rest.length ≤ 100000) := Lib.hid (by omega)
                  clear HB HK hge HB2 h1 h2 hmp HPL hcell hpl9 hcap
                  generalize p.2 = pb at *
                  go_wp2_with fail
                  go_quiet (fail)
                  go_wp2_with fail
                  go_meet
                  exact ⟨rest, nq, rfl, HRL.out, by rw [HMP.out], HA⟩
            case rest =>
              obtain ⟨rest2, n2, rfl, hrl2, rfl, HA⟩ := hcut
              obtain ⟨c, hc⟩ : ∃ c, cw X M k' = c := ⟨_, rfl⟩
              have hzc : z = (c.toNat : Int) := by rw [HB.out.bor, ← HK.2.2.2.2, hc]
              have hmidk : mid X M k = mid X M k' := (mid_pass hkk HK.2.2.2.1).symm
              have hchg : chg X M k' = chg X M k := chg_same k' hkk HK.2.2.2.1
              have HC : Hid (Col (wr.drewN n2) C vc W B (mid X M k') t') := Lib.hid (by rw [← hmidk]; exact HB.out.col)
              have HR : Hid ((wr.drewN n2).ownsRow 0 89 2 u2 (ws ++ chg X M k').length ((ws ++ chg X M k').flatMap encW)) := Lib.hid (by rw [hchg]; exact HB.out.row)
              have HL := Lib.hid HB.out.loc
              have HKp : Hid (Keep (Sn w C B v0) w (wr.drewN n2)) := Lib.hid (HB.out.keep.drewN _)
              have HAf : Aft w C B v0 W M (k' + 1) rest2 u1 (wr.drewN n2) := HA
              have hbc : cw X M (k' + 1) = outW (X k') (M k') c := by rw [← hc]; rfl
              have hnw : nw X M k' = newW (X k') (M k') c := by rw [← hc]; rfl
              have HLN : Hid ((ws ++ chg X M k').length ≤ 300000) := Lib.hid (by rw [List.length_append]; have := chg_len X M k'; omega)
              clear HB2 HB HK HA hmidk hchg c1
              generalize hwq : wr.drewN n2 = wq at *
              clear hwq
              have hxl := HX.out k'
              have hml := HM64.out k'
              have hmid : mid X M k' k' = X k' := if_neg (by omega)
              rcases HC.out.2.1 with ⟨h0, _⟩ | ⟨h0, cap2, cur, hvc, k1, k2, k3, k4⟩
              · omega
              have c0 : wq.cell? ⟨C, 0, none⟩ = some vc := cell_at HC.out.1 0
              have c2 : wq.cell? ⟨B, k', none⟩ = some (.int .u64 (X k')) := by rw [cell_at k2 k', k4 k' hk', hmid]
              have lC := lt_of_at HC.out.1
              have lB := lt_of_at k2
              rw [hvc] at c0
              clear k1 k2 k3 k4 hmid
              have eo : bits .andNot .u64 (M k' : Int) (X k' : Int) = ((offW (X k') (M k') : Nat) : Int) := u64_andNot_nat (M k') (X k') hml hxl
              have es := run_subW (X k') (M k') c z hzc
              have eor : bits .or .u64 (X k' : Int) (M k' : Int) = ((X k' ||| M k' : Nat) : Int) := u64_or_nat (X k') (M k') hxl hml
              have ean : bits .and .u64 ((X k' ||| M k' : Nat) : Int) (lessW (X k') (M k') c : Int) = ((nw X M k' : Nat) : Int) := by
                rw [hnw]; exact u64_and_nat _ _ (Nat.or_lt_two_pow hxl hml) (Nat.mod_lt _ (by decide))
              have tk : (k' : Int) < (W : Int) := by omega
              have HBC2 := Lib.hid hbc
              have HVC := Lib.hid hvc
              clear hbc hnw hzc hxl hml hc hvc
              generalize lessW (X k') (M k') c = lw at *
              generalize offW (X k') (M k') = ow at *
              generalize X k' ||| M k' = om at *
              obtain ⟨zo, hzo⟩ : ∃ zo, (outW (X k') (M k') c).toNat = zo := ⟨_, rfl⟩
              rw [hzo] at es
              have HZO : Hid ((zo : Int) = ((cw X M (k' + 1)).toNat : Int)) := Lib.hid (by rw [HBC2.out, hzo])
              clear hzo HBC2
              have hkw : k' + 1 ≤ W := by omega
              by_cases hyx : nw X M k' = X k'
              · have e1 : (((nw X M k' : Nat) : Int) != ((X k' : Nat) : Int)) = false := by rw [hyx]; simp
                have HBn : Hid (Bk w C B W vc X M v0 ws (k' + 1) rest2 u1 u2 zo t' wq) := Lib.hid (by
                  have hs : ∀ q, k' ≤ q → q < k' + 1 → nw X M q = X q := fun q h1 h2 => by rw [show q = k' by omega]; exact hyx
                  refine ⟨?_, HAf.1, ?_, HL.out, HKp.out, HZO.out, HAf.2.1, HAf.2.2.1, HAf.2.2.2⟩
                  · rw [mid_pass (Nat.le_succ k') hs]; exact HC.out
                  · rw [chg_same (k' + 1) (Nat.le_succ k') hs]; exact HR.out)
                clear hyx
                generalize nw X M k' = y at *
                generalize X k' = x at *
                generalize M k' = m at *
                clear HAf
                go_wp2_with fail
                go_roundw
                case rel => exact ⟨k' + 1, rest2, zo, t', hkw, hrl2, rfl, by go_num, HBn⟩
                case measure => simp [intOf] <;> omega
              · have e1 : (((nw X M k' : Nat) : Int) != ((X k' : Nat) : Int)) = true := by rw [bne_iff_ne]; omega
                have HYX : Hid (¬ nw X M k' = X k') := Lib.hid hyx
                have hvC : u2.ownBlock ≠ some C := by
                  rcases HL.out with h | ⟨g, h, hg⟩
                  · rw [h]; exact HCv.out
                  · rw [h]; intro e; simp at e; omega
                have hvB : u2.ownBlock ≠ some B := by
                  rcases HL.out with h | ⟨g, h, hg⟩
                  · rw [h]; exact HBv.out
                  · rw [h]; intro e; simp at e; omega
                have HvC := Lib.hid hvC
                have HvB := Lib.hid hvB
                have hsz : w.heap.size ≤ wq.heap.size := HKp.out.size
                have HEN : Hid (encW (k', X k') = [.int .i64 (k' : Int), .int .u64 (X k' : Int)]) := Lib.hid rfl
                clear hyx hvC hvB
                go_wp2_with (at_builtin; refine wpList_append_own_at _ rfl _ _ 99 rfl 0 89 i0 (.agg #[.int .i64 0, .int .u64 0]) 2 16 Try.underlying99 hi hz0 hz1 hz2 rfl (by decide) _ _ _ rfl (HR.out.alloc _) ⟨wq.heap.size, 0, none⟩ 1 1 (encW (k', X k')) rfl rfl newsK (encW_one _) (by unfold maxLen; have := HLN.out; omega) (by have := HLN.out; omega) (Nat.zero_le _) ?_)
                intro v' w2 hown' hgrow _ hloc
                have hech : chg X M (k' + 1) = chg X M k' ++ [(k', X k')] := by
                  show chg X M k' ++ _ = _
                  rw [if_neg HYX.out]
                have HR2 : Hid (w2.ownsRow 0 89 2 v' (ws ++ chg X M (k' + 1)).length ((ws ++ chg X M (k' + 1)).flatMap encW)) := Lib.hid (by
                  rw [hech]
                  have e1 : (ws ++ (chg X M k' ++ [(k', X k')])).length = ws.length + (chg X M k').length + 1 := by simp [Nat.add_assoc]
                  have e2 : (ws ++ (chg X M k' ++ [(k', X k')])).flatMap encW = List.flatMap encW ws ++ (List.flatMap encW (chg X M k') ++ encW (k', X k')) := by simp [List.flatMap_append]
                  rw [e1, e2]
                  exact hown')
                have hrow : ∀ g, u2.ownBlock = some g → Sn w C B v0 g := fun g hg => by
                  rcases HL.out with h | ⟨g', h, hg'⟩
                  · exact Or.inl (Or.inr (Or.inr (by rw [← h]; exact hg)))
                  · rw [h] at hg; cases hg; exact Or.inr hg'
                have HK2 : Hid (Keep (Sn w C B v0) w w2) := Lib.hid ((HKp.out.alloc _).grown hgrow (fun g hg => Or.inl (hrow g hg)))
                have HC2 : Hid (Col w2 C vc W B (mid X M k') t') := Lib.hid (HC.out.keep (S := fun b => u2.ownBlock = some b) (((Keep.refl _ wq).alloc _).grown hgrow (fun g hg => Or.inl hg)) HvC.out HvB.out)
                have HA2 : Hid (Pl (Sn w C B v0) w2 u1 rest2) := Lib.hid (HAf.1.keep (((Keep.refl _ wq).alloc _).grown hgrow (fun g hg => Or.inl (hrow g hg))))
                have HL2 : Hid (v'.ownBlock = v0.ownBlock ∨ ∃ g, v'.ownBlock = some g ∧ w.heap.size ≤ g) := Lib.hid (by
                  rcases hloc with h | h
                  · rw [h]; exact HL.out
                  · exact Or.inr ⟨_, h, by have := HKp.out.size; simp; omega⟩)
                have HP := Lib.hid (put_any C B W t' k' (nw X M k') vc (mid X M k') w2 HC2.out hk' (by omega) hBC)
                have HAt : Hid ((∀ p ∈ rest2, k' + 1 ≤ p.1 ∧ p.1 < W) ∧ (∀ q, k' + 1 ≤ q → M q = msk rest2 q) ∧ rest2.Pairwise (fun p q => p.1 < q.1)) := Lib.hid HAf.2
                clear hown' hgrow hloc hech hrow HAf HC HR c0 c2 lC lB
                go_wp2_with fail
                refine HP.out.mono ?_
                rintro e w3 ⟨⟨r, rfl⟩, hcol, hkeep⟩
                rw [mid_up] at hcol
                have hk3 : Keep (Sn w C B v0) w2 w3 := hkeep.mono (fun g _ hg => Or.inl (hg.elim Or.inl (fun h => Or.inr (Or.inl h))))
                have HBn : Hid (Bk w C B W vc X M v0 ws (k' + 1) rest2 u1 v' zo (max t' (k' + 1)) w3) := Lib.hid
                  ⟨hcol, HA2.out.keep hk3, own_keep HR2.out hkeep (fun g hg hs => by
                    rcases HL2.out with h | ⟨g', h, hg'⟩
                    · rw [h] at hg
                      rcases hs with hs | hs
                      · exact HCv.out (by rw [hg, hs])
                      · exact HBv.out (by rw [hg, hs])
                    · rw [h] at hg; cases hg
                      rcases hs with hs | hs <;> omega), HL2.out, HK2.out.trans hk3, HZO.out, HAt.out.1, HAt.out.2.1, HAt.out.2.2⟩
                clear hcol hkeep hk3 HP
                go_wp2_with fail
                go_roundw
                case rel => exact ⟨k' + 1, rest2, zo, _, hkw, hrl2, rfl, by go_num, HBn⟩
                case measure => simp [intOf] <;> omega
end Go.Proofs.Ytbfclmhcoelplaa.Lp
