/-
  CONTRACT of the document's Chunks (emendationref05).
-/
import Derived.Test.YtbfclmhcoelplaaWvList
import Derived.Test.YtbfclmhcoelplaaWvMore
import Derived.Test.YtbfclmhcoelplaaCmKeep
import Derived.Outline
namespace Go.Proofs.Ytbfclmhcoelplaa.Wv
open Go.RowKit Go.Proofs.Ytbfclmhcoelplaa.Cm Go.Proofs.Ytbfclmhcoelplaa.Lc
set_option linter.unusedVariables false

/-- A place that is kept, as a number. -/
def kI (k : Nat → Option Nat) (i : Nat) : Int := match k i with | some j => j | none => -1
theorem kI_yes {k : Nat → Option Nat} {i j : Nat} (h : k i = some j) : kI k i = j := by unfold kI; rw [h]
theorem kI_eq {k : Nat → Option Nat} {i j : Nat} (h : k i = some j) : (kI k i == (j : Int)) = true := by rw [kI_yes h, beq_self_eq_true]
theorem kI_ne {k : Nat → Option Nat} {i j : Nat} (h : k i ≠ some j) : (kI k i == (j : Int)) = false := by
  rw [beq_eq_false_iff_ne]
  unfold kI
  cases hk : k i with
  | none => simp only; omega
  | some m => simp only; intro e; apply h; rw [hk]; congr 1; omega
theorem kI_neg {k : Nat → Option Nat} {i : Nat} (h : ¬ (k i).isSome = true) : kI k i = -1 := by
  unfold kI
  cases hk : k i with
  | none => rfl
  | some m => rw [hk] at h; exact absurd rfl h
theorem kI_pos {k : Nat → Option Nat} {i : Nat} (h : (k i).isSome = true) : 0 ≤ kI k i := by
  unfold kI
  cases hk : k i with
  | none => rw [hk] at h; cases h
  | some m => simp only; omega
theorem rn_go {k q : Nat → Option Nat} {L x y z : Nat} (hx : x < L) (h : k x = some y ∧ q x = some z) : rn k q (L - x) x y z = rn k q (L - (x + 1)) (x + 1) (y + 1) (z + 1) + 1 := by
  rw [show L - x = (L - (x + 1)) + 1 by omega]
  exact if_pos h
theorem rn_no {k q : Nat → Option Nat} {L x y z : Nat} (h : x < L → ¬ (k x = some y ∧ q x = some z)) : rn k q (L - x) x y z = 0 := by
  by_cases hx : x < L
  · rw [show L - x = (L - (x + 1)) + 1 by omega]
    exact if_neg (h hx)
  · rw [show L - x = 0 by omega]; rfl
theorem nx_go {k q : Nat → Option Nat} {L x : Nat} (hx : x < L) (h : ¬ ((k x).isSome = true ∧ (q x).isSome = true)) : nx k q (L - x) x = nx k q (L - (x + 1)) (x + 1) := by
  rw [show L - x = (L - (x + 1)) + 1 by omega]
  exact if_neg h
theorem nx_no {k q : Nat → Option Nat} {L x : Nat} (h : x < L → ((k x).isSome = true ∧ (q x).isSome = true)) : nx k q (L - x) x = x := by
  by_cases hx : x < L
  · rw [show L - x = (L - (x + 1)) + 1 by omega]
    exact if_pos (h hx)
  · rw [show L - x = 0 by omega]; rfl

/-- What is left of the chunks, with as much fuel as it wants. -/
def Left (B O T : List Int) (k q : Nat → Option Nat) (all o : List Ch) (x y z : Nat) : Prop :=
  Inv B O T k q x y z ∧ ∃ f, rest B O T x y z ≤ f ∧ all = o ++ ch B O T k q f x y z
/-- A chunk, behind which so much is left. -/
def Nxt (B O T : List Int) (k q : Nat → Option Nat) (all o : List Ch) (x y z : Nat) (c : Ch) : Prop :=
  c.b1 = x ∧ c.o1 = y ∧ c.t1 = z ∧ Left B O T k q all (o ++ [c]) c.b2 c.o2 c.t2 ∧ rest B O T c.b2 c.o2 c.t2 < rest B O T x y z ∧ Lies B O T c
theorem Left.run {B O T : List Int} {k q : Nat → Option Nat} {all o : List Ch} {x y z : Nat} (K : Keeps B O k) (Q : Keeps B T q) (h : Left B O T k q all o x y z) (hr : x < B.length ∨ y < O.length ∨ z < T.length) (h0 : runs B k q x y z ≠ 0) :
    Nxt B O T k q all o x y z ⟨x, x + runs B k q x y z, y, y + runs B k q x y z, z, z + runs B k q x y z, 1⟩ := by
  obtain ⟨I, f, hf, he⟩ := h
  have I2 := I.run K Q h0
  have b1 := I2.bx
  have b2 := I2.by'
  have b3 := I2.bz
  have hlt : rest B O T (x + runs B k q x y z) (y + runs B k q x y z) (z + runs B k q x y z) < rest B O T x y z := by unfold rest; omega
  obtain ⟨f', rfl⟩ : ∃ f', f = f' + 1 := ⟨f - 1, by omega⟩
  refine ⟨rfl, rfl, rfl, ⟨I2, f', by show rest B O T (x + runs B k q x y z) (y + runs B k q x y z) (z + runs B k q x y z) ≤ f'; omega, ?_⟩, hlt, ⟨by simp, b1, by simp, b2, by simp, b3, by simp, by simp⟩⟩
  rw [he, ch, if_pos hr, if_pos h0, List.append_assoc]
  rfl
theorem Left.gap {B O T : List Int} {k q : Nat → Option Nat} {all o : List Ch} {x y z : Nat} (K : Keeps B O k) (Q : Keeps B T q) (h : Left B O T k q all o x y z) (hr : x < B.length ∨ y < O.length ∨ z < T.length) (h0 : runs B k q x y z = 0) :
    Nxt B O T k q all o x y z ⟨x, next B k q x, y, nextO B O k (next B k q x), z, nextO B T q (next B k q x), outc (part B x (next B k q x)) (part O y (nextO B O k (next B k q x))) (part T z (nextO B T q (next B k q x)))⟩ := by
  obtain ⟨I, f, hf, he⟩ := h
  obtain ⟨I2, h1, h2, h3⟩ := I.gap K Q
  have hgo := gap_goes K Q I h0 hr
  have hpos := outc_pos (part B x (next B k q x)) (part O y (nextO B O k (next B k q x))) (part T z (nextO B T q (next B k q x)))
  have he' : ∀ f', f = f' + 1 → ch B O T k q f x y z = _ := fun f' e => by rw [e, ch, if_pos hr, if_neg (by omega)]
  generalize outc (part B x (next B k q x)) (part O y (nextO B O k (next B k q x))) (part T z (nextO B T q (next B k q x))) = oc at *
  generalize nextO B O k (next B k q x) = yy at *
  generalize nextO B T q (next B k q x) = zz at *
  generalize next B k q x = xx at *
  have b1 := I2.bx
  have b2 := I2.by'
  have b3 := I2.bz
  have hlt : rest B O T xx yy zz < rest B O T x y z := by unfold rest; omega
  refine ⟨rfl, rfl, rfl, ⟨I2, f - 1, by show rest B O T xx yy zz ≤ f - 1; omega, ?_⟩, hlt, ⟨h1, b1, h2, b2, h3, b3, by show 1 ≤ oc; omega, hpos.2⟩⟩
  rw [he, he' (f - 1) (by omega), List.append_assoc]
  rfl
theorem Left.done {B O T : List Int} {k q : Nat → Option Nat} {all o : List Ch} {x y z : Nat} (h : Left B O T k q all o x y z) (hr : ¬ (x < B.length ∨ y < O.length ∨ z < T.length)) : all = o := by
  obtain ⟨I, f, hf, he⟩ := h
  rw [he, ch_end _ _ _ _ hr, List.append_nil]
theorem Left.len {B O T : List Int} {k q : Nat → Option Nat} {all o : List Ch} {x y z : Nat} (h : Left B O T k q all o x y z) : o.length ≤ all.length := by
  obtain ⟨I, f, hf, he⟩ := h
  rw [he, List.length_append]; omega
theorem Left.start (B O T : List Int) : Left B O T (kp (pairs B O)) (kp (pairs B T)) (chunks B O T) [] 0 0 0 := ⟨Inv.start, _, Nat.le_refl _, rfl⟩

set_option maxHeartbeats 6400000 in
set_option maxRecDepth 100000 in
theorem rchunks_any (va vb vc : Value) (B O T : List Int) (w : World) (hB : Rz w va B) (hO : Rz w vb O) (hT : Rz w vc T) (lB : B.length ≤ 10000) (lO : O.length ≤ 10000) (lT : T.length ≤ 10000) :
    Calls Try.prog 13 #[va, vb, vc] w fun e w' => ∃ v, e = .returned v ∧ Rk 7 encC w' v (chunks B O T) ∧ Below w.heap.size w w' := by
  have HB := Lib.hid hB
  have HO := Lib.hid hO
  have HT := Lib.hid hT
  obtain ⟨i0, hi, hz0, hz1, hz2⟩ := info_parts infoC
  have K := keeps_pairs B O
  have Q := keeps_pairs B T
  have hcl := chunks_len B O T
  have S0 := Lib.hid (Left.start B O T)
  have HP := Lib.hid (rpairs_any va vb B O w hB hO (by omega) (by omega))
  have HQ := Lib.hid (fun w' h => rpairs_any va vc B T w' (hB.below h) (hT.below h) (by omega) (by omega))
  have lp : (pairs B O).length ≤ 10000 := by rw [pairs_len]; exact Nat.le_trans (lcs_le_left _ _) lB
  have lq : (pairs B T).length ≤ 10000 := by rw [pairs_len]; exact Nat.le_trans (lcs_le_left _ _) lB
  obtain ⟨aoB, cB, rfl⟩ := hB.len
  obtain ⟨aoO, cO, rfl⟩ := hO.len
  obtain ⟨aoT, cT, rfl⟩ := hT.len
  clear hB hO hT
  go_enter Try.func13, Try.ntmps13
  go_wp2_with fail
  refine HP.out.mono ?_
  rintro e w1 ⟨vp, rfl, op, b1⟩
  have RP := Rk.of_own encP_len op
  have B1 := Lib.hid b1
  have HQ1 := Lib.hid (HQ.out _ b1)
  clear HP HQ op b1
  go_wp2_with fail
  refine HQ1.out.mono ?_
  rintro e w2 ⟨vq, rfl, oq, b2⟩
  have B2 := Lib.hid (B1.out.trans (b2.mono B1.out.size))
  have HKp := Lib.hid (fun w' i (h : Below w2.heap.size w2 w') => kept_any vp (pairs B O) i w' ((RP.below b2).below h) (by omega))
  have HKq := Lib.hid (fun w' i (h : Below w2.heap.size w2 w') => kept_any vq (pairs B T) i w' ((Rk.of_own encP_len oq).below h) (by omega))
  replace HKp : Hid (∀ w' i, Below w2.heap.size w2 w' → Calls Try.prog 32 #[vp, .int .i64 (i : Nat)] w' fun e w'' => e = .returned (.int .i64 (kI (kp (pairs B O)) i)) ∧ w' = w'') := HKp
  replace HKq : Hid (∀ w' i, Below w2.heap.size w2 w' → Calls Try.prog 32 #[vq, .int .i64 (i : Nat)] w' fun e w'' => e = .returned (.int .i64 (kI (kp (pairs B T)) i)) ∧ w' = w'') := HKq
  have RB := Lib.hid (fun w' (h : Below w2.heap.size w2 w') => HB.out.below (B2.out.trans (h.mono B2.out.size)))
  have RO := Lib.hid (fun w' (h : Below w2.heap.size w2 w') => HO.out.below (B2.out.trans (h.mono B2.out.size)))
  have RT := Lib.hid (fun w' (h : Below w2.heap.size w2 w') => HT.out.below (B2.out.trans (h.mono B2.out.size)))
  clear RP oq b2 HQ1 lp lq HB HO HT B1
  obtain ⟨all, hall⟩ : ∃ all, chunks B O T = all := ⟨_, rfl⟩
  rw [hall] at hcl S0
  have HAll := Lib.hid hall
  clear hall
  generalize kp (pairs B O) = k at *
  generalize kp (pairs B T) = q at *
  go_wp2_with fail
  go_loopw [9, 10, 11, 12] (fun v s t u wr => ∃ (x y z : Nat) (o : List Ch), s = .int .i64 x ∧ t = .int .i64 y ∧ u = .int .i64 z ∧ x ≤ B.length ∧ y ≤ O.length ∧ z ≤ T.length ∧ wr.ownsRow w2.heap.size 62 7 v o.length (o.flatMap encC) ∧ Below w2.heap.size w2 wr ∧ Hid (Left B O T k q all o x y z)) (fun _ s t u _ => rest B O T (intOf s).toNat (intOf t).toNat (intOf u).toNat)
  case atStart => exact ⟨0, 0, 0, [], rfl, rfl, rfl, Nat.zero_le _, Nat.zero_le _, Nat.zero_le _, World.ownsRow_nil _ _ _ _, Below.refl _ _, S0⟩
  case round =>
    clear S0
    obtain ⟨x, y, z, o, rfl, rfl, rfl, hx, hy, hz, hown, hbe, HL⟩ := hrel
    have Ho := Lib.hid hown
    have Hb := Lib.hid hbe
    have hol : o.length ≤ 30000 := Nat.le_trans HL.out.len (by omega)
    clear hown hbe
    obtain ⟨j, hj⟩ : ∃ j : Bool, decide (x < B.length ∨ y < O.length ∨ z < T.length) = j := ⟨_, rfl⟩
    have HJ := Lib.hid hj
    clear hj
    go_upto_region 4 with fail
    go_cut [37] from 22 to 162 (fun s wx => s = .bool j ∧ wr = wx)
    case first =>
      by_cases h1 : x < B.length
      · have e1 : decide ((x : Int) < (B.length : Int)) = true := decide_eq_true (by omega)
        go_wp2_with fail
        go_meet
        exact ⟨by rw [← HJ.out, decide_eq_true (Or.inl h1)], rfl⟩
      · have e1 : decide ((x : Int) < (B.length : Int)) = false := decide_eq_false (by omega)
        by_cases h2 : y < O.length
        · have e2 : decide ((y : Int) < (O.length : Int)) = true := decide_eq_true (by omega)
          go_wp2_with fail
          go_meet
          exact ⟨by rw [← HJ.out, decide_eq_true (Or.inr (Or.inl h2))], rfl⟩
        · have e2 : decide ((y : Int) < (O.length : Int)) = false := decide_eq_false (by omega)
          obtain ⟨d, hd⟩ : ∃ d : Bool, decide (z < T.length) = d := ⟨_, rfl⟩
          have e3 : decide ((z : Int) < (T.length : Int)) = d := by rw [← hd, decide_eq_decide]; omega
          have HD := Lib.hid hd
          have HN : Hid (decide (x < B.length ∨ y < O.length ∨ z < T.length) = decide (z < T.length)) := Lib.hid (by rw [decide_eq_decide]; omega)
          clear hd
          go_wp2_with fail
          go_meet
          exact ⟨by rw [← HJ.out, HN.out, HD.out], rfl⟩
    case rest =>
      obtain ⟨rfl, rfl⟩ := hcut
      rcases j with _ | _
      · have HE := Lib.hid (HL.out.done (of_decide_eq_false HJ.out))
        have HR := Lib.hid (Rk.of_own encC_len Ho.out)
        have HBE := Lib.hid (B2.out.trans (Hb.out.mono B2.out.size))
        clear HL HJ
        go_wp2_with fail
        go_ret
        rw [HAll.out, HE.out]
        exact ⟨_, rfl, HR.out, HBE.out⟩
      have HR := Lib.hid (of_decide_eq_true HJ.out)
      clear HJ
      go_upto_block 2 with fail
      go_cut [13] from 22 to 162 (fun s wx => wr = wx ∧ s = .int .i64 (runs B k q x y z))
      case first =>
        go_wp2_with fail
        go_loop [13] (fun s => ∃ n : Nat, s = .int .i64 n ∧ x + n ≤ B.length ∧ Hid (runs B k q x y z = rn k q (B.length - (x + n)) (x + n) (y + n) (z + n) + n)) (fun s => B.length - x - (intOf s).toNat)
        case atStart => exact ⟨0, rfl, hx, Lib.hid rfl⟩
        case round =>
          obtain ⟨n, rfl, hn, HN⟩ := hrel
          obtain ⟨xn, hxn⟩ : ∃ xn, x + n = xn := ⟨_, rfl⟩
          obtain ⟨yn, hyn⟩ : ∃ yn, y + n = yn := ⟨_, rfl⟩
          obtain ⟨zn, hzn⟩ : ∃ zn, z + n = zn := ⟨_, rfl⟩
          rw [hxn, hyn, hzn] at HN
          have ex : IntKind.i64.wrap ((x : Int) + (n : Int)) = (xn : Int) := by rw [IntKind.wrap_i64]; omega
          have ey : IntKind.i64.wrap ((y : Int) + (n : Int)) = (yn : Int) := by rw [IntKind.wrap_i64]; omega
          have ez : IntKind.i64.wrap ((z : Int) + (n : Int)) = (zn : Int) := by rw [IntKind.wrap_i64]; omega
          by_cases hlt : xn < B.length
          · have e1 : decide ((xn : Int) < (B.length : Int)) = true := decide_eq_true (by omega)
            by_cases hk : k xn = some yn
            · have e2 := kI_eq hk
              have C1 := HKp.out wr xn Hb.out
              generalize kI k xn = a1 at *
              by_cases hq : q xn = some zn
              · have e3 := kI_eq hq
                have C2 := HKq.out wr xn Hb.out
                generalize kI q xn = a2 at *
                have HN2 : Hid (runs B k q x y z = rn k q (B.length - (x + (n + 1))) (x + (n + 1)) (y + (n + 1)) (z + (n + 1)) + (n + 1)) := Lib.hid (by
                  rw [HN.out, rn_go hlt ⟨hk, hq⟩, show x + (n + 1) = xn + 1 by omega, show y + (n + 1) = yn + 1 by omega, show z + (n + 1) = zn + 1 by omega]; omega)
                have HX := Lib.hid hxn
                clear hk hq HN hyn hzn
                go_wp2_with fail
                refine C1.mono ?_
                rintro e w' ⟨rfl, rfl⟩
                go_wp2_with fail
                refine C2.mono ?_
                rintro e w' ⟨rfl, rfl⟩
                go_wp2_with fail
                go_round
                case rel => exact ⟨n + 1, by go_num, by have := HX.out; omega, HN2⟩
                case measure => simp [intOf] <;> omega
              · have e3 := kI_ne hq
                have C2 := HKq.out wr xn Hb.out
                generalize kI q xn = a2 at *
                have HN2 : Hid (runs B k q x y z = n) := Lib.hid (by rw [HN.out, rn_no (fun _ h => hq h.2), Nat.zero_add])
                clear hk hq HN hxn hyn hzn
                go_wp2_with fail
                refine C1.mono ?_
                rintro e w' ⟨rfl, rfl⟩
                go_wp2_with fail
                refine C2.mono ?_
                rintro e w' ⟨rfl, rfl⟩
                go_wp2_with fail
                go_meet
                exact ⟨rfl, by rw [HN2.out]⟩
            · have e2 := kI_ne hk
              have C1 := HKp.out wr xn Hb.out
              generalize kI k xn = a1 at *
              have HN2 : Hid (runs B k q x y z = n) := Lib.hid (by rw [HN.out, rn_no (fun _ h => hk h.1), Nat.zero_add])
              clear hk HN hxn hyn hzn
              go_wp2_with fail
              refine C1.mono ?_
              rintro e w' ⟨rfl, rfl⟩
              go_wp2_with fail
              go_meet
              exact ⟨rfl, by rw [HN2.out]⟩
          · have e1 : decide ((xn : Int) < (B.length : Int)) = false := decide_eq_false (by omega)
            have HN2 : Hid (runs B k q x y z = n) := Lib.hid (by rw [HN.out, rn_no (fun h => absurd h hlt), Nat.zero_add])
            clear HN hxn hyn hzn
            go_wp2_with fail
            go_meet
            exact ⟨rfl, by rw [HN2.out]⟩
      case rest =>
        obtain ⟨rfl, rfl⟩ := hcut
        have hrun := rn_le k q (B.length - x) x y z
        replace hrun : runs B k q x y z ≤ B.length - x := hrun
        have HG0 := Lib.hid (fun h0 => HL.out.gap K Q HR.out h0)
        have HG1 := Lib.hid (fun h0 => HL.out.run K Q HR.out h0)
        have HNX : Hid (next B k q x = nx k q (B.length - x) x ∧ next B k q x ≤ B.length ∧ (next B k q x < B.length → k (next B k q x) = some (nextO B O k (next B k q x)) ∧ q (next B k q x) = some (nextO B T q (next B k q x))) ∧ (¬ next B k q x < B.length → nextO B O k (next B k q x) = O.length ∧ nextO B T q (next B k q x) = T.length)) := Lib.hid ⟨rfl, (next_le hx).2, fun h => next_some h hx, fun h => by unfold nextO; rw [if_neg h, if_neg h]; exact ⟨rfl, rfl⟩⟩
        clear HL HR
        generalize runs B k q x y z = n at *
        generalize nextO B O k (next B k q x) = yy at *
        generalize nextO B T q (next B k q x) = zz at *
        generalize next B k q x = xx at *
        obtain ⟨xn, hxn⟩ : ∃ xn, x + n = xn := ⟨_, rfl⟩
        obtain ⟨yn, hyn⟩ : ∃ yn, y + n = yn := ⟨_, rfl⟩
        obtain ⟨zn, hzn⟩ : ∃ zn, z + n = zn := ⟨_, rfl⟩
        have ex : IntKind.i64.wrap ((x : Int) + (n : Int)) = (xn : Int) := by rw [IntKind.wrap_i64]; omega
        have ey : IntKind.i64.wrap ((y : Int) + (n : Int)) = (yn : Int) := by rw [IntKind.wrap_i64]; omega
        have ez : IntKind.i64.wrap ((z : Int) + (n : Int)) = (zn : Int) := by rw [IntKind.wrap_i64]; omega
        rw [hxn, hyn, hzn] at HG1
        clear hxn hyn hzn
        go_upto_if 85 with fail
        go_cut [15] from 22 to 162 (fun s wx => ∃ c : Ch, Hid (Nxt B O T k q all o x y z c) ∧ Hid (wx.heap[wr.heap.size]? = some (.cells (encC c).toArray 62 (0, 0))) ∧ Hid (Keep (fun _ => False) wr wx))
        case first =>
          by_cases h0 : n = 0
          · subst h0
            go_upto_block 4 with fail
            go_cut [15] from 22 to 162 (fun s wx => s = .int .i64 (xx : Nat) ∧ wx = wr.alloc (.cells #[.int .i64 (x : Int), .int .i64 (xn : Int), .int .i64 (y : Int), .int .i64 (yn : Int), .int .i64 (z : Int), .int .i64 (zn : Int), .int .i64 1] 62))
            case first =>
              have HBA := Lib.hid (Hb.out.alloc Hb.out.size (.cells #[.int .i64 (x : Int), .int .i64 (xn : Int), .int .i64 (y : Int), .int .i64 (yn : Int), .int .i64 (z : Int), .int .i64 (zn : Int), .int .i64 1] 62))
              have H0 := Lib.hid HNX.out.1
              clear HNX
              generalize wr.alloc (.cells #[.int .i64 (x : Int), .int .i64 (xn : Int), .int .i64 (y : Int), .int .i64 (yn : Int), .int .i64 (z : Int), .int .i64 (zn : Int), .int .i64 1] 62) = w3 at *
              go_wp2_with fail
              go_loop [15] (fun s => ∃ i : Nat, s = .int .i64 i ∧ i ≤ B.length ∧ Hid (xx = nx k q (B.length - i) i)) (fun s => B.length - (intOf s).toNat)
              case atStart => exact ⟨x, rfl, hx, H0⟩
              case round =>
                clear H0
                obtain ⟨i, rfl, hi, HI⟩ := hrel
                by_cases hlt : i < B.length
                · have e1 : decide ((i : Int) < (B.length : Int)) = true := decide_eq_true (by omega)
                  have C1 := HKp.out w3 i HBA.out
                  by_cases h1 : (k i).isSome = true
                  · have e2 : decide (kI k i < 0) = false := decide_eq_false (by have := kI_pos h1; omega)
                    have C2 := HKq.out w3 i HBA.out
                    generalize kI k i = a1 at *
                    by_cases h2 : (q i).isSome = true
                    · have e3 : decide (kI q i < 0) = false := decide_eq_false (by have := kI_pos h2; omega)
                      generalize kI q i = a2 at *
                      have HX : Hid (xx = i) := Lib.hid (by rw [HI.out, nx_no (fun _ => ⟨h1, h2⟩)])
                      clear HI h1 h2
                      go_wp2_with fail
                      refine C1.mono ?_
                      rintro e w' ⟨rfl, rfl⟩
                      go_wp2_with fail
                      refine C2.mono ?_
                      rintro e w' ⟨rfl, rfl⟩
                      go_wp2_with fail
                      go_meet
                      exact ⟨by rw [HX.out], rfl⟩
                    · rw [kI_neg h2] at C2
                      have HX : Hid (xx = nx k q (B.length - (i + 1)) (i + 1)) := Lib.hid (by rw [HI.out, nx_go hlt (fun h => h2 h.2)])
                      clear HI h1 h2
                      go_wp2_with fail
                      refine C1.mono ?_
                      rintro e w' ⟨rfl, rfl⟩
                      go_wp2_with fail
                      refine C2.mono ?_
                      rintro e w' ⟨rfl, rfl⟩
                      go_wp2_with fail
                      go_round
                      case rel => exact ⟨i + 1, by go_num, by omega, HX⟩
                      case measure => simp [intOf] <;> omega
                  · rw [kI_neg h1] at C1
                    have HX : Hid (xx = nx k q (B.length - (i + 1)) (i + 1)) := Lib.hid (by rw [HI.out, nx_go hlt (fun h => h1 h.1)])
                    clear HI h1
                    go_wp2_with fail
                    refine C1.mono ?_
                    rintro e w' ⟨rfl, rfl⟩
                    go_wp2_with fail
                    go_round
                    case rel => exact ⟨i + 1, by go_num, by omega, HX⟩
                    case measure => simp [intOf] <;> omega
                · have e1 : decide ((i : Int) < (B.length : Int)) = false := decide_eq_false (by omega)
                  have HX : Hid (xx = i) := Lib.hid (by rw [HI.out, nx_no (fun h => absurd h hlt)])
                  clear HI
                  go_wp2_with fail
                  go_meet
                  exact ⟨by rw [HX.out], rfl⟩
            case rest =>
              obtain ⟨rfl, rfl⟩ := hcut
              go_upto_if 108 with fail
              go_cut [] from 22 to 162 (fun wx => Hid (wx.heap[wr.heap.size]? = some (.cells #[.int .i64 (x : Int), .int .i64 (xx : Int), .int .i64 (y : Int), .int .i64 (yy : Int), .int .i64 (z : Int), .int .i64 (zz : Int), .int .i64 0] 62 (0, 0))) ∧ Hid (Keep (fun _ => False) wr wx))
              case first =>
                have hxl := HNX.out.2.1
                have hyes := HNX.out.2.2.1
                have hno := HNX.out.2.2.2
                have HBA := Lib.hid (Hb.out.alloc Hb.out.size (.cells #[.int .i64 (x : Int), .int .i64 (xn : Int), .int .i64 (y : Int), .int .i64 (yn : Int), .int .i64 (z : Int), .int .i64 (zn : Int), .int .i64 1] 62))
                by_cases hlt : xx < B.length
                · obtain ⟨k1, k2⟩ := hyes hlt
                  have C1 := HKp.out _ xx HBA.out
                  have C2 := HKq.out _ xx HBA.out
                  rw [kI_yes k1] at C1
                  rw [kI_yes k2] at C2
                  have e1 : decide ((xx : Int) < (B.length : Int)) = true := decide_eq_true (by omega)
                  clear hyes hno k1 k2 HNX HG0 HG1
                  go_wp2_with fail
                  refine C1.mono ?_
                  rintro e w' ⟨rfl, rfl⟩
                  go_wp2_with fail
                  refine C2.mono ?_
                  rintro e w' ⟨rfl, rfl⟩
                  go_wp2_with fail
                  go_meet
                  exact ⟨Lib.hid (alloc_new _ _), Lib.hid ((Keep.refl _ _).alloc _)⟩
                · obtain ⟨rfl, rfl⟩ := hno hlt
                  obtain rfl : xx = B.length := by omega
                  have e1 : decide ((B.length : Int) < (B.length : Int)) = false := decide_eq_false (by omega)
                  clear hlt hxl hyes hno HNX HG0 HG1
                  go_wp2_with fail
                  go_meet
                  exact ⟨Lib.hid (alloc_new _ _), Lib.hid ((Keep.refl _ _).alloc _)⟩
              case rest =>
                obtain ⟨HA, HK⟩ := hcut
                have HN := Lib.hid (HG0.out rfl)
                have HB3 := Lib.hid (Hb.out.trans (HK.out.below (fun _ h => h.elim) Hb.out.size))
                have lC := lt_of_at HA.out
                have HS : Hid (∀ w', Keep (fun _ => False) wc w' → w'.cell? ⟨wr.heap.size, 0, none⟩ = some (.int .i64 (x : Int)) ∧ w'.cell? ⟨wr.heap.size, 1, none⟩ = some (.int .i64 (xx : Int)) ∧ w'.cell? ⟨wr.heap.size, 2, none⟩ = some (.int .i64 (y : Int)) ∧ w'.cell? ⟨wr.heap.size, 3, none⟩ = some (.int .i64 (yy : Int)) ∧ w'.cell? ⟨wr.heap.size, 4, none⟩ = some (.int .i64 (z : Int)) ∧ w'.cell? ⟨wr.heap.size, 5, none⟩ = some (.int .i64 (zz : Int))) := Lib.hid (fun w' h => by
                  have h2 := h.at HA.out (fun e => e)
                  exact ⟨cell_at h2 0, cell_at h2 1, cell_at h2 2, cell_at h2 3, cell_at h2 4, cell_at h2 5⟩)
                have HBl : Hid (∀ w', Keep (fun _ => False) wc w' → Below w2.heap.size w2 w') := Lib.hid (fun w' h => HB3.out.trans (h.below (fun _ e => e.elim) HB3.out.size))
                have P1 := Lib.hid (fun w' (h : Keep (fun _ => False) wc w') => part_any _ B x xx w' (RB.out w' (HBl.out w' h)) HN.out.2.2.2.2.2.b HN.out.2.2.2.2.2.b' (by omega))
                have P2 := Lib.hid (fun w' (h : Keep (fun _ => False) wc w') => part_any _ O y yy w' (RO.out w' (HBl.out w' h)) HN.out.2.2.2.2.2.o HN.out.2.2.2.2.2.o' (by omega))
                have P3 := Lib.hid (fun w' (h : Keep (fun _ => False) wc w') => part_any _ T z zz w' (RT.out w' (HBl.out w' h)) HN.out.2.2.2.2.2.t HN.out.2.2.2.2.2.t' (by omega))
                have q1 : (part B x xx).length ≤ 1000000 := by
                  have h9 : xx ≤ B.length := HN.out.2.2.2.2.2.b'
                  rw [part_len B h9]; omega
                have q2 : (part O y yy).length ≤ 1000000 := by
                  have h9 : yy ≤ O.length := HN.out.2.2.2.2.2.o'
                  rw [part_len O h9]; omega
                have q3 : (part T z zz).length ≤ 1000000 := by
                  have h9 : zz ≤ T.length := HN.out.2.2.2.2.2.t'
                  rw [part_len T h9]; omega
                have P4 := Lib.hid (fun w' v1 v2 v3 h1 h2 h3 => outcome_any v1 v2 v3 (part B x xx) (part O y yy) (part T z zz) w' h1 h2 h3 q1 q2 q3)
                clear q1 q2 q3 HNX HG0 HG1
                generalize outc (part B x xx) (part O y yy) (part T z zz) = oc at *
                generalize hC : wr.heap.size = C at *
                have HCe := Lib.hid hC
                clear hC
                go_upto_region 16 with fail
                go_region_held3 (fun w' => w'.cell? ⟨C, 0, none⟩ = some (.int .i64 (x : Int)) ∧ w'.cell? ⟨C, 1, none⟩ = some (.int .i64 (xx : Int)) ∧ w'.cell? ⟨C, 2, none⟩ = some (.int .i64 (y : Int)) ∧ w'.cell? ⟨C, 3, none⟩ = some (.int .i64 (yy : Int)) ∧ w'.cell? ⟨C, 4, none⟩ = some (.int .i64 (z : Int)) ∧ w'.cell? ⟨C, 5, none⟩ = some (.int .i64 (zz : Int)))
                  (first
                    | (exact HS.out _ (Keep.refl _ _))
                    | (exact HS.out _ (Keep.refl _ _).drew)
                    | (exact HS.out _ HK4.out)
                    | (exact HS.out _ HK4.out.drew)
                    | (exact HS.out _ HK5.out)
                    | (exact HS.out _ HK5.out.drew)
                    | (exact HS.out _ HK6.out)
                    | (exact HS.out _ HK6.out.drew)
                    | (exact HS.out _ HK7.out)
                    | (exact HS7.out))
                  (first
                    | (go_at_call 34
                       refine calls_at (args := #[.slice aoB B.length cB, .agg #[.int .i64 (x : Int), .int .i64 (xx : Int)]]) rfl (P1.out _ (by first | exact (Keep.refl _ _) | exact (Keep.refl _ _).drew | exact (Keep.refl _ _).drewN _)) ?_
                       rintro e w4 ⟨v4, rfl, r4, b4⟩
                       have HK4 := Lib.hid (Keep.trans (a := wc) (S := fun _ => False) (by first | exact (Keep.refl _ _) | exact (Keep.refl _ _).drew | exact (Keep.refl _ _).drewN _) (Keep.of_below b4))
                       have R4 := Lib.hid r4
                       clear r4 b4)
                    | (go_at_call 34
                       refine calls_at (args := #[.slice aoO O.length cO, .agg #[.int .i64 (y : Int), .int .i64 (yy : Int)]]) rfl (P2.out _ (by first | exact HK4.out | exact HK4.out.drew | exact HK4.out.drewN _)) ?_
                       rintro e w5 ⟨v5, rfl, r5, b5⟩
                       have HK45 := Lib.hid (Keep.trans (a := w4) (S := fun _ => False) (by first | exact (Keep.refl _ _) | exact (Keep.refl _ _).drew | exact (Keep.refl _ _).drewN _) (Keep.of_below b5))
                       have HK5 := Lib.hid (HK4.out.trans HK45.out)
                       have R5 := Lib.hid r5
                       clear r5 b5)
                    | (go_at_call 34
                       refine calls_at (args := #[.slice aoT T.length cT, .agg #[.int .i64 (z : Int), .int .i64 (zz : Int)]]) rfl (P3.out _ (by first | exact HK5.out | exact HK5.out.drew | exact HK5.out.drewN _)) ?_
                       rintro e w6 ⟨v6, rfl, r6, b6⟩
                       have HK56 := Lib.hid (Keep.trans (a := w5) (S := fun _ => False) (by first | exact (Keep.refl _ _) | exact (Keep.refl _ _).drew | exact (Keep.refl _ _).drewN _) (Keep.of_below b6))
                       have HK6 := Lib.hid (HK5.out.trans HK56.out)
                       have R6 := Lib.hid r6
                       clear r6 b6)
                    | (go_at_call 33
                       refine calls_at (args := #[v4, v5, v6]) rfl (P4.out _ v4 v5 v6 (by first | exact R4.out.below ((HK45.out.trans HK56.out).below (fun _ e => e.elim) (Nat.le_refl _)) | exact R4.out.below ((HK45.out.trans HK56.out).drew.below (fun _ e => e.elim) (Nat.le_refl _))) (by first | exact R5.out.below (HK56.out.below (fun _ e => e.elim) (Nat.le_refl _)) | exact R5.out.below (HK56.out.drew.below (fun _ e => e.elim) (Nat.le_refl _))) (by first | exact R6.out | exact R6.out.below ((Keep.refl (fun _ => False) _).drew.below (fun _ e => e.elim) (Nat.le_refl _)))) ?_
                       rintro e w7 ⟨rfl, n7, hw7⟩
                       have hk7 : Keep (fun _ => False) wc w7 := by rw [hw7]; first | exact HK6.out.drewN _ | exact HK6.out.drew.drewN _
                       have ha7 := hk7.at HA.out (fun e => e)
                       have f7 : w7.frozen? ⟨C, 6, none⟩ = false := frozen_at ha7 6
                       have c7 : w7.cell? ⟨C, 6, none⟩ = some (.int .i64 0) := cell_at ha7 6
                       have HK7 := Lib.hid hk7
                       have hs7 := set_at ha7 6 (.int .i64 (oc : Int))
                       have HS7 : Hid (_ ∧ _ ∧ _ ∧ _ ∧ _ ∧ _) := Lib.hid ⟨cell_at hs7 0, cell_at hs7 1, cell_at hs7 2, cell_at hs7 3, cell_at hs7 4, cell_at hs7 5⟩
                       have HA7 := Lib.hid hs7
                       clear hk7 ha7 hs7 hw7))
                go_wp2_with fail
                go_meet
                exact ⟨⟨x, xx, y, yy, z, zz, oc⟩, HN, Lib.hid (by first | exact HA7.out | (rw [HCe.out]; exact HA7.out)), Lib.hid ((HK.out.trans HK7.out).setCell (Or.inr (by first | exact Nat.le_of_eq HCe.out | exact Nat.le_refl _)) _)⟩
          · have e0 : ((n : Int) == 0) = false := by rw [beq_eq_false_iff_ne]; omega
            have H1 := Lib.hid (HG1.out h0)
            clear HG0 HG1 HNX
            go_wp2_with fail
            go_meet
            exact ⟨_, H1, Lib.hid (alloc_new _ _), Lib.hid ((Keep.refl _ _).alloc _)⟩
        case rest =>
          obtain ⟨c, HC, HA, HK⟩ := hcut
          clear HG0 HG1 HNX
          have c0 : wc.cell? ⟨wr.heap.size, 0, none⟩ = some (.int .i64 (c.b1 : Int)) := cell_at HA.out 0
          have c1 : wc.cell? ⟨wr.heap.size, 1, none⟩ = some (.int .i64 (c.b2 : Int)) := cell_at HA.out 1
          have c2 : wc.cell? ⟨wr.heap.size, 2, none⟩ = some (.int .i64 (c.o1 : Int)) := cell_at HA.out 2
          have c3 : wc.cell? ⟨wr.heap.size, 3, none⟩ = some (.int .i64 (c.o2 : Int)) := cell_at HA.out 3
          have c4 : wc.cell? ⟨wr.heap.size, 4, none⟩ = some (.int .i64 (c.t1 : Int)) := cell_at HA.out 4
          have c5 : wc.cell? ⟨wr.heap.size, 5, none⟩ = some (.int .i64 (c.t2 : Int)) := cell_at HA.out 5
          have c6 : wc.cell? ⟨wr.heap.size, 6, none⟩ = some (.int .i64 (c.out : Int)) := cell_at HA.out 6
          have hw2 : w2.heap.size ≤ wc.heap.size := Nat.le_trans Hb.out.size HK.out.size
          have Ho2 := Lib.hid (own_keep Ho.out HK.out (fun _ _ h => h))
          have Hb2 := Lib.hid (Hb.out.trans (HK.out.below (fun _ h => h.elim) Hb.out.size))
          have hlt9 := Ho.out.lt
          have Hlt9 := Lib.hid hlt9
          clear hlt9
          generalize wr.heap.size = C at *
          go_wp2_with (at_builtin; refine wpList_append_own _ rfl _ _ 27 rfl w2.heap.size 62 i0 (.agg #[.int .i64 0, .int .i64 0, .int .i64 0, .int .i64 0, .int .i64 0, .int .i64 0, .int .i64 0]) 7 56 Try.underlying27 hi hz0 hz1 hz2 rfl (by decide) _ _ _ rfl (Ho2.out.alloc _) ⟨wc.heap.size, 0, none⟩ 1 1 (encC c) rfl rfl newsK (encC_one _) (by unfold maxLen; omega) (by omega) (by simp; omega) ?_)
          intro v' w4 hown' hgrow _
          have R := own_pushK Ho2.out Hb2.out hw2 hown' hgrow
          have HA4 : Hid (w4.heap[C]? = some (.cells (encC c).toArray 62 (0, 0))) := Lib.hid (by
            have h1 := alloc_at HA.out (.cells (encC c).toArray 62)
            exact (hgrow.block C (lt_of_at h1) (fun e => by have := (Hlt9.out C e.symm).2; omega)).trans h1)
          have R1 := Lib.hid R.1
          have R2 := Lib.hid R.2
          have d1 : w4.cell? ⟨C, 1, none⟩ = some (.int .i64 (c.b2 : Int)) := cell_at HA4.out 1
          have d3 : w4.cell? ⟨C, 3, none⟩ = some (.int .i64 (c.o2 : Int)) := cell_at HA4.out 3
          have d5 : w4.cell? ⟨C, 5, none⟩ = some (.int .i64 (c.t2 : Int)) := cell_at HA4.out 5
          clear R hown' hgrow c0 c1 c2 c3 c4 c5 c6
          go_wp2_with fail
          go_quiet (fail)
          go_wp2_with fail
          go_roundw
          case rel => exact ⟨c.b2, c.o2, c.t2, o ++ [c], rfl, rfl, rfl, HC.out.2.2.2.2.2.b', HC.out.2.2.2.2.2.o', HC.out.2.2.2.2.2.t', own_drewN R1.out _, below_drewN R2.out _, Lib.hid HC.out.2.2.2.1⟩
          case measure => simpa [intOf] using HC.out.2.2.2.2.1
end Go.Proofs.Ytbfclmhcoelplaa.Wv
