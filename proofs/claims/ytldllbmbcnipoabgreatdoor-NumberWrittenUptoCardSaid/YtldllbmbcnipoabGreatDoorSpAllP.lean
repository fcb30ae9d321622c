import Derived.Test.YtldllbmbcnipoabGreatDoorPkWT
import Derived.Deep.Cut
import Derived.Deep.CutRange
import Derived.Deep.CutBlock
namespace Go.Proofs.YtldllbmbcnipoabGreatDoor.Sp
open Go.RowKit
open Go.Proofs.YtldllbmbcnipoabGreatDoor.Tk (S S_of S_list S_size S_toList S_app ret_int eq8 ne8 at_data len_data)
open Go.Proofs.YtldllbmbcnipoabGreatDoor.Cm (calls_at alloc_new alloc_at cell_at lt_of_at)
set_option linter.unusedVariables false
def clB (q : Int) : Bool := decide (q = 1) || decide (q = 2)
theorem clings_any (q : Int) (w : World) :
    Calls Tryz.prog 130 #[.int .i64 q] w fun e w' => e = .returned (.bool (clB q)) ∧ w' = w := by
  have HR : Hid (clB q = ((q == 1) || (q == 2))) := Lib.hid (by rw [beq_dec, beq_dec]; rfl)
  obtain ⟨X, hX⟩ : ∃ X, clB q = X := ⟨_, rfl⟩
  rw [hX] at HR
  rw [hX]
  clear hX
  cases h1 : (q == 1) with
  | true =>
    rw [h1] at HR
    go_enter Tryz.func130, Tryz.ntmps130
    go_wp2_with fail
    go_ret
    exact ⟨ret_bool (by rw [HR.out]; rfl), rfl⟩
  | false =>
    rw [h1] at HR
    go_enter Tryz.func130, Tryz.ntmps130
    go_wp2_with fail
    go_ret
    exact ⟨ret_bool (by rw [HR.out]; rfl), rfl⟩
def badAt (l : List Sp) (j : Nat) (z : Int) : Bool := decide (0 < j) && (clB z && decide (pkAt l j = z))
theorem bad_yes {l : List Sp} {j : Nat} (e k : Bool) (x : Sp) (R : Bool) (h : badAt l j x.kind = true) : (okOne e k x && !(decide (x.kind = pkAt l j) && decide (x.kind ≤ 2)) && R) = false := by
  unfold badAt clB at h
  rw [Bool.and_eq_true, Bool.and_eq_true, Bool.or_eq_true, decide_eq_true_iff, decide_eq_true_iff, decide_eq_true_iff, decide_eq_true_iff] at h
  rw [decide_eq_true (show x.kind = pkAt l j from h.2.2.symm), decide_eq_true (show x.kind ≤ 2 by omega)]
  simp
theorem bad_no {l : List Sp} {j : Nat} (e k : Bool) (x : Sp) (R : Bool) (h : badAt l j x.kind = false) : (okOne e k x && !(decide (x.kind = pkAt l j) && decide (x.kind ≤ 2)) && R) = (okOne e k x && R) := by
  cases ho : okOne e k x with
  | false => rfl
  | true =>
    have hk := okOne_kind ho
    have : (decide (x.kind = pkAt l j) && decide (x.kind ≤ 2)) = false := by
      cases hd : (decide (x.kind = pkAt l j) && decide (x.kind ≤ 2)) with
      | false => rfl
      | true =>
        rw [Bool.and_eq_true, decide_eq_true_iff, decide_eq_true_iff] at hd
        by_cases hj : 0 < j
        · unfold badAt clB at h
          have hc : (decide (x.kind = 1) || decide (x.kind = 2)) = true := by
            rcases (show x.kind = 1 ∨ x.kind = 2 by omega) with h1 | h1 <;> rw [h1] <;> rfl
          rw [decide_eq_true hj, hc, decide_eq_true hd.1.symm] at h
          cases h
        · obtain rfl : j = 0 := by omega
          have h0 : pkAt l 0 = 0 := rfl
          omega
    rw [this]
    simp
set_option maxHeartbeats 6400000 in
set_option maxRecDepth 100000 in
theorem allP_any (m : Nat) : ∀ (l : List Sp) (e k : Bool) (v : Value) (w : World), totAll l ≤ m → fitAll 140737488355328 l → Tr w v l →
    Calls Tryz.prog 110 #[v, .agg #[.bool e, .bool k]] w (OkAns w (okAll e k 0 l)) := by
  induction m using Nat.strongRecOn with
  | ind m ih =>
    intro l e k v w hm hf ht
    obtain ⟨ao, ca, rfl⟩ := ht.len
    have HT := Lib.hid ht
    have hlen := ht.short
    have HO : Hid (∀ j (hj : j < l.length) (ak : Option Addr) (ck : Nat) (w' : World), Tr w' (.slice ak l[j].kids.length ck) l[j].kids →
        Calls Tryz.prog 131 #[.agg #[.int .i64 l[j].kind, .string (S l[j].s), .slice ak l[j].kids.length ck], .agg #[.bool e, .bool k]] w' (OkAns w' (okOne e k l[j]))) := Lib.hid (fun j hj ak ck w' ht' => by
      have hfx := fitAll_at hf l[j] (List.getElem_mem hj)
      refine oneP_of l[j] e k ak ck w' (fitOne_s hfx) (fun e k w'' hb => ?_)
      exact ih (totAll l[j].kids) (Nat.lt_of_lt_of_le (totAll_kids (List.getElem_mem hj)) hm) l[j].kids e k _ w'' (Nat.le_refl _) (fitOne_kids hfx) (ht'.below hb))
    have HCl := Lib.hid (fun q w => clings_any q w)
    have H0 : Hid (okAll e k 0 l = okAll e k (pkAt l 0) (l.drop 0)) := Lib.hid (by rw [List.drop_zero]; rfl)
    obtain ⟨X, hX⟩ : ∃ X, okAll e k 0 l = X := ⟨_, rfl⟩
    rw [hX] at H0
    rw [hX]
    have HB0 := Lib.hid ((Below.refl w.heap.size w).alloc (Nat.le_refl _) (.cells #[.bool e, .bool k] 154))
    have HP0 := Lib.hid (alloc_new w (.cells #[.bool e, .bool k] 154))
    clear ih ht hm hX hf
    go_enter Tryz.func110, Tryz.ntmps110
    go_wp2_with fail
    go_loopw [9] (fun i wr => ∃ j : Nat, j ≤ l.length ∧ i = .int .i64 j ∧ Hid (Below w.heap.size w wr) ∧ Hid (wr.heap[w.heap.size]? = some (.cells #[.bool e, .bool k] 154 (0, 0))) ∧ Hid (X = okAll e k (pkAt l j) (l.drop j))) (fun i _ => l.length - (intOf i).toNat)
    case atStart => exact ⟨0, Nat.zero_le _, rfl, HB0, HP0, H0⟩
    case round =>
      clear H0 HB0 HP0
      obtain ⟨j, hj, rfl, Hb, HP, HN⟩ := hrel
      by_cases hlt : j < l.length
      · have hnx := HN.out
        rw [drop_cons l j hlt, okAll_cons] at hnx
        have hi1 : (j : Int) < (l.length : Int) := by omega
        have HTr := Lib.hid (HT.out.below Hb.out)
        obtain ⟨b, o, ak, ck, rfl, hbl, hC⟩ := HTr.out.at j hlt
        have HY : Hid (badAt l j l[j].kind = true → X = false) := Lib.hid (fun h => by rw [hnx, bad_yes e k _ _ h])
        have HZ : Hid (badAt l j l[j].kind = false → X = (okOne e k l[j] && okAll e k (pkAt l (j + 1)) (l.drop (j + 1)))) := Lib.hid (fun h => by rw [hnx, bad_no e k _ _ h, pkAt_next l j hlt])
        obtain ⟨bad, hbad⟩ : ∃ bad, badAt l j l[j].kind = bad := ⟨_, rfl⟩
        rw [hbad] at HY HZ
        have HBad : Hid ((decide (0 < j) && (clB l[j].kind && decide (pkAt l j = l[j].kind))) = bad) := Lib.hid (by rw [← hbad]; rfl)
        have HC := Lib.hid (fun w' (h : Below wr.heap.size wr w') => HO.out j hlt ak ck w' (hC.tr.below h))
        have HPk : Hid (∀ j', j = j' + 1 → wr.cell? ⟨b, o + j' * 3, none⟩ = some (.int .i64 (pkAt l j))) := Lib.hid (fun j' hj' => by
          subst hj'
          obtain ⟨b', o', ak', ck', hao, _, hC'⟩ := HTr.out.at j' (by omega)
          simp only [Option.some.injEq, Addr.mk.injEq, and_true] at hao
          obtain ⟨rfl, rfl⟩ := hao
          rw [pkAt_next l j' (by omega)]
          exact hC'.kind)
        have c0 := hC.kind
        have c1 := hC.s
        have c2 := hC.kids
        clear hnx HN hbad hC HTr
        generalize okOne e k l[j] = oy at *
        generalize l[j].kind = z at *
        generalize S l[j].s = ss at *
        generalize l[j].kids.length = kn at *
        generalize pkAt l j = pk at *
        have HA := Lib.hid (alloc_new wr (.cells #[.int .i64 z, .string ss, .slice ak kn ck] 81))
        have HB1 := Lib.hid ((Below.refl wr.heap.size wr).alloc (Nat.le_refl _) (.cells #[.int .i64 z, .string ss, .slice ak kn ck] 81))
        go_upto_region 4 with fail
        generalize wr.alloc (.cells #[.int .i64 z, .string ss, .slice ak kn ck] 81) = w1 at *
        have a0 : w1.cell? ⟨wr.heap.size, 0, none⟩ = some (.int .i64 z) := cell_at HA.out 0
        have a1 : w1.cell? ⟨wr.heap.size, 1, none⟩ = some (.string ss) := cell_at HA.out 1
        have a2 : w1.cell? ⟨wr.heap.size, 2, none⟩ = some (.slice ak kn ck) := cell_at HA.out 2
        have HPw : Hid (w1.heap[w.heap.size]? = some (.cells #[.bool e, .bool k] 154 (0, 0))) := Lib.hid ((HB1.out.block _ (lt_of_at HP.out)).trans HP.out)
        have Hbw := Lib.hid (Hb.out.trans (HB1.out.mono Hb.out.size))
        have HPc : Hid (∀ j', j = j' + 1 → w1.cell? ⟨b, o + j' * 3, none⟩ = some (.int .i64 pk)) := Lib.hid (fun j' hj' => (HB1.out.cell (by exact hbl)).trans (HPk.out j' hj'))
        clear c0 c1 c2 HP Hb HPk
        go_cut [9, 31] from 9 to 37 (fun ci s wx => ci = .int .i64 j ∧ s = .bool bad ∧ ∃ n, wx = w1.drewN n)
        case first =>
          clear HY HZ HC HPw Hbw HO HT a1 a2
          cases hcl : clB z with
          | false =>
            rw [hcl] at HBad
            have HR : Hid (bad = false) := Lib.hid (by rw [← HBad.out]; simp)
            clear HBad
            rcases j with _ | j
            · go_quiet (fail)
              go_wp2_with fail
              go_meet
              exact ⟨rfl, by rw [HR.out], _, rfl⟩
            · have g0 : decide (((j + 1 : Nat) : Int) > 0) = true := decide_eq_true (by omega)
              have HL := Lib.hid (fun w => HCl.out z w)
              rw [hcl] at HL
              go_quiet ((go_at_call 130; refine (HL.out _).mono ?_; rintro e w'' ⟨he, hw⟩; exact ⟨he, _, hw⟩))
              go_wp2_with fail
              go_meet
              exact ⟨rfl, by rw [HR.out], _, rfl⟩
          | true =>
            rw [hcl] at HBad
            rcases j with _ | j
            · have HR : Hid (bad = false) := Lib.hid (by rw [← HBad.out]; simp)
              clear HBad
              go_quiet (fail)
              go_wp2_with fail
              go_meet
              exact ⟨rfl, by rw [HR.out], _, rfl⟩
            · have HR : Hid ((pk == z) = bad) := Lib.hid (by rw [← HBad.out, decide_eq_true (Nat.succ_pos j), beq_dec]; simp)
              have g0 : decide (((j + 1 : Nat) : Int) > 0) = true := decide_eq_true (by omega)
              have HL := Lib.hid (fun w => HCl.out z w)
              have c3 := HPc.out j rfl
              rw [hcl] at HL
              clear HBad
              go_quiet ((go_at_call 130; refine (HL.out _).mono ?_; rintro e w'' ⟨he, hw⟩; exact ⟨he, _, hw⟩))
              go_wp2_with fail
              go_meet
              exact ⟨rfl, by rw [HR.out], _, rfl⟩
        case rest =>
          obtain ⟨rfl, rfl, n, rfl⟩ := hcut
          clear HBad HPc HCl
          cases bad with
          | true =>
            have HR := Lib.hid (HY.out rfl)
            go_wp2_with fail
            go_ret
            exact ⟨ret_bool HR.out.symm, below_drewN Hbw.out _⟩
          | false =>
            have HQ := Lib.hid (HZ.out rfl)
            have HBn := Lib.hid (below_drewN HB1.out n)
            have HC1 := Lib.hid (HC.out _ HBn.out)
            have b0 : (w1.drewN n).cell? ⟨wr.heap.size, 0, none⟩ = some (.int .i64 z) := a0
            have b1 : (w1.drewN n).cell? ⟨wr.heap.size, 1, none⟩ = some (.string ss) := a1
            have b2 : (w1.drewN n).cell? ⟨wr.heap.size, 2, none⟩ = some (.slice ak kn ck) := a2
            have HPn : Hid ((w1.drewN n).heap[w.heap.size]? = some (.cells #[.bool e, .bool k] 154 (0, 0))) := HPw
            have p0 : (w1.drewN n).cell? ⟨w.heap.size, 0, none⟩ = some (.bool e) := cell_at HPn.out 0
            have p1 : (w1.drewN n).cell? ⟨w.heap.size, 1, none⟩ = some (.bool k) := cell_at HPn.out 1
            have Hbn := Lib.hid (below_drewN Hbw.out n)
            clear HA HB1 HPw Hbw HC HY HZ HBn a0 a1 a2
            generalize w1.drewN n = w2 at *
            go_wp2_with fail
            refine HC1.out.mono ?_
            rintro e3 w3 ⟨rfl, hb3⟩
            have Hb3 := Lib.hid (Hbn.out.trans (hb3.mono Hbn.out.size))
            have HP3 : Hid (w3.heap[w.heap.size]? = some (.cells #[.bool e, .bool k] 154 (0, 0))) := Lib.hid ((hb3.block _ (lt_of_at HPn.out)).trans HPn.out)
            clear hb3 HC1
            cases oy with
            | true =>
              have HR : Hid (X = okAll e k (pkAt l (j + 1)) (l.drop (j + 1))) := Lib.hid (by rw [HQ.out]; rfl)
              clear HQ
              go_wp2_with fail
              go_roundw
              case rel => exact ⟨j + 1, by omega, by go_num, Hb3, HP3, HR⟩
              case measure => simp [intOf] <;> omega
            | false =>
              have HR : Hid (X = false) := Lib.hid (by rw [HQ.out]; rfl)
              clear HQ
              go_wp2_with fail
              go_ret
              exact ⟨ret_bool HR.out.symm, Hb3.out⟩
      · obtain rfl : j = l.length := by omega
        have hnx := HN.out
        rw [List.drop_length] at hnx
        have HR : Hid (X = true) := Lib.hid (by rw [hnx]; unfold okAll; rfl)
        clear hnx HN hlt
        go_wp2_with fail
        go_ret
        exact ⟨ret_bool HR.out.symm, Hb.out⟩
end Go.Proofs.YtldllbmbcnipoabGreatDoor.Sp
