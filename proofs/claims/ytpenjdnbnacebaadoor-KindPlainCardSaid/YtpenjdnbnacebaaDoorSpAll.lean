/-
  CONTRACT of the document's all (emendationref07).
-/
import Derived.Test.YtpenjdnbnacebaaDoorSpRight
import Derived.Lib.QuietBelow
import Derived.BigQuiet
import Derived.Deep.Cut
import Derived.Deep.CutRange
import Derived.Deep.CutBlock
namespace Go.Proofs.YtpenjdnbnacebaaDoor.Sp
open Go.RowKit
open Go.Proofs.YtpenjdnbnacebaaDoor.Tk (S S_of S_list S_size S_toList S_app ret_int eq8 ne8 at_data len_data)
open Go.Proofs.YtpenjdnbnacebaaDoor.Cm (calls_at Keep alloc_new alloc_at cell_at lt_of_at)
set_option linter.unusedVariables false

/-- The kind ahead of place j. -/
def pkAt (l : List Sp) : Nat → Int
  | 0 => 0
  | j + 1 => (l[j]?.map Sp.kind).getD 0
theorem pkAt_next (l : List Sp) (j : Nat) (h : j < l.length) : pkAt l (j + 1) = l[j].kind := by
  show (l[j]?.map Sp.kind).getD 0 = _
  rw [List.getElem?_eq_getElem h]
  rfl

set_option maxHeartbeats 6400000 in
set_option maxRecDepth 100000 in
theorem all_any (m : Nat) : ∀ (l : List Sp) (e k : Bool) (v : Value) (w : World), totAll l ≤ m → fitAll 140737488355328 l → Tr w v l →
    Calls Tryd.prog 89 #[v, .bool e, .bool k] w (OkAns w (okAll e k 0 l)) := by
  induction m using Nat.strongRecOn with
  | ind m ih =>
    intro l e k v w hm hf ht
    obtain ⟨ao, ca, rfl⟩ := ht.len
    have HT := Lib.hid ht
    have hlen := ht.short
    have HO : Hid (∀ j (hj : j < l.length) (ak : Option Addr) (ck : Nat) (w' : World), Tr w' (.slice ak l[j].kids.length ck) l[j].kids →
        Calls Tryd.prog 103 #[.agg #[.int .i64 l[j].kind, .string (S l[j].s), .slice ak l[j].kids.length ck], .bool e, .bool k] w' (OkAns w' (okOne e k l[j]))) := Lib.hid (fun j hj ak ck w' ht' => by
      have hfx := fitAll_at hf l[j] (List.getElem_mem hj)
      refine one_of l[j] e k ak ck w' (fitOne_s hfx) (fun e k w'' hb => ?_)
      exact ih (totAll l[j].kids) (Nat.lt_of_lt_of_le (totAll_kids (List.getElem_mem hj)) hm) l[j].kids e k _ w'' (Nat.le_refl _) (fitOne_kids hfx) (ht'.below hb))
    have H0 : Hid (okAll e k 0 l = okAll e k (pkAt l 0) (l.drop 0)) := Lib.hid (by rw [List.drop_zero]; rfl)
    obtain ⟨X, hX⟩ : ∃ X, okAll e k 0 l = X := ⟨_, rfl⟩
    rw [hX] at H0
    rw [hX]
    clear ih ht hm hX hf
    go_enter Tryd.func89, Tryd.ntmps89
    go_wp2_with fail
    go_loopw [10] (fun i wr => ∃ j : Nat, j ≤ l.length ∧ i = .int .i64 j ∧ Below w.heap.size w wr ∧ Hid (X = okAll e k (pkAt l j) (l.drop j))) (fun i _ => l.length - (intOf i).toNat)
    case atStart => exact ⟨0, Nat.zero_le _, rfl, Below.refl _ _, H0⟩
    case round =>
      clear H0
      obtain ⟨j, hj, rfl, hb, HN⟩ := hrel
      have Hb := Lib.hid hb
      by_cases hlt : j < l.length
      · have hnx := HN.out
        rw [drop_cons l j hlt, okAll_cons] at hnx
        have hi1 : (j : Int) < (l.length : Int) := by omega
        have HTr := Lib.hid (HT.out.below hb)
        obtain ⟨b, o, ak, ck, rfl, hbl, hC⟩ := HTr.out.at j hlt
        have HSall := Lib.hid (fun w' (h : Keep (fun _ => False) wr w') => HTr.out.below (h.below (fun _ e => e.elim) (Nat.le_refl _)))
        have hcell : ∀ w', Keep (fun _ => False) wr w' → ∀ q, w'.cell? ⟨b, q, none⟩ = wr.cell? ⟨b, q, none⟩ := fun w' h q => (h.below (B := wr.heap.size) (fun _ e => e.elim) (Nat.le_refl _)).cell (by exact hbl)
        have HC := Lib.hid (fun d os => Calls.regrown_of (HO.out j hlt ak ck (Go.Sort.grow (redrawn wr d) os) (hC.tr.below (below_regrown wr d os))))
        have hkd : okOne e k l[j] = true → 1 ≤ l[j].kind := fun h => (okOne_kind h).1
        have hpk := pkAt_next l j hlt
        have c0 := hC.kind
        have c1 := hC.s
        have c2 := hC.kids
        obtain ⟨ok, hok⟩ : ∃ ok, (okOne e k l[j] && !(decide (l[j].kind = pkAt l j) && decide (l[j].kind ≤ 2))) = ok := ⟨_, rfl⟩
        rw [hok, ← hpk] at hnx
        have HQ := Lib.hid hnx
        have HOK := Lib.hid hok
        clear hnx hok HN
        go_upto_region 4 with fail
        go_cut [10, 46] from 10 to 47 (fun ci s wx => ci = .int .i64 j ∧ s = .bool (!ok) ∧ Hid (Below w.heap.size w wx))
        case first =>
          clear HQ hpk
          rcases j with _ | j
          · simp only [Nat.zero_mul, Nat.add_zero] at c0 c1 c2
            clear hC HSall
            have hz0 : okOne e k l[0] = true → ¬ (l[0].kind = pkAt l 0) := fun h => by have := hkd h; show ¬ (l[0].kind = 0); omega
            clear hkd
            generalize l[0].kind = z at *
            generalize S l[0].s = ss at *
            generalize l[0].kids.length = kn at *
            clear hcell
            cases hy : okOne e k l[0] with
            | false =>
              rw [hy] at HC
              have HR : Hid (ok = false) := Lib.hid (by rw [← HOK.out, hy]; rfl)
              clear HOK hz0 hy
              have q0 := fun d os => cell_regrown (w := wr) c0 d os
              have q1 := fun d os => cell_regrown (w := wr) c1 d os
              have q2 := fun d os => cell_regrown (w := wr) c2 d os
              refine wp_region_quiet_below (by kernel_rfl) (by kernel_rfl) ?_
              repeat (go_big_quiet_step (first | (go_at_call 103; exact HC.out _ _)))
              refine wpQuiet_nil ?_
              intro w5 hw5
              obtain ⟨⟨dq, osq⟩, hw5'⟩ := hw5
              subst hw5'
              have HB5 := Lib.hid (Hb.out.trans ((below_regrown wr dq osq).mono Hb.out.size))
              go_wp2_with fail
              go_meet
              exact ⟨rfl, by rw [HR.out]; rfl, HB5⟩
            | true =>
              rw [hy] at HC
              have HR : Hid (ok = true) := Lib.hid (by rw [← HOK.out, hy, decide_eq_false (hz0 hy)]; rfl)
              clear HOK hz0 hy
              have q0 := fun d os => cell_regrown (w := wr) c0 d os
              have q1 := fun d os => cell_regrown (w := wr) c1 d os
              have q2 := fun d os => cell_regrown (w := wr) c2 d os
              refine wp_region_quiet_below (by kernel_rfl) (by kernel_rfl) ?_
              repeat (go_big_quiet_step (first | (go_at_call 103; exact HC.out _ _)))
              refine wpQuiet_nil ?_
              intro w5 hw5
              obtain ⟨⟨dq, osq⟩, hw5'⟩ := hw5
              subst hw5'
              have HB5 := Lib.hid (Hb.out.trans ((below_regrown wr dq osq).mono Hb.out.size))
              go_wp2_with fail
              go_meet
              exact ⟨rfl, by rw [HR.out]; rfl, HB5⟩
          · obtain ⟨b', o', ak', ck', hao, _, hC'⟩ := HTr.out.at j (by omega)
            simp only [Option.some.injEq, Addr.mk.injEq, and_true] at hao
            obtain ⟨rfl, rfl⟩ := hao
            have c3 := hC'.kind
            have hp : pkAt l (j + 1) = l[j].kind := pkAt_next l j (by omega)
            rw [hp] at HOK
            clear hC hC' HSall hp hkd
            generalize l[j + 1].kind = z at *
            generalize S l[j + 1].s = ss at *
            generalize l[j + 1].kids.length = kn at *
            generalize l[j].kind = p at *
            clear hcell
            have g0 : decide (((j + 1 : Nat) : Int) > 0) = true := decide_eq_true (by omega)
            cases hy : okOne e k l[j + 1] with
            | false =>
              rw [hy] at HC
              have HR : Hid (ok = false) := Lib.hid (by rw [← HOK.out, hy]; rfl)
              clear HOK hy
              have q0 := fun d os => cell_regrown (w := wr) c0 d os
              have q1 := fun d os => cell_regrown (w := wr) c1 d os
              have q2 := fun d os => cell_regrown (w := wr) c2 d os
              have q3 := fun d os => cell_regrown (w := wr) c3 d os
              refine wp_region_quiet_below (by kernel_rfl) (by kernel_rfl) ?_
              repeat (go_big_quiet_step (first | (go_at_call 103; exact HC.out _ _)))
              refine wpQuiet_nil ?_
              intro w5 hw5
              obtain ⟨⟨dq, osq⟩, hw5'⟩ := hw5
              subst hw5'
              have HB5 := Lib.hid (Hb.out.trans ((below_regrown wr dq osq).mono Hb.out.size))
              go_wp2_with fail
              go_meet
              exact ⟨rfl, by rw [HR.out]; rfl, HB5⟩
            | true =>
              rw [hy] at HC
              by_cases hzp : z = p
              · have e1 : (z == p) = true := by rw [hzp]; simp
                by_cases hz2 : z ≤ 2
                · have e2 : decide (z ≤ 2) = true := decide_eq_true hz2
                  have HR : Hid (ok = false) := Lib.hid (by rw [← HOK.out, hy, decide_eq_true hzp, e2]; rfl)
                  clear HOK hy hzp hz2
                  have q0 := fun d os => cell_regrown (w := wr) c0 d os
                  have q1 := fun d os => cell_regrown (w := wr) c1 d os
                  have q2 := fun d os => cell_regrown (w := wr) c2 d os
                  have q3 := fun d os => cell_regrown (w := wr) c3 d os
                  refine wp_region_quiet_below (by kernel_rfl) (by kernel_rfl) ?_
                  repeat (go_big_quiet_step (first | (go_at_call 103; exact HC.out _ _)))
                  refine wpQuiet_nil ?_
                  intro w5 hw5
                  obtain ⟨⟨dq, osq⟩, hw5'⟩ := hw5
                  subst hw5'
                  have HB5 := Lib.hid (Hb.out.trans ((below_regrown wr dq osq).mono Hb.out.size))
                  go_wp2_with fail
                  go_meet
                  exact ⟨rfl, by rw [HR.out]; rfl, HB5⟩
                · have e2 : decide (z ≤ 2) = false := decide_eq_false hz2
                  have HR : Hid (ok = true) := Lib.hid (by rw [← HOK.out, hy, e2]; simp)
                  clear HOK hy hzp hz2
                  have q0 := fun d os => cell_regrown (w := wr) c0 d os
                  have q1 := fun d os => cell_regrown (w := wr) c1 d os
                  have q2 := fun d os => cell_regrown (w := wr) c2 d os
                  have q3 := fun d os => cell_regrown (w := wr) c3 d os
                  refine wp_region_quiet_below (by kernel_rfl) (by kernel_rfl) ?_
                  repeat (go_big_quiet_step (first | (go_at_call 103; exact HC.out _ _)))
                  refine wpQuiet_nil ?_
                  intro w5 hw5
                  obtain ⟨⟨dq, osq⟩, hw5'⟩ := hw5
                  subst hw5'
                  have HB5 := Lib.hid (Hb.out.trans ((below_regrown wr dq osq).mono Hb.out.size))
                  go_wp2_with fail
                  go_meet
                  exact ⟨rfl, by rw [HR.out]; rfl, HB5⟩
              · have e1 : (z == p) = false := by rw [beq_eq_false_iff_ne]; exact hzp
                have HR : Hid (ok = true) := Lib.hid (by rw [← HOK.out, hy, decide_eq_false hzp]; simp)
                clear HOK hy hzp
                have q0 := fun d os => cell_regrown (w := wr) c0 d os
                have q1 := fun d os => cell_regrown (w := wr) c1 d os
                have q2 := fun d os => cell_regrown (w := wr) c2 d os
                have q3 := fun d os => cell_regrown (w := wr) c3 d os
                refine wp_region_quiet_below (by kernel_rfl) (by kernel_rfl) ?_
                repeat (go_big_quiet_step (first | (go_at_call 103; exact HC.out _ _)))
                refine wpQuiet_nil ?_
                intro w5 hw5
                obtain ⟨⟨dq, osq⟩, hw5'⟩ := hw5
                subst hw5'
                have HB5 := Lib.hid (Hb.out.trans ((below_regrown wr dq osq).mono Hb.out.size))
                go_wp2_with fail
                go_meet
                exact ⟨rfl, by rw [HR.out]; rfl, HB5⟩
        case rest =>
          obtain ⟨rfl, rfl, HB5⟩ := hcut
          clear HC hC HSall hcell hkd hpk c0 c1 c2 HTr HOK
          cases ok with
          | true =>
            have HR : Hid (X = okAll e k (pkAt l (j + 1)) (l.drop (j + 1))) := Lib.hid (by rw [HQ.out]; rfl)
            clear HQ
            go_wp2_with fail
            go_roundw
            case rel => exact ⟨j + 1, by omega, by go_num, HB5.out, HR⟩
            case measure => simp [intOf] <;> omega
          | false =>
            have HR : Hid (X = false) := Lib.hid (by rw [HQ.out]; rfl)
            clear HQ
            go_wp2_with fail
            go_ret
            exact ⟨ret_bool HR.out.symm, HB5.out⟩
      · obtain rfl : j = l.length := by omega
        have hnx := HN.out
        rw [List.drop_length] at hnx
        have HR : Hid (X = true) := Lib.hid (by rw [hnx]; unfold okAll; rfl)
        clear hnx HN hlt
        go_wp2_with fail
        go_ret
        exact ⟨ret_bool HR.out.symm, Hb.out⟩

end Go.Proofs.YtpenjdnbnacebaaDoor.Sp
