/-
  CONTRACT of token.Cut: a text's tokens, in memory of the call's own.
-/
import Derived.Test.YtldllbmbcnipoaaGreatDoorPkTJ
namespace Go.Proofs.YtldllbmbcnipoaaGreatDoor.Tk
open Go.RowKit
set_option linter.unusedVariables false

/-- The tokens so far, and what is left, behind the byte at k. -/
def Rel (s : ByteArray) (f k : Nat) (o : List (List UInt8)) : Prop :=
  toks s.data.toList = o ++ (if k < s.size then tc (cur s f (k + 1)) (s.data.toList.drop (k + 1)) else [])
theorem cur_one (s : ByteArray) (k : Nat) (hk : k < s.size) : cur s k (k + 1) = [s[k]] := by
  rw [cur_snoc s k k (Nat.le_refl _) hk, cur_same]; rfl
theorem Rel.start (s : ByteArray) : Rel s 0 0 [] := by
  unfold Rel
  by_cases h : 0 < s.size
  · rw [if_pos h, cur_one s 0 h, List.nil_append]
    conv => lhs; rw [← List.drop_zero (l := s.data.toList), at_data s 0 h]
    rfl
  · rw [if_neg h]
    have := drop_all s 0 h
    rw [List.drop_zero] at this
    rw [this]; rfl
theorem Rel.on {s : ByteArray} {f k : Nat} {o : List (List UInt8)} (h : Rel s f k o) (hf : f ≤ k) (hk : k + 1 < s.size) (hj : joins (s[k]'(by omega)) s[k + 1] = true) : Rel s f (k + 1) o := by
  unfold Rel at h ⊢
  rw [if_pos (by omega), at_data s (k + 1) hk, cur_snoc s f k hf (by omega), tc_on _ _ _ _ hj, ← cur_snoc s f k hf (by omega), ← cur_snoc s f (k + 1) (by omega) hk] at h
  rw [if_pos hk]
  exact h
theorem Rel.cut {s : ByteArray} {f k : Nat} {o : List (List UInt8)} (h : Rel s f k o) (hf : f ≤ k) (hk : k + 1 < s.size) (hj : joins (s[k]'(by omega)) s[k + 1] = false) : Rel s (k + 1) (k + 1) (o ++ [(s.extract f (k + 1)).data.toList]) := by
  unfold Rel at h ⊢
  rw [if_pos (by omega), at_data s (k + 1) hk, cur_snoc s f k hf (by omega), tc_cut _ _ _ _ hj, ← cur_snoc s f k hf (by omega)] at h
  rw [if_pos hk, cur_one s (k + 1) hk, h]
  simp [cur]
theorem Rel.last {s : ByteArray} {f k : Nat} {o : List (List UInt8)} (h : Rel s f k o) (hf : f ≤ k) (hk : k + 1 = s.size) : Rel s (k + 1) (k + 1) (o ++ [(s.extract f (k + 1)).data.toList]) := by
  unfold Rel at h ⊢
  rw [if_pos (by omega), drop_all s (k + 1) (by omega), tc_end _ (by rw [cur_snoc s f k hf (by omega)]; simp)] at h
  rw [if_neg (by omega), h]
  simp [cur]
theorem Rel.stop {s : ByteArray} {f k : Nat} {o : List (List UInt8)} (h : Rel s f k o) (hk : ¬ k < s.size) : toks s.data.toList = o := by
  unfold Rel at h
  rw [if_neg hk, List.append_nil] at h
  exact h

theorem Rel.on' {s : ByteArray} {f k q : Nat} {o : List (List UInt8)} (h : Rel s f k o) (hf : f ≤ k) (hq : k + 1 = q) (hk : q < s.size) (hj : joins (s[k]'(by omega)) s[q] = true) : Rel s f q o := by subst hq; exact h.on hf hk hj
theorem Rel.cut' {s : ByteArray} {f k q : Nat} {o : List (List UInt8)} (h : Rel s f k o) (hf : f ≤ k) (hq : k + 1 = q) (hk : q < s.size) (hj : joins (s[k]'(by omega)) s[q] = false) : Rel s q q (o ++ [(s.extract f q).data.toList]) := by subst hq; exact h.cut hf hk hj
theorem Rel.last' {s : ByteArray} {f k q : Nat} {o : List (List UInt8)} (h : Rel s f k o) (hf : f ≤ k) (hq : k + 1 = q) (hk : q = s.size) : Rel s q q (o ++ [(s.extract f q).data.toList]) := by subst hq; exact h.last hf hk
theorem sym_of {P : Program} {f : FuncId} {args : Array Value} {w : World} {v : Value} (h : Calls P f args w fun e w' => e = .returned v ∧ w = w') : Calls P f args w fun e w' => e = .returned v ∧ w' = w := h.mono fun _ _ ⟨a, b⟩ => ⟨a, b.symm⟩
theorem own_drewN {w : World} {B : Nat} {e : TypeId} {z n : Nat} {v : Value} {xs : List Value} (h : w.ownsRow B e z v n xs) (m : Nat) : (w.drewN m).ownsRow B e z v n xs := h

set_option maxHeartbeats 1600000 in
set_option maxRecDepth 100000 in
theorem cut_any (s : ByteArray) (hs : s.size ≤ 1000000) (w : World) :
    Calls Tryz.prog 39 #[.string s] w fun e w' => ∃ v, e = .returned v ∧
      w'.ownsRow w.heap.size 9 1 v (toks s.data.toList).length ((toks s.data.toList).map encStr) ∧ Below w.heap.size w w' := by
  obtain ⟨i0, hi, hz0, hz1, hz2⟩ := info_parts infoS
  have H0 := Lib.hid (Rel.start s)
  go_enter Tryz.func39, Tryz.ntmps39
  go_wp2_with fail
  go_loopw [3, 4, 8] (fun v f i wr => ∃ (k fr : Nat) (o : List (List UInt8)), fr ≤ k ∧ k ≤ s.size ∧ o.length ≤ k ∧ i = .int .i64 k ∧ f = .int .i64 fr ∧ wr.ownsRow w.heap.size 9 1 v o.length (o.map encStr) ∧ Below w.heap.size w wr ∧ Hid (Rel s fr k o)) (fun _ _ i _ => s.size - (intOf i).toNat)
  case atStart => exact ⟨0, 0, [], Nat.le_refl _, Nat.zero_le _, Nat.le_refl _, rfl, rfl, World.ownsRow_nil _ _ _ _, Below.refl _ _, H0⟩
  case round =>
    clear H0
    obtain ⟨k, f, o, hf, hk, ho, rfl, rfl, hown, hb, HR⟩ := hrel
    have hB := hb.size
    by_cases hlt : k < s.size
    · obtain ⟨q, hq⟩ : ∃ q, k + 1 = q := ⟨_, rfl⟩
      have hwr : IntKind.i64.wrap ((k : Int) + 1) = (q : Int) := by rw [IntKind.wrap_i64]; omega
      by_cases hk1 : q < s.size
      · have e0 : ((q : Int) == (s.size : Int)) = false := by rw [beq_eq_false_iff_ne]; omega
        have C := Lib.hid (fun w => sym_of (st_any s[k] s[q] w))
        cases hj : joins s[k] s[q] with
        | true =>
          rw [hj] at C
          have HR2 := Lib.hid (HR.out.on' hf hq hk1 hj)
          have Hb := Lib.hid hb
          have Ho := Lib.hid hown
          clear hj hb hown HR
          go_wp2_with fail
          go_quiet (first | (go_at_call 58; refine Calls.quiet_of_same (C.out _)))
          go_wp2_with fail
          go_roundw
          case rel => exact ⟨q, f, o, by omega, by omega, by omega, by go_num, rfl, own_drewN Ho.out _, below_drewN Hb.out _, HR2⟩
          case measure => simp [intOf]; omega
        | false =>
          rw [hj] at C
          have HR2 := Lib.hid (HR.out.cut' hf hq hk1 hj)
          have Hb := Lib.hid hb
          have Ho := Lib.hid hown
          clear hj hb hown HR
          go_wp2_with fail
          go_quiet (first | (go_at_call 58; refine Calls.quiet_of_same (C.out _)))
          go_wp2_with (at_builtin; refine wpList_append_own _ rfl _ _ 27 rfl w.heap.size 9 i0 (.string ⟨#[]⟩) 1 16 Tryz.underlying27 hi hz0 hz1 hz2 rfl (by decide) _ _ _ rfl ((own_drewN Ho.out _).alloc _) ⟨wr.heap.size, 0, none⟩ 1 1 [.string (s.extract f q)] rfl rfl news1 news2 (by unfold maxLen; omega) (by omega) (by simp; omega) ?_)
          intro v' w1 hown' hgrow _
          have R := own_push (own_drewN Ho.out _) (below_drewN Hb.out _) hB hown' hgrow
          have R1 := Lib.hid R.1
          have R2 := Lib.hid R.2
          clear R hown' hgrow
          go_wp2_with fail
          go_roundw
          case rel => exact ⟨q, q, _, by omega, by omega, by simp; omega, by go_num, by go_num, R1.out, R2.out, HR2⟩
          case measure => simp [intOf]; omega
      · have e0 : ((q : Int) == (s.size : Int)) = true := by rw [beq_iff_eq]; omega
        have HR2 := Lib.hid (HR.out.last' hf hq (by omega))
        have Hb := Lib.hid hb
        have Ho := Lib.hid hown
        clear hb hown HR
        go_wp2_with fail
        go_quiet (fail)
        go_wp2_with (at_builtin; refine wpList_append_own _ rfl _ _ 27 rfl w.heap.size 9 i0 (.string ⟨#[]⟩) 1 16 Tryz.underlying27 hi hz0 hz1 hz2 rfl (by decide) _ _ _ rfl ((own_drewN Ho.out _).alloc _) ⟨wr.heap.size, 0, none⟩ 1 1 [.string (s.extract f q)] rfl rfl news1 news2 (by unfold maxLen; omega) (by omega) (by simp; omega) ?_)
        intro v' w1 hown' hgrow _
        have R := own_push (own_drewN Ho.out _) (below_drewN Hb.out _) hB hown' hgrow
        have R1 := Lib.hid R.1
        have R2 := Lib.hid R.2
        clear R hown' hgrow
        go_wp2_with fail
        go_roundw
        case rel => exact ⟨q, q, _, by omega, by omega, by simp; omega, by go_num, by go_num, R1.out, R2.out, HR2⟩
        case measure => simp [intOf]; omega
    · have HS := Lib.hid (HR.out.stop hlt)
      have Hb := Lib.hid hb
      have Ho := Lib.hid hown
      clear hb hown HR
      go_wp2_with fail
      go_ret
      rw [HS.out]
      exact ⟨_, rfl, Ho.out, Hb.out⟩

end Go.Proofs.YtldllbmbcnipoaaGreatDoor.Tk
