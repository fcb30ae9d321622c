/-
  CONTRACT of the document's Cut (emendationref03): the same tokens.
-/
import Derived.Test.YtldllbmbcnipoaaGreatDoorTkCut
import Derived.StillTailTactics
namespace Go.Proofs.YtldllbmbcnipoaaGreatDoor.Tk
open Go.RowKit
set_option linter.unusedVariables false

/-- The tokens so far: the last one is open. -/
def RelR (s : ByteArray) (k : Nat) (la : Int) (o : List (List UInt8)) : Prop :=
  (o = [] ∧ k = 0) ∨ ∃ o' c a, o = o' ++ [c ++ [a]] ∧ la = (cls a : Int) ∧ toks s.data.toList = o' ++ tc (c ++ [a]) (s.data.toList.drop k)
theorem RelR.first {s : ByteArray} {k q : Nat} (h0 : k = 0) (hq : k + 1 = q) (hk : k < s.size) : RelR s q (cls s[k]) ([] ++ [(s.extract k q).data.toList]) := by
  subst hq
  subst h0
  refine Or.inr ⟨[], [], s[0], ?_, rfl, ?_⟩
  · show [] ++ [cur s 0 1] = _
    rw [cur_one s 0 hk]
    rfl
  · conv => lhs; rw [← List.drop_zero (l := s.data.toList), at_data s 0 hk]
    rfl
theorem RelR.on {s : ByteArray} {k q : Nat} {o' : List (List UInt8)} {c : List UInt8} {a : UInt8} (h : toks s.data.toList = o' ++ tc (c ++ [a]) (s.data.toList.drop k)) (hq : k + 1 = q) (hk : k < s.size) (hj : joins a s[k] = true) :
    RelR s q (cls s[k]) (o' ++ [(c ++ [a]) ++ [s[k]]]) := by
  subst hq
  refine Or.inr ⟨o', c ++ [a], s[k], rfl, rfl, ?_⟩
  rw [at_data s k hk, tc_on _ _ _ _ hj] at h
  exact h
theorem RelR.cut {s : ByteArray} {k q : Nat} {o' : List (List UInt8)} {c : List UInt8} {a : UInt8} (h : toks s.data.toList = o' ++ tc (c ++ [a]) (s.data.toList.drop k)) (hq : k + 1 = q) (hk : k < s.size) (hj : joins a s[k] = false) :
    RelR s q (cls s[k]) ((o' ++ [c ++ [a]]) ++ [(s.extract k q).data.toList]) := by
  subst hq
  refine Or.inr ⟨o' ++ [c ++ [a]], [], s[k], ?_, rfl, ?_⟩
  · show _ ++ [cur s k (k + 1)] = _
    rw [cur_one s k hk]
    rfl
  · rw [at_data s k hk, tc_cut _ _ _ _ hj] at h
    rw [h]
    simp
theorem RelR.stop {s : ByteArray} {k : Nat} {la : Int} {o : List (List UInt8)} (h : RelR s k la o) (hk : ¬ k < s.size) : toks s.data.toList = o := by
  rcases h with ⟨rfl, rfl⟩ | ⟨o', c, a, rfl, _, h⟩
  · have := drop_all s 0 hk
    rw [List.drop_zero] at this
    rw [this]; rfl
  · rw [h, drop_all s k hk, tc_end _ (by simp)]
theorem joins_int (a b : UInt8) : joins a b = (((cls b : Int) == (cls a : Int)) && decide ((cls b : Int) < 3)) := by
  unfold joins
  congr 1
  · rw [Bool.eq_iff_iff]; simp only [beq_iff_eq]; omega
  · rw [decide_eq_decide]; omega
theorem slice1 (s : ByteArray) (k q : Nat) (hq : k + 1 = q) (hk : k < s.size) : s.extract k q = S [s[k]] := by
  subst hq
  have := cur_one s k hk
  unfold cur at this
  rw [← this, S_of]
theorem tok_len {s : ByteArray} {o' : List (List UInt8)} {x r : List UInt8} (h : toks s.data.toList = o' ++ tc x r) : x.length ≤ s.size := by
  have h2 := congrArg List.flatten h
  rw [toks_flat, List.flatten_append, tc_flat] at h2
  have h3 := congrArg List.length h2
  rw [List.length_append, List.length_append, len_data] at h3
  omega
theorem set_last (o' : List (List UInt8)) (x y : List UInt8) : ((o' ++ [x]).map encStr).set o'.length (encStr y) = (o' ++ [y]).map encStr := by
  rw [List.map_append, List.map_append, List.set_append_right _ _ (by simp)]
  simp

set_option maxHeartbeats 1600000 in
set_option maxRecDepth 100000 in
theorem rcut_any (s : ByteArray) (hs : s.size ≤ 1000000) (w : World) :
    Calls Tryz.prog 44 #[.string s] w fun e w' => ∃ v, e = .returned v ∧
      w'.ownsRow w.heap.size 9 1 v (toks s.data.toList).length ((toks s.data.toList).map encStr) ∧ Below w.heap.size w w' := by
  obtain ⟨i0, hi, hz0, hz1, hz2⟩ := info_parts infoS
  go_enter Tryz.func44, Tryz.ntmps44
  go_wp2_with fail
  go_loopw [3, 4, 5] (fun v l i wr => ∃ (k : Nat) (la : Int) (o : List (List UInt8)), k ≤ s.size ∧ o.length ≤ k ∧ i = .int .i64 k ∧ l = .int .i64 la ∧ (o = [] → v = .slice none 0 0) ∧ wr.ownsRow w.heap.size 9 1 v o.length (o.map encStr) ∧ Below w.heap.size w wr ∧ Hid (RelR s k la o)) (fun _ _ i _ => s.size - (intOf i).toNat)
  case atStart => exact ⟨0, 0, [], Nat.zero_le _, Nat.le_refl _, rfl, rfl, fun _ => rfl, World.ownsRow_nil _ _ _ _, Below.refl _ _, Lib.hid (Or.inl ⟨rfl, rfl⟩)⟩
  case round =>
    obtain ⟨k, la, o, hk, ho, rfl, rfl, hnil, hown, hb, HR⟩ := hrel
    have hB := hb.size
    by_cases hlt : k < s.size
    · obtain ⟨q, hq⟩ : ∃ q, k + 1 = q := ⟨_, rfl⟩
      have hwr : IntKind.i64.wrap ((k : Int) + 1) = (q : Int) := by rw [IntKind.wrap_i64]; omega
      have h255 : s[k].toNat ≤ 255 := by have := s[k].toNat_lt; omega
      have C := Lib.hid (rclass8 s[k])
      rcases HR.out with ⟨rfl, hk0⟩ | ⟨o', c, a, rfl, rfl, hT⟩
      · obtain rfl := hnil rfl
        have HR2 := Lib.hid (RelR.first hk0 hq hlt)
        have Hb := Lib.hid hb
        have Ho := Lib.hid hown
        clear hb hown HR hnil hk0 ho
        generalize (cls s[k] : Int) = kb at *
        go_wp2_with fail
        refine (C.out _).mono ?_
        rintro e w' ⟨rfl, rfl⟩
        go_wp2_with (at_builtin; refine wpList_append_own _ rfl _ _ 27 rfl w.heap.size 9 i0 (.string ⟨#[]⟩) 1 16 Tryz.underlying27 hi hz0 hz1 hz2 rfl (by decide) _ _ _ rfl ((World.ownsRow_nil wr w.heap.size 9 1).alloc _) ⟨wr.heap.size, 0, none⟩ 1 1 [.string (s.extract k q)] rfl rfl news1 news2 (by unfold maxLen; omega) (by omega) (by simp; omega) ?_)
        intro v' w1 hown' hgrow _
        have R := own_push (o := []) (World.ownsRow_nil wr w.heap.size 9 1) Hb.out hB hown' hgrow
        have R1 := Lib.hid R.1
        have R2 := Lib.hid R.2
        clear R hown' hgrow
        go_wp2_with fail
        go_roundw
        case rel => exact ⟨q, _, _, by omega, by simp; omega, by go_num, rfl, fun h => by simp at h, R1.out, R2.out, HR2⟩
        case measure => simp [intOf]; omega
      · have HJ := Lib.hid (joins_int a s[k])
        have hlen : (o' ++ [c ++ [a]]).length = o'.length + 1 := by simp
        obtain ⟨m, hm⟩ : ∃ m, o'.length + 1 = m := ⟨_, rfl⟩
        have hml : (o' ++ [c ++ [a]]).length = m := by omega
        have hwm : IntKind.i64.wrap ((m : Int) - 1) = (o'.length : Int) := by rw [IntKind.wrap_i64]; omega
        have hm0 : 0 < m := by omega
        have hB2 : ∀ x, x = m → x ≤ k := fun x h => by omega
        rcases hown.2 with ⟨_, h0⟩ | ⟨g, cap, cu, rfl, hgB, hg, hn, hmx, hsz, ht⟩
        · omega
        clear hgB hg hsz ht hnil
        cases hj : joins a s[k] with
        | true =>
          have HR2 := Lib.hid (RelR.on hT hq hlt hj)
          have HS := Lib.hid (slice1 s k q hq hlt)
          have h12 : ((cls s[k] : Int) == (cls a : Int)) = true ∧ decide ((cls s[k] : Int) < 3) = true := by
            have := HJ.out; rw [hj] at this; simpa using this.symm
          obtain ⟨e1, e2⟩ := h12
          have k1 : wr.cell? ⟨g, o'.length, none⟩ = some (.string (S (c ++ [a]))) := by
            rw [hown.cellAt o'.length (by omega), List.getElem?_map]
            simp
            rfl
          have k2 := hown.frozenAt o'.length
          have hst := hown.stored o'.length (encStr ((c ++ [a]) ++ [s[k]]))
          rw [set_last] at hst
          have Hst := Lib.hid (show (wr.setCell ⟨g, o'.length, none⟩ (.string (S (c ++ [a]) ++ s.extract k q))).ownsRow w.heap.size 9 1 (.slice (some ⟨g, 0, none⟩) m cap) (o' ++ [(c ++ [a]) ++ [s[k]]]).length ((o' ++ [(c ++ [a]) ++ [s[k]]]).map encStr) ∧ Below w.heap.size w (wr.setCell ⟨g, o'.length, none⟩ (.string (S (c ++ [a]) ++ s.extract k q))) from by
            rw [slice1 s k q hq hlt, S_app, ← hml]
            have e3 : (o' ++ [(c ++ [a]) ++ [s[k]]]).length = (o' ++ [c ++ [a]]).length := by simp
            rw [e3]
            exact ⟨hst.1, hb.setCell (hown.lt g rfl).1 _⟩)
          have hlen2 : (o' ++ [(c ++ [a]) ++ [s[k]]]).length ≤ q := by rw [List.length_append]; simp; omega
          rw [hml]
          rw [hml] at hn
          have hsz1 : (S (c ++ [a])).size ≤ 1000000 := by rw [S_size]; exact Nat.le_trans (tok_len hT) hs
          clear hb hown HR HJ hj hT hst hlen hml
          generalize (cls s[k] : Int) = kb at *
          generalize (cls a : Int) = la at *
          go_wp2_with fail
          refine (C.out _).mono ?_
          rintro e w' ⟨rfl, rfl⟩
          go_wp2_with fail
          have hi1 : (o'.length : Int) < (m : Int) := by omega
          have hi2 : o'.length < m := by omega
          have hi7 : ¬ (9223372036854775807 < (S (c ++ [a])).size + (q - k)) := by omega
          have hi3 : (k : Int) ≤ (q : Int) := by omega
          have hi4 : (q : Int) ≤ (s.size : Int) := by omega
          have hi5 : k ≤ q := by omega
          have hi6 : q ≤ s.size := by omega
          have k3 : ({ heap := wr.heap, tape := wr.tape, drawn := wr.drawn + 1, os := wr.os, output := wr.output } : World).cell? ⟨g, o'.length, none⟩ = some (.string (S (c ++ [a]))) := k1
          go_still_tail 17, (by kernel_rfl)
          change wpList _ _ _ _ _ wr.drew
          generalize hw2 : wr.drew = w2
          have k4 : w2.cell? ⟨g, o'.length, none⟩ = some (.string (S (c ++ [a]))) := by rw [← hw2]; exact k1
          have k5 : w2.frozen? ⟨g, o'.length, none⟩ = false := by rw [← hw2]; exact k2
          have Hst2 : Hid ((w2.setCell ⟨g, o'.length, none⟩ (.string (S (c ++ [a]) ++ s.extract k q))).ownsRow w.heap.size 9 1 (.slice (some ⟨g, 0, none⟩) m cap) (o' ++ [(c ++ [a]) ++ [s[k]]]).length ((o' ++ [(c ++ [a]) ++ [s[k]]]).map encStr) ∧ Below w.heap.size w (w2.setCell ⟨g, o'.length, none⟩ (.string (S (c ++ [a]) ++ s.extract k q)))) := Lib.hid (by rw [← hw2]; exact ⟨Hst.out.1, below_drewN Hst.out.2 1⟩)
          clear hw2 k1 k2 k3 Hst
          go_wp2_with fail
          go_roundw
          case rel => exact ⟨q, _, _, by omega, hlen2, by go_num, rfl, fun h => by simp at h, Hst2.out.1, Hst2.out.2, HR2⟩
          case measure => simp [intOf]; omega
        | false =>
          have HR2 := Lib.hid (RelR.cut hT hq hlt hj)
          have h12 : (((cls s[k] : Int) == (cls a : Int)) && decide ((cls s[k] : Int) < 3)) = false := by
            have := HJ.out; rw [hj] at this; exact this.symm
          have Hb := Lib.hid hb
          have Ho := Lib.hid hown
          clear hb hown HR HJ hj hT hlen
          generalize o' ++ [c ++ [a]] = ol at *
          have hl0 : 0 < ol.length := by omega
          clear hwm hB2 hm hml hm0
          generalize (cls s[k] : Int) = kb at *
          generalize (cls a : Int) = la at *
          cases e1 : (kb == la) with
          | true =>
            have e2 : decide (kb < 3) = false := by rw [e1] at h12; simpa using h12
            clear h12
            go_wp2_with fail
            refine (C.out _).mono ?_
            rintro e w' ⟨rfl, rfl⟩
            go_wp2_with (at_builtin; refine wpList_append_own _ rfl _ _ 27 rfl w.heap.size 9 i0 (.string ⟨#[]⟩) 1 16 Tryz.underlying27 hi hz0 hz1 hz2 rfl (by decide) _ _ _ rfl (Ho.out.alloc _) ⟨wr.heap.size, 0, none⟩ 1 1 [.string (s.extract k q)] rfl rfl news1 news2 (by unfold maxLen; omega) (by omega) (by simp; omega) ?_)
            intro v' w1 hown' hgrow _
            have R := own_push Ho.out Hb.out hB hown' hgrow
            have R1 := Lib.hid R.1
            have R2 := Lib.hid R.2
            clear R hown' hgrow
            go_wp2_with fail
            go_roundw
            case rel => exact ⟨q, _, _, by omega, by simp at ho ⊢; omega, by go_num, rfl, fun h => by simp at h, R1.out, R2.out, HR2⟩
            case measure => simp [intOf]; omega
          | false =>
            clear h12
            go_wp2_with fail
            refine (C.out _).mono ?_
            rintro e w' ⟨rfl, rfl⟩
            go_wp2_with (at_builtin; refine wpList_append_own _ rfl _ _ 27 rfl w.heap.size 9 i0 (.string ⟨#[]⟩) 1 16 Tryz.underlying27 hi hz0 hz1 hz2 rfl (by decide) _ _ _ rfl (Ho.out.alloc _) ⟨wr.heap.size, 0, none⟩ 1 1 [.string (s.extract k q)] rfl rfl news1 news2 (by unfold maxLen; omega) (by omega) (by simp; omega) ?_)
            intro v' w1 hown' hgrow _
            have R := own_push Ho.out Hb.out hB hown' hgrow
            have R1 := Lib.hid R.1
            have R2 := Lib.hid R.2
            clear R hown' hgrow
            go_wp2_with fail
            go_roundw
            case rel => exact ⟨q, _, _, by omega, by simp at ho ⊢; omega, by go_num, rfl, fun h => by simp at h, R1.out, R2.out, HR2⟩
            case measure => simp [intOf]; omega
    · have HS := Lib.hid (HR.out.stop hlt)
      have Hb := Lib.hid hb
      have Ho := Lib.hid hown
      clear hb hown HR hnil
      go_wp2_with fail
      go_ret
      rw [HS.out]
      exact ⟨_, rfl, Ho.out, Hb.out⟩

end Go.Proofs.YtldllbmbcnipoaaGreatDoor.Tk
