/-
  CONTRACT of marks.Choose.
-/
import Derived.Test.YtipgofglidmffaaMkSize
import Derived.Test.YtipgofglidmffaaCmKeep
namespace Go.Proofs.Ytipgofglidmffaa.Mk
open Go.RowKit Go.Proofs.Ytipgofglidmffaa.Tk
open Go.Proofs.Ytipgofglidmffaa.Cm (of_drewN)
set_option linter.unusedVariables false

theorem hold_in (n : Int) : hold n ≤ 1000 ∧ 1 ≤ hold n := by unfold hold; omega
theorem drop_next (l : List Tx) (k : Nat) (h : k < l.length) : l.drop k = l[k] :: l.drop (k + 1) := List.drop_eq_getElem_cons h
theorem map_id' {α : Type} (o : Option (List α)) : o.map (([] : List α) ++ ·) = o := by cases o <;> rfl
theorem ch_take {h side a : Nat} {s : Tx} {r o : List Tx} {x : Option (List Tx)} (e : x = (choose h side a (s :: r)).map (o ++ ·)) (hm : mark h s = 0) (ha : a = 0 ∨ a = side) : x = (choose h side a r).map ((o ++ [s]) ++ ·) := by
  rw [e, choose, if_pos hm]
  cases choose h side a r with
  | none => rfl
  | some q => simp [ha]
theorem ch_drop {h side a : Nat} {s : Tx} {r o : List Tx} {x : Option (List Tx)} (e : x = (choose h side a (s :: r)).map (o ++ ·)) (hm : mark h s = 0) (ha : ¬ (a = 0 ∨ a = side)) : x = (choose h side a r).map (o ++ ·) := by
  rw [e, choose, if_pos hm]
  cases choose h side a r with
  | none => rfl
  | some q => simp [ha]
theorem ch_mark {h side a : Nat} {s : Tx} {r o : List Tx} {x : Option (List Tx)} (e : x = (choose h side a (s :: r)).map (o ++ ·)) (hm : mark h s = a + 1) : x = (choose h side ((a + 1) % 4) r).map (o ++ ·) := by
  rw [e, choose_mark h side a s r hm]
theorem ch_none {h side a : Nat} {s : Tx} {r o : List Tx} {x : Option (List Tx)} (e : x = (choose h side a (s :: r)).map (o ++ ·)) (h0 : mark h s ≠ 0) (hm : mark h s ≠ a + 1) : x = none := by
  rw [e, choose, if_neg h0, if_neg hm]
  rfl
theorem ch_end {h side a : Nat} {o : List Tx} {x : Option (List Tx)} (e : x = (choose h side a []).map (o ++ ·)) : x = if a = 0 then some o else none := by
  rw [e, choose]
  split
  · simp
  · rfl
theorem mark_le (h : Nat) (s : Tx) : mark h s ≤ 4 := by
  unfold mark
  repeat' split
  all_goals omega
theorem rd_none (w : World) : Rd w (.slice none 0 0) [] := ⟨none, 0, rfl, Nat.le_refl _, Or.inl rfl⟩
/-- What Choose answers. -/
def ChOk (w : World) (x : Option (List Tx)) (e : Ending) (w' : World) : Prop := ∃ v', e = .returned (.tuple #[v', .int .i64 (if x.isSome then 0 else 6)]) ∧ Rd w' v' (x.getD []) ∧ Below w.heap.size w w'
theorem ChOk.none_ {w w' : World} {x : Option (List Tx)} (hx : x = none) (b : Below w.heap.size w w') : ChOk w x (.returned (.tuple #[.slice none 0 0, .int .i64 6])) w' := by
  subst hx
  exact ⟨_, rfl, rd_none _, b⟩
theorem ChOk.some_ {w w' : World} {x : Option (List Tx)} {o : List Tx} {v : Value} (hx : x = some o) (hr : Rd w' v o) (b : Below w.heap.size w w') : ChOk w x (.returned (.tuple #[v, .int .i64 0])) w' := by
  subst hx
  exact ⟨_, rfl, hr, b⟩

set_option maxHeartbeats 3200000 in
set_option maxRecDepth 100000 in
theorem choose_any (n : Int) (side : Nat) (v : Value) (l : List Tx) (w : World) (hr : Rd w v l) (s1 : 1 ≤ side) (s3 : side ≤ 3) (hl : l.length ≤ 1000000) (hx : ∀ x ∈ l, x.length ≤ 1000000) :
    Calls Try.prog 12 #[.int .i64 n, v, .int .i64 side] w (ChOk w (choose (hold n) side 0 l)) := by
  obtain ⟨i0, hi, hz0, hz1, hz2⟩ := info_parts infoS
  have HH := Lib.hid (held_any n w)
  have hh := hold_in n
  obtain ⟨ao, ca, rfl, hca, hcells⟩ := hr
  have HC : Hid (∀ k (hk : k < l.length), ∃ b o, ao = some ⟨b, o, none⟩ ∧ b < w.heap.size ∧ w.cell? ⟨b, o + k, none⟩ = some (.string (S l[k]))) := Lib.hid (fun k hk => by
    rcases hcells with h | ⟨b, o, rfl, hb, hc⟩
    · rw [h] at hk; exact absurd hk (Nat.not_lt_zero _)
    · exact ⟨b, o, rfl, hb, hc k _ (List.getElem?_eq_getElem hk)⟩)
  have HX := Lib.hid hx
  clear hcells hx hca
  generalize hold n = h at *
  obtain ⟨X, hX⟩ : ∃ X, choose h side 0 l = X := ⟨_, rfl⟩
  have H0 : Hid (X = (choose h side 0 (l.drop 0)).map ([] ++ ·)) := Lib.hid (by rw [List.drop_zero, hX, map_id'])
  rw [hX]
  clear hX
  have d1 : decide ((side : Int) < 1) = false := decide_eq_false (by omega)
  have d2 : decide ((side : Int) > 3) = false := decide_eq_false (by omega)
  go_enter Try.func12, Try.ntmps12
  go_wp2_with fail
  refine HH.out.mono ?_
  rintro e w1 ⟨rfl, rfl⟩
  clear HH
  go_wp2_with fail
  go_loopw [8, 9, 22] (fun out a i wr => ∃ (k q : Nat) (o : List Tx), k ≤ l.length ∧ o.length ≤ k ∧ q ≤ 3 ∧ i = .int .i64 k ∧ a = .int .i64 q ∧ wr.ownsRow w.heap.size 9 1 out o.length (o.map encStr) ∧ Below w.heap.size w wr ∧ Hid (X = (choose h side q (l.drop k)).map (o ++ ·))) (fun _ _ i _ => l.length - (intOf i).toNat)
  case atStart => exact ⟨0, 0, [], Nat.zero_le _, Nat.le_refl _, by omega, rfl, rfl, World.ownsRow_nil _ _ _ _, Below.refl _ _, H0⟩
  case round =>
    clear H0
    obtain ⟨k, q, o, hk, ho, hq, rfl, rfl, hown, hb, HR⟩ := hrel
    have hB := hb.size
    by_cases hlt : k < l.length
    · obtain ⟨b, o', rfl, hbl, c0⟩ := HC.out k hlt
      have c1 : wr.cell? ⟨b, o' + k, none⟩ = some (.string (S l[k])) := (hb.cell (by exact hbl)).trans c0
      have hxl := HX.out _ (List.getElem_mem hlt)
      have hsx : (S l[k]).size ≤ 1000000 := by rw [S_size]; exact hxl
      have hr2 := HR.out
      rw [drop_next l k hlt] at hr2
      have HM := Lib.hid (markerOf_any (S l[k]) hsx h hh.2 hh.1 wr)
      rw [S_list] at HM
      have hm4 := mark_le h l[k]
      have i1 : (k : Int) < (l.length : Int) := by omega
      generalize l[k] = s at *
      by_cases hm0 : mark h s = 0
      · have b1 : ((mark h s : Int) - 1 == -1) = true := by rw [hm0]; rfl
        by_cases ha : q = 0 ∨ q = side
        · have HR2 := Lib.hid (ch_take hr2 hm0 ha)
          rcases ha with ha | ha
          · have b2 : ((q : Int) == 0) = true := by rw [ha]; rfl
            clear hr2 hm0 HR ha c0
            go_wp2_with fail
            refine HM.out.mono ?_
            rintro e w1 ⟨rfl, rfl⟩
            clear HM
            go_wp2_with (at_builtin; refine wpList_append_own _ rfl _ _ 24 rfl w.heap.size 9 i0 (.string ⟨#[]⟩) 1 16 Try.underlying24 hi hz0 hz1 hz2 rfl (by decide) _ _ _ rfl (hown.alloc _) ⟨wr.heap.size, 0, none⟩ 1 1 [.string (S s)] rfl rfl news1 news2 (by unfold maxLen; omega) (by omega) (by simp; omega) ?_)
            intro v' w1 hown' hgrow _
            have R := own_push hown hb hB hown' hgrow
            rw [S_list] at R
            have R1 := Lib.hid R.1
            have R2 := Lib.hid R.2
            clear R hown' hgrow hown hb
            go_wp2_with fail
            go_roundw
            case rel => exact ⟨k + 1, q, _, by omega, by simp; omega, hq, by go_num, rfl, R1.out, R2.out, HR2⟩
            case measure => simp [intOf]; omega
          · have b2 : ((q : Int) == 0) = false := by rw [beq_eq_false_iff_ne]; omega
            have b3 : ((q : Int) == (side : Int)) = true := by rw [ha]; simp
            clear hr2 hm0 HR ha c0
            go_wp2_with fail
            refine HM.out.mono ?_
            rintro e w1 ⟨rfl, rfl⟩
            clear HM
            go_wp2_with (at_builtin; refine wpList_append_own _ rfl _ _ 24 rfl w.heap.size 9 i0 (.string ⟨#[]⟩) 1 16 Try.underlying24 hi hz0 hz1 hz2 rfl (by decide) _ _ _ rfl (hown.alloc _) ⟨wr.heap.size, 0, none⟩ 1 1 [.string (S s)] rfl rfl news1 news2 (by unfold maxLen; omega) (by omega) (by simp; omega) ?_)
            intro v' w1 hown' hgrow _
            have R := own_push hown hb hB hown' hgrow
            rw [S_list] at R
            have R1 := Lib.hid R.1
            have R2 := Lib.hid R.2
            clear R hown' hgrow hown hb
            go_wp2_with fail
            go_roundw
            case rel => exact ⟨k + 1, q, _, by omega, by simp; omega, hq, by go_num, rfl, R1.out, R2.out, HR2⟩
            case measure => simp [intOf]; omega
        · have HR2 := Lib.hid (ch_drop hr2 hm0 ha)
          have b2 : ((q : Int) == 0) = false := by rw [beq_eq_false_iff_ne]; omega
          have b3 : ((q : Int) == (side : Int)) = false := by rw [beq_eq_false_iff_ne]; omega
          have R1 := Lib.hid hown
          have R2 := Lib.hid hb
          clear hr2 hm0 HR ha c0 hown hb
          go_wp2_with fail
          refine HM.out.mono ?_
          rintro e w1 ⟨rfl, rfl⟩
          clear HM
          go_wp2_with fail
          go_roundw
          case rel => exact ⟨k + 1, q, o, by omega, by omega, hq, by go_num, rfl, R1.out, R2.out, HR2⟩
          case measure => simp [intOf]; omega
      · have b1 : ((mark h s : Int) - 1 == -1) = false := by rw [beq_eq_false_iff_ne]; omega
        have R1 := Lib.hid hown
        have R2 := Lib.hid hb
        by_cases hm1 : mark h s = q + 1
        · have HR2 := Lib.hid (ch_mark hr2 hm1)
          have b2 : ((mark h s : Int) - 1 == (q : Int)) = true := by rw [hm1]; simp
          have b3 : ((q : Int) + 1).tmod 4 = (((q + 1) % 4 : Nat) : Int) := by
            rw [Int.tmod_eq_emod_of_nonneg (by omega)]; omega
          have b4 : (q + 1) % 4 ≤ 3 := by omega
          clear hr2 hm0 HR hm1 c0 hown hb
          generalize (q + 1) % 4 = q' at *
          go_wp2_with fail
          refine HM.out.mono ?_
          rintro e w1 ⟨rfl, rfl⟩
          clear HM
          go_wp2_with fail
          go_roundw
          case rel => exact ⟨k + 1, q', o, by omega, by omega, b4, by go_num, rfl, R1.out, R2.out, HR2⟩
          case measure => simp [intOf]; omega
        · have HN := Lib.hid (ch_none hr2 hm0 hm1)
          have b2 : ((mark h s : Int) - 1 == (q : Int)) = false := by rw [beq_eq_false_iff_ne]; omega
          clear hr2 hm0 HR hm1 c0 hown hb
          go_wp2_with fail
          refine HM.out.mono ?_
          rintro e w1 ⟨rfl, rfl⟩
          clear HM
          go_wp2_with fail
          go_ret2
          exact ChOk.none_ HN.out R2.out
    · obtain rfl : k = l.length := by omega
      have hr2 := HR.out
      rw [List.drop_length] at hr2
      have hr3 := ch_end hr2
      have R1 := Lib.hid (Rd.of_own hown)
      have R2 := Lib.hid hb
      clear hr2 HR hown hb
      by_cases hq0 : q = 0
      · have HN := Lib.hid (by rw [if_pos hq0] at hr3; exact hr3)
        have b1 : ((q : Int) != 0) = false := by rw [hq0]; rfl
        clear hr3
        go_wp2_with fail
        go_ret2
        exact ChOk.some_ HN.out R1.out R2.out
      · have HN := Lib.hid (by rw [if_neg hq0] at hr3; exact hr3)
        have b1 : ((q : Int) != 0) = true := by rw [bne_iff_ne]; omega
        clear hr3
        go_wp2_with fail
        go_ret2
        exact ChOk.none_ HN.out R2.out

end Go.Proofs.Ytipgofglidmffaa.Mk
