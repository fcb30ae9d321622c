/-
  SPANS IN NORMAL FORM, in plain words: what is written of them is a clean text. No program.
-/
import Derived.Test.YtjgmfgnfdaeelaaGreatDoorSoTidy
import Derived.Test.YtjgmfgnfdaeelaaGreatDoorPkD
namespace Go.Proofs.YtjgmfgnfdaeelaaGreatDoor.Sp
open Go.Proofs.YtjgmfgnfdaeelaaGreatDoor.Tk (S S_of S_list S_size S_toList S_app cls at_data len_data)
open Go.Proofs.YtjgmfgnfdaeelaaGreatDoor.Utf (chk_zero_iff zeroB)
set_option linter.unusedVariables false

theorem wr1_head {e k : Bool} {x : Sp} (h : okOne e k x = true) : ∃ a, (wr1 x).head? = some a ∧ (hdB x = true → edB a = false) := by
  by_cases hx : x.kind = 1
  · have hs := okOne_text h hx
    rw [wr1_at, if_pos hx]
    unfold hdB
    cases hxs : x.s with
    | nil => exact absurd hxs hs
    | cons d r =>
      refine ⟨_, head_esc d r, fun hh => ?_⟩
      rw [decide_eq_true hx] at hh
      split
      · exact ed92
      · simpa using hh
  · obtain ⟨a, _, ha, _, he, _⟩ := (wr1_gd e k x h).2 hx
    exact ⟨a, ha, fun _ => he⟩
theorem wr1_last {e k : Bool} {x : Sp} (h : okOne e k x = true) : ∃ z, (wr1 x).getLast? = some z ∧ (ltB x = true → edB z = false) := by
  by_cases hx : x.kind = 1
  · have hs := okOne_text h hx
    rw [wr1_at, if_pos hx, last_esc]
    unfold ltB
    cases hz : x.s.getLast? with
    | none => rw [List.getLast?_eq_none_iff] at hz; exact absurd hz hs
    | some z =>
      refine ⟨z, rfl, fun hh => ?_⟩
      rw [decide_eq_true hx, List.getLastD_eq_getLast?, hz] at hh
      simpa using hh
  · obtain ⟨_, z, _, hz, _, he⟩ := (wr1_gd e k x h).2 hx
    exact ⟨z, hz, fun _ => he⟩
theorem wrs_end (x : Sp) : ∀ r : List Sp, wrs (r ++ [x]) = wrs r ++ wr1 x
  | [] => by rw [List.nil_append, wrs_at]; simp [wrs]
  | y :: r => by rw [List.cons_append, wrs_at, wrs_at, wrs_end x r, List.append_assoc]
theorem wrs_head_ed {l : List Sp} (h : rtB l = true) : ∀ y, (wrs l).head? = some y → edB y = false := by
  intro y hy
  unfold rtB endB at h
  rw [Bool.and_eq_true, Bool.and_eq_true] at h
  obtain ⟨ho, h1, _⟩ := h
  cases l with
  | nil => rw [wrs] at hy; cases hy
  | cons x r =>
    obtain ⟨a, ha, he⟩ := wr1_head (okAll_mem ho x (List.mem_cons_self ..))
    rw [wrs_at, List.head?_append, ha] at hy
    rw [← Option.some.inj hy]
    exact he h1
theorem wrs_last_ed {l : List Sp} (h : rtB l = true) : ∀ y, (wrs l).getLast? = some y → edB y = false := by
  intro y hy
  unfold rtB endB at h
  rw [Bool.and_eq_true, Bool.and_eq_true] at h
  obtain ⟨ho, _, h2⟩ := h
  rcases List.eq_nil_or_concat l with rfl | ⟨r, x, hrx⟩
  · rw [wrs] at hy; cases hy
  · rw [List.concat_eq_append] at hrx
    subst hrx
    obtain ⟨z, hz, he⟩ := wr1_last (okAll_mem ho x (List.mem_append_right _ (List.mem_singleton.2 rfl)))
    rw [wrs_end, List.getLast?_append, hz] at hy
    rw [← Option.some.inj hy]
    apply he
    rw [List.getLast?_append] at h2
    exact h2
theorem bad_of_pr {a b : UInt8} (h : prB a b = false) : ((b == 10 && edB a) || (a == 10 && edB b)) = false := by
  have e : ∀ a : UInt8, (a == 10) = decide (a = 10) := fun a => by rw [Bool.eq_iff_iff, beq_iff_eq, decide_eq_true_iff]
  rw [e, e]
  unfold prB at h
  unfold edB
  generalize spB a = sa at *
  generalize spB b = sb at *
  generalize decide (a = 10) = da at *
  generalize decide (b = 10) = db at *
  revert h
  cases sa <;> cases sb <;> cases da <;> cases db <;> decide
theorem cln_of {s : ByteArray} (hW : Wt s.data.toList) (hX : txB s.data.toList = true) (h0 : ∀ y, s.data.toList.head? = some y → edB y = false) (h1 : ∀ y, s.data.toList.getLast? = some y → edB y = false) (hsz : s.size ≤ 100000) : clnB s = true := by
  unfold clnB
  rw [Bool.and_eq_true, decide_eq_true_iff, List.all_eq_true]
  refine ⟨(chk_zero_iff s).2 ⟨by omega, by unfold zeroB; exact decide_eq_false hW.2.1, by have := hW.1; unfold V at this; rwa [S_of] at this⟩, fun k hk => ?_⟩
  have hk : k < s.size := List.mem_range.1 hk
  have hm : s[k] ∈ s.data.toList := List.mem_of_mem_drop (i := k) (by rw [at_data s k hk]; exact List.mem_cons_self ..)
  have hb : badI s k = false := by
    unfold badI
    rw [dif_pos hk, Bool.or_eq_false_iff, Bool.or_eq_false_iff]
    refine ⟨⟨beq_eq_false_iff_ne.2 (fun e => hW.2.2 (by rw [← e]; exact hm)), ?_⟩, ?_⟩
    · by_cases hk0 : k = 0
      · subst hk0
        rw [h0 _ (head_data s hk)]
        simp
      · by_cases hk1 : k = s.size - 1
        · subst hk1
          rw [h1 _ (last_data s hk)]
          simp
        · rw [beq_eq_false_iff_ne.2 hk0, beq_eq_false_iff_ne.2 hk1]
          rfl
    · by_cases hk0 : 0 < k
      · have htx := txB_drop (s.data.toList.take (k - 1)) (t := s.data.toList.drop (k - 1)) (by rw [List.take_append_drop]; exact hX)
        have ek : k - 1 + 1 = k := by omega
        have hd := at_data s (k - 1) (by omega)
        rw [ek] at hd
        rw [hd, at_data s k hk, txB_pr, Bool.and_eq_true, Bool.not_eq_true'] at htx
        rw [bad_of_pr htx.1, Bool.and_false]
      · rw [decide_eq_false hk0, Bool.false_and]
  rw [hb]
  rfl
theorem written_clean {l : List Sp} (h : rtB l = true) (hl : (wrs l).length ≤ 100000) : clnB (S (wrs l)) = true := by
  have hg := (wrs_gd false false 0 l (by unfold rtB at h; rw [Bool.and_eq_true] at h; exact h.1)).1
  exact cln_of (by rw [S_list]; exact hg.1) (by rw [S_list]; exact hg.2) (by rw [S_list]; exact wrs_head_ed h) (by rw [S_list]; exact wrs_last_ed h) (by rw [S_size]; exact hl)

end Go.Proofs.YtjgmfgnfdaeelaaGreatDoor.Sp
