/-
  THE WALK of the statement SpanWraps; what is in an Emph, in a Link, in plain words.
-/
import Derived.Test.YtpenjdnbnacebaaDoorSpTold
namespace Go.Proofs.YtpenjdnbnacebaaDoor.Sp
open Go.RowKit
open Go.Proofs.YtpenjdnbnacebaaDoor.Tk (S S_of S_list S_size S_toList S_app ret_int eq8 ne8 at_data len_data)
open Go.Proofs.YtpenjdnbnacebaaDoor.Cm (calls_at)
open Go.Proofs.YtpenjdnbnacebaaDoor.Utf (chk goesAt goesAt_end goesAt_step nxt nx bt bt_eq ln zeroB)
set_option linter.unusedVariables false

/-! ASCII texts are texts. -/
theorem nxt_ascii (t : ByteArray) (k : Nat) (h : k < t.size) (hb : t[k].toNat ≤ 127) : (nxt t k).2 = 1 := by
  have h0 : bt t (k + 0) ≤ 127 := by rw [Nat.add_zero, bt_eq t k h]; exact hb
  have hl : ln (bt t (k + 0)) = 1 := by unfold ln; rw [if_pos h0]
  unfold nxt nx
  simp only []
  rw [hl]
  rw [if_neg (by omega), if_pos ⟨rfl, rfl⟩]
theorem goes_ascii (t : ByteArray) (h : ∀ k (hk : k < t.size), t[k].toNat ≤ 127) : ∀ n k, t.size - k ≤ n → goesAt t k = true
  | 0, k, hn => goesAt_end t k (by omega)
  | n + 1, k, hn => by
    by_cases hk : k < t.size
    · have h1 := nxt_ascii t k hk (h k hk)
      have h2 := goesAt_step t k hk (by omega)
      rw [h1] at h2
      rw [← h2]
      exact goes_ascii t h n (k + 1) (by omega)
    · exact goesAt_end t k (by omega)
theorem chk_ascii (t : ByteArray) (hs : t.size ≤ 1048576) (h : ∀ k (hk : k < t.size), 1 ≤ t[k].toNat ∧ t[k].toNat ≤ 127) : chk t = 0 := by
  have hz : zeroB t = false := by
    unfold zeroB
    apply decide_eq_false
    intro hm
    obtain ⟨i, hi, he⟩ := List.getElem_of_mem hm
    have hi' : i < t.size := by simpa using hi
    have e1 : t.data.toList[i] = t[i] := rfl
    have := (h i hi').1
    rw [← e1, he] at this
    simp at this
  unfold chk
  rw [if_neg (by omega), hz, goes_ascii t (fun k hk => (h k hk).2) t.size 0 (by omega)]
  rfl
theorem dc_range {c : UInt8} (h : dcB c = true) : 1 ≤ c.toNat ∧ c.toNat ≤ 127 := by
  unfold dcB at h
  rw [Bool.or_eq_true] at h
  rcases h with h | h
  · unfold alB at h
    simp only [Bool.or_eq_true, Bool.and_eq_true, decide_eq_true_eq] at h
    omega
  · simp only [marksL, List.any_cons, List.any_nil, Bool.or_eq_true, decide_eq_true_eq, Bool.or_false] at h
    rcases h with rfl | rfl | rfl | rfl | rfl | rfl | rfl | rfl | rfl <;> decide
theorem dest_ck {s : List UInt8} (h : dsB s = true) (hs : s.length ≤ 1000) : ckB s = true := by
  unfold ckB
  refine decide_eq_true (chk_ascii (S s) (by rw [S_size]; omega) (fun k hk => ?_))
  unfold dsB at h
  rw [Bool.and_eq_true, List.all_eq_true] at h
  apply dc_range
  apply h.1
  have := at_data (S s) k hk
  rw [S_list] at this
  exact List.mem_of_mem_drop (by rw [this]; exact List.mem_cons_self ..)
theorem ck_nil : ckB [] = true := by decide +kernel

/-! In an Emph, in a Link. -/
theorem kd_nil (q : Int) {l : List Sp} (h : l.isEmpty = true) : kdAll q l = false := by
  cases l with
  | nil => unfold kdAll; rfl
  | cons x r => simp at h
mutual
theorem okOne_emph (k : Bool) : ∀ x : Sp, okOne true k x = (okOne false k x && !kdOne 3 x)
  | .mk q s l => by
    have ih := okAll_emph k 0 l
    have ih2 := okAll_emph true 0 l
    rw [okOne, okOne, kdOne]
    by_cases q1 : q = 1
    · rw [if_pos q1, if_pos q1]
      cases hl : l.isEmpty
      · simp
      · rw [kd_nil 3 hl]; simp [q1]
    · rw [if_neg q1, if_neg q1]
      by_cases q2 : q = 2
      · rw [if_pos q2, if_pos q2]
        cases hl : l.isEmpty
        · simp
        · rw [kd_nil 3 hl]; simp [q2]
      · rw [if_neg q2, if_neg q2]
        by_cases q3 : q = 3
        · rw [if_pos q3, if_pos q3]; simp [q3]
        · rw [if_neg q3, if_neg q3]
          by_cases q4 : q = 4
          · rw [if_pos q4, if_pos q4, ih2]; simp [q4, Bool.and_assoc]
          · rw [if_neg q4, if_neg q4]; simp
theorem okAll_emph (k : Bool) (p : Int) : ∀ l : List Sp, okAll true k p l = (okAll false k p l && !kdAll 3 l)
  | [] => by simp [okAll, kdAll]
  | x :: r => by
    rw [okAll_cons, okAll_cons, kdAll_cons, okOne_emph k x, okAll_emph k x.kind r]
    cases okOne false k x <;> cases kdOne 3 x <;> cases kdAll 3 r <;> cases okAll false k x.kind r <;> simp
end
mutual
theorem okOne_link (e : Bool) : ∀ x : Sp, okOne e true x = (okOne e false x && !kdOne 4 x)
  | .mk q s l => by
    have ih := okAll_link true 0 l
    rw [okOne, okOne, kdOne]
    by_cases q1 : q = 1
    · rw [if_pos q1, if_pos q1]
      cases hl : l.isEmpty
      · simp
      · rw [kd_nil 4 hl]; simp [q1]
    · rw [if_neg q1, if_neg q1]
      by_cases q2 : q = 2
      · rw [if_pos q2, if_pos q2]
        cases hl : l.isEmpty
        · simp
        · rw [kd_nil 4 hl]; simp [q2]
      · rw [if_neg q2, if_neg q2]
        by_cases q3 : q = 3
        · rw [if_pos q3, if_pos q3, ih]; simp [q3, Bool.and_assoc]
        · rw [if_neg q3, if_neg q3]
          by_cases q4 : q = 4
          · rw [if_pos q4, if_pos q4]; simp [q4]
          · rw [if_neg q4, if_neg q4]; simp
theorem okAll_link (e : Bool) (p : Int) : ∀ l : List Sp, okAll e true p l = (okAll e false p l && !kdAll 4 l)
  | [] => by simp [okAll, kdAll]
  | x :: r => by
    rw [okAll_cons, okAll_cons, kdAll_cons, okOne_link e x, okAll_link e x.kind r]
    cases okOne e false x <;> cases kdOne 4 x <;> cases kdAll 4 r <;> cases okAll e false x.kind r <;> simp
end
theorem rt_all {l : List Sp} (h : rtB l = true) : okAll false false 0 l = true := by unfold rtB at h; rw [Bool.and_eq_true] at h; exact h.1
theorem rt_single (q : Int) (s : List UInt8) (l : List Sp) (h : q ≠ 1) (h0 : q ≠ 0) : rtB [.mk q s l] = okOne false false (.mk q s l) := by
  have e : endB [.mk q s l] = true := by
    unfold endB
    simp only [List.head?_cons, List.getLast?_singleton, Option.elim_some]
    unfold hdB ltB
    simp [Sp.kind, h]
  have hk : ¬ ((Sp.mk q s l).kind = 0) := h0
  unfold rtB
  rw [e, okAll_cons, decide_eq_false hk]
  simp [okAll]
theorem emph_rt {l : List Sp} (h : rtB l = true) : rtB [.mk 3 [] l] = (!l.isEmpty && !kdAll 3 l) := by
  rw [rt_single 3 [] l (by decide) (by decide), okOne, if_neg (by decide), if_neg (by decide), if_pos rfl, ck_nil, okAll_emph, rt_all h]
  simp
theorem link_rt {l : List Sp} {s : List UInt8} (h : rtB l = true) (hs : s.length ≤ 1000) : rtB [.mk 4 s l] = (!l.isEmpty && (!kdAll 4 l && dsB s)) := by
  rw [rt_single 4 s l (by decide) (by decide), okOne, if_neg (by decide), if_neg (by decide), if_neg (by decide), if_pos rfl, okAll_link, rt_all h]
  cases hd : dsB s
  · simp
  · rw [dest_ck hd hs]; simp

end Go.Proofs.YtpenjdnbnacebaaDoor.Sp
