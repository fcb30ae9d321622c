/-
  THE WALK of the statement SpanWraps; what is in an Emph, in a Link, in plain words.
-/
import Derived.Test.YtjgaggikgjibiaaSpTold
namespace Go.Proofs.Ytjgaggikgjibiaa.Sp
open Go.RowKit
open Go.Proofs.Ytjgaggikgjibiaa.Tk (S S_of S_list S_size S_toList S_app ret_int eq8 ne8 at_data len_data)
open Go.Proofs.Ytjgaggikgjibiaa.Cm (calls_at)
open Go.Proofs.Ytjgaggikgjibiaa.Utf (chk goesAt goesAt_end goesAt_step nxt nx bt bt_eq ln zeroB)
set_option linter.unusedVariables false

/-! ASCII texts are texts. -/
theorem nxt_ascii (t : ByteArray) (k : Nat) (h : k < t.size) (hb : t[k].toNat ≤ 127) : (nxt t k).2 = 1 := by
  have h0 : bt t (k + 0) ≤ 127 := by rw [Nat.add_zero, bt_eq t k h]; exact hb
  have hl : ln (bt t (k + 0)) = 1 := by unfold ln; rw [if_pos h0]
  unfold nxt nx
  simp only []
  rw [hl]
  rw [if_neg (by omega), if_pos ⟨rfl, rfl⟩]
theorem goes_ascii (t : ByteArray) (h : ∀ k (hk : k < t.size), t[k].toNat ≤ 127) : ∀ n k, t.size - k ≤ n → goesAt t k = true
  | 0, k, hn => goesAt_end t k (by omega)
  | n + 1, k, hn => by
    by_cases hk : k < t.size
    · have h1 := nxt_ascii t k hk (h k hk)
      have h2 := goesAt_step t k hk (by omega)
      rw [h1] at h2
      rw [← h2]
      exact goes_ascii t h n (k + 1) (by omega)
    · exact goesAt_end t k (by omega)
theorem chk_ascii (t : ByteArray) (hs : t.size ≤ 1048576) (h : ∀ k (hk : k < t.size), 1 ≤ t[k].toNat ∧ t[k].toNat ≤ 127) : chk t = 0 := by
  have hz : zeroB t = false := by
    unfold zeroB
    apply decide_eq_false
    intro hm
    obtain ⟨i, hi, he⟩ := List.getElem_of_mem hm
    have hi' : i < t.size := by simpa using hi
    have e1 : t.data.toList[i] = t[i] := rfl
    have := (h i hi').1
    rw [← e1, he] at this
    simp at this
  unfold chk
  rw [if_neg (by omega), hz, goes_ascii t (fun k hk => (h k hk).2) t.size 0 (by omega)]
  rfl
theorem dc_range {c : UInt8} (h : dcB c = true) : 1 ≤ c.toNat ∧ c.toNat ≤ 127 := by
  unfold dcB at h
  rw [Bool.or_eq_true] at h
  rcases h with h | h
  · unfold alB at h
    simp only [Bool.or_eq_true, Bool.and_eq_true, decide_eq_true_eq] at h
    omega
  · simp only [marksL, List.any_cons, List.any_nil, Bool.or_eq_true, decide_eq_true_eq, Bool.or_false] at h
    rcases h with rfl | rfl | rfl | rfl | rfl | rfl | rfl | rfl | rfl <;> decide
theorem dest_ck {s : List UInt8} (h : dsB s = true) (hs : s.length ≤ 1000) : ckB s = true := by
  unfold ckB
  refine decide_eq_true (chk_ascii (S s) (by rw [S_size]; omega) (fun k hk => ?_))
  unfold dsB at h
  rw [Bool.and_eq_true, List.all_eq_true] at h
  apply dc_range
  apply h.1
  have := at_data (S s) k hk
  rw [S_list] at this
  exact List.mem_of_mem_drop (by rw [this]; exact List.mem_cons_self ..)
theorem ck_nil : ckB [] = true := by decide +kernel

/-! In an Emph, in a Link. -/
theorem kd_nil (q : Int) {l : List Sp} (h : l.isEmpty = true) : kdAll q l = false := by
  cases l with
  | nil => unfold kdAll; rfl
  | cons x r => simp at h
mutual
theorem okOne_emph (k : Bool) : ∀ x : Sp, okOne true k x = (okOne false k x && !kdOne 3 x)
  | .mk q s l => by
    have ih := okAll_emph k 0 l
    have ih2 := okAll_emph true 0 l
    rw [okOne, okOne, kdOne]
    by_cases q1 : q = 1
    · rw [if_pos q1, if_pos q1]
      cases hl : l.isEmpty
      · simp
      · rw [kd_nil 3 hl]; simp [q1]
    · rw [if_neg q1, if_neg q1]
      by_cases q2 : q = 2
      · rw [if_pos q2, if_pos q2]
        cases hl : l.isEmpty
        · simp
        · rw [kd_nil 3 hl]; simp [q2]
      · rw [if_neg q2, if_neg q2]
        by_cases q3 : q = 3
        · rw [if_pos q3, if_pos q3]; simp [q3]
        · rw [if_neg q3, if_neg q3]
          by_cases q4 : q = 4
          · rw [if_pos q4, if_pos q4, ih2]; simp [q4, Bool.and_assoc]
          · rw [if_neg q4, if_neg q4]; simp
theorem okAll_emph (k : Bool) (p : Int) : ∀ l : List Sp, okAll true k p l = (okAll false k p l && !kdAll 3 l)
  | [] => by simp [okAll, kdAll]
  | x :: r => by
    rw [okAll_cons, okAll_cons, kdAll_cons, okOne_emph k x, okAll_emph k x.kind r]
    cases okOne false k x <;> cases kdOne 3 x <;> cases kdAll 3 r <;> cases okAll false k x.kind r <;> simp
end
mutual
theorem okOne_link (e : Bool) : ∀ x : Sp, okOne e true x = (okOne e false x && !kdOne 4 x)
  | .mk q s l => by
    have ih := okAll_link true 0 l
    rw [okOne, okOne, kdOne]
    by_cases q1 : q = 1
    · rw [if_pos q1, if_pos q1]
      cases hl : l.isEmpty
      · simp
      · rw [kd_nil 4 hl]; simp [q1]
    · rw [if_neg q1, if_neg q1]
      by_cases q2 : q = 2
      · rw [if_pos q2, if_pos q2]
        cases hl : l.isEmpty
        · simp
        · rw [kd_nil 4 hl]; simp [q2]
      · rw [if_neg q2, if_neg q2]
        by_cases q3 : q = 3
        · rw [if_pos q3, if_pos q3, ih]; simp [q3, Bool.and_assoc]
        · rw [if_neg q3, if_neg q3]
          by_cases q4 : q = 4
          · rw [if_pos q4, if_pos q4]; simp [q4]
          · rw [if_neg q4, if_neg q4]; simp
theorem okAll_link (e : Bool) (p : Int) : ∀ l : List Sp, okAll e true p l = (okAll e false p l && !kdAll 4 l)
  | [] => by simp [okAll, kdAll]
  | x :: r => by
    rw [okAll_cons, okAll_cons, kdAll_cons, okOne_link e x, okAll_link e x.kind r]
    cases okOne e false x <;> cases kdOne 4 x <;> cases kdAll 4 r <;> cases okAll e false x.kind r <;> simp
end
theorem rt_all {l : List Sp} (h : rtB l = true) : okAll false false 0 l = true := by unfold rtB at h; rw [Bool.and_eq_true] at h; exact h.1
theorem rt_single (q : Int) (s : List UInt8) (l : List Sp) (h : q ≠ 1) (h0 : q ≠ 0) : rtB [.mk q s l] = okOne false false (.mk q s l) := by
  have e : endB [.mk q s l] = true := by
    unfold endB
    simp only [List.head?_cons, List.getLast?_singleton, Option.elim_some]
    unfold hdB ltB
    simp [Sp.kind, h]
  have hk : ¬ ((Sp.mk q s l).kind = 0) := h0
  unfold rtB
  rw [e, okAll_cons, decide_eq_false hk]
  simp [okAll]
theorem emph_rt {l : List Sp} (h : rtB l = true) : rtB [.mk 3 [] l] = (!l.isEmpty && !kdAll 3 l) := by
  rw [rt_single 3 [] l (by decide) (by decide), okOne, if_neg (by decide), if_neg (by decide), if_pos rfl, ck_nil, okAll_emph, rt_all h]
  simp
theorem link_rt {l : List Sp} {s : List UInt8} (h : rtB l = true) (hs : s.length ≤ 1000) : rtB [.mk 4 s l] = (!l.isEmpty && (!kdAll 4 l && dsB s)) := by
  rw [rt_single 4 s l (by decide) (by decide), okOne, if_neg (by decide), if_neg (by decide), if_neg (by decide), if_pos rfl, okAll_link, rt_all h]
  cases hd : dsB s
  · simp
  · rw [dest_ck hd hs]; simp

set_option maxHeartbeats 3200000 in
set_option maxRecDepth 100000 in
theorem spanWraps_walk (K : Told) (w : World) (vl : Value) (l : List Sp) (rl : Tr w vl l) (fl : fitAll reachBytes l) (s : ByteArray) (hs : s.size ≤ maxLen) (hr : s.size ≤ reachBytes) :
    Calls Try.prog 6 #[vl, .string s] w (OkAns w true) := by
  obtain ⟨al, cl, rfl⟩ := rl.len
  have HA := Lib.hid (awake7_any K)
  have RL := Lib.hid rl
  have FL := Lib.hid (fun w' (h : Below w.heap.size w w') => few7_any l _ w' (RL.out.below h) fl)
  have hrb : reachBytes ≤ 140737488355328 := by decide
  clear rl hs
  go_enter Try.func6, Try.ntmps6
  go_wp2_with fail
  refine (HA.out _).mono ?_
  rintro e w2 ⟨rfl, b2⟩
  have H2 := Lib.hid b2
  clear b2
  go_wp2_with fail
  refine (FL.out _ H2.out).mono ?_
  rintro e w3 ⟨rfl, rfl⟩
  clear FL
  cases hf : fewB l with
  | false =>
    go_wp2_with fail
    refine (HA.out _).mono ?_
    rintro e w4 ⟨rfl, b4⟩
    have H4 := Lib.hid (H2.out.trans (b4.mono H2.out.size))
    clear b4
    go_wp2_with fail
    go_ret
    exact ⟨rfl, H4.out⟩
  | true =>
    by_cases hl : s.size ≤ 1000
    · have tl := (few_of hf).1
      have S1 := Lib.hid (fun w' (h : Below w.heap.size w w') => K.right _ l w' (RL.out.below h) (by omega) (fit_reach fl))
      go_wp2_with fail
      refine (S1.out _ H2.out).mono ?_
      rintro e w3 ⟨rfl, b3⟩
      have H3 := Lib.hid (H2.out.trans (b3.mono H2.out.size))
      clear b3 S1
      cases hrt : rtB l with
      | false =>
        go_wp2_with fail
        refine (HA.out _).mono ?_
        rintro e w4 ⟨rfl, b4⟩
        have H4 := Lib.hid (H3.out.trans (b4.mono H3.out.size))
        clear b4
        go_wp2_with fail
        go_ret
        exact ⟨rfl, H4.out⟩
      | true =>
        have hsl : s.data.toList.length ≤ 1000 := by rw [len_data]; exact hl
        have f3 : fitAll 140737488355328 [Sp.mk 3 [] l] := by
          unfold fitAll fitOne
          exact ⟨⟨by omega, by simp, fit_reach fl⟩, by unfold fitAll; trivial⟩
        have f4 : fitAll 140737488355328 [Sp.mk 4 s.data.toList l] := by
          unfold fitAll fitOne
          exact ⟨⟨by omega, by omega, fit_reach fl⟩, by unfold fitAll; trivial⟩
        have t3 : totAll [Sp.mk 3 [] l] ≤ 20000 := by rw [totAll_cons, totOne_eq]; simp [Sp.s, Sp.kids, totAll]; omega
        have t4 : totAll [Sp.mk 4 s.data.toList l] ≤ 20000 := by rw [totAll_cons, totOne_eq]; simp [Sp.s, Sp.kids, totAll]; omega
        have SE : Hid (∀ w', Below w.heap.size w w' → Calls Try.prog 12 #[.slice (some ⟨w'.heap.size, 0, none⟩) 1 1] (w'.alloc (.cells #[.int .i64 3, .string ⟨#[]⟩, .slice al l.length cl] 31)) (OkAns (w'.alloc (.cells #[.int .i64 3, .string ⟨#[]⟩, .slice al l.length cl] 31)) (!l.isEmpty && !kdAll 3 l))) := Lib.hid (fun w' h => by
          have := K.right _ _ _ (tr_one (q := 3) (s := []) (RL.out.below h) 31) t3 f3
          rw [emph_rt hrt] at this
          exact this)
        have SL : Hid (∀ w', Below w.heap.size w w' → Calls Try.prog 12 #[.slice (some ⟨w'.heap.size, 0, none⟩) 1 1] (w'.alloc (.cells #[.int .i64 4, .string s, .slice al l.length cl] 31)) (OkAns (w'.alloc (.cells #[.int .i64 4, .string s, .slice al l.length cl] 31)) (!l.isEmpty && (!kdAll 4 l && dsB s.data.toList)))) := Lib.hid (fun w' h => by
          have := K.right _ _ _ (tr_one (q := 4) (s := s.data.toList) (RL.out.below h) 31) t4 f4
          rw [link_rt hrt hsl, S_of] at this
          exact this)
        have K3 := Lib.hid (fun w' (h : Below w.heap.size w w') => kind_any (totAll l) l 3 _ w' (Nat.le_refl _) (RL.out.below h))
        have K4 := Lib.hid (fun w' (h : Below w.heap.size w w') => kind_any (totAll l) l 4 _ w' (Nat.le_refl _) (RL.out.below h))
        have SD := Lib.hid (fun w' => dest_any s (by omega) w')
        have g2 := gt_len l
        have hln : l.isEmpty = true → l.length = 0 := fun h => by simpa using h
        have hln2 : l.isEmpty = false → 0 < l.length := fun h => by
          cases l with
          | nil => simp at h
          | cons a r => simp
        clear f3 f4 t3 t4 tl hf fl HA RL hrt hsl
        generalize kdAll 3 l = y3 at *
        generalize kdAll 4 l = y4 at *
        generalize dsB s.data.toList = yd at *
        generalize l.isEmpty = em at *
        generalize l.length = ln at *
        go_wp2_with fail
        refine (SE.out _ H3.out).mono ?_
        rintro e w4 ⟨rfl, b4⟩
        have H4 := Lib.hid (H3.out.trans ((((Below.refl w3.heap.size w3).alloc (Nat.le_refl _) _).trans (b4.mono (by simp))).mono H3.out.size))
        clear b4 SE
        go_wp2_with fail
        refine (SL.out _ H4.out).mono ?_
        rintro e w5 ⟨rfl, b5⟩
        have H5 := Lib.hid (H4.out.trans ((((Below.refl w4.heap.size w4).alloc (Nat.le_refl _) _).trans (b5.mono (by simp))).mono H4.out.size))
        clear b5 SL
        cases em with
        | true =>
          have hz := hln rfl
          go_wp2_with fail
          go_ret
          exact ⟨rfl, H5.out⟩
        | false =>
          have hz := hln2 rfl
          have eb : ∀ b : Bool, (b == b) = true := fun b => by simp
          cases y3 <;> cases y4 <;> cases yd
          all_goals (
            go_wp2_with fail
            refine (K3.out _ H5.out).mono ?_
            rintro e w6 ⟨rfl, rfl⟩
            go_wp2_with fail
            refine (K4.out _ H5.out).mono ?_
            rintro e w6 ⟨rfl, rfl⟩
            go_wp2_with fail
            first
              | (go_ret
                 exact ⟨rfl, H5.out⟩)
              | (refine (SD.out _).mono ?_
                 rintro e w6 ⟨rfl, rfl⟩
                 go_wp2_with fail
                 go_ret
                 exact ⟨rfl, H5.out⟩))
    · have d2 : decide ((s.size : Int) > 1000) = true := decide_eq_true (by omega)
      go_wp2_with fail
      refine (HA.out _).mono ?_
      rintro e w4 ⟨rfl, b4⟩
      have H4 := Lib.hid (H2.out.trans (b4.mono H2.out.size))
      clear b4
      go_wp2_with fail
      go_ret
      exact ⟨rfl, H4.out⟩

end Go.Proofs.Ytjgaggikgjibiaa.Sp
