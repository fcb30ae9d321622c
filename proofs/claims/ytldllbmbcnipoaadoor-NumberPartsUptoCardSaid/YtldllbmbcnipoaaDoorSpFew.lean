/-
  HOW MANY SPANS THERE ARE: the document's spend and Size, the statements' few: contracts, and what they tell.
-/
import Derived.Test.YtldllbmbcnipoaaDoorSpTree
namespace Go.Proofs.YtldllbmbcnipoaaDoor.Sp
open Go.RowKit
open Go.Proofs.YtldllbmbcnipoaaDoor.Tk (S S_of S_list S_size ret_int)
open Go.Proofs.YtldllbmbcnipoaaDoor.Cm (calls_at)
set_option linter.unusedVariables false

mutual
def spOne (deep : Nat) (left n : Int) : Sp → Int
  | .mk _ s l => n + 1 + s.length + spAll (deep - 1) (left - (n + 1 + s.length)) 0 l
def spAll (deep : Nat) (left n : Int) : List Sp → Int
  | [] => n
  | x :: r => if deep = 0 ∨ left ≤ n then n + 1000000 else spAll deep left (spOne deep left n x) r
end
theorem spOne_eq (deep : Nat) (left n : Int) (x : Sp) : spOne deep left n x = n + 1 + x.s.length + spAll (deep - 1) (left - (n + 1 + x.s.length)) 0 x.kids := by
  obtain ⟨k, s, l⟩ := x
  unfold spOne
  rfl
theorem spAll_cons (deep : Nat) (left n : Int) (x : Sp) (r : List Sp) : spAll deep left n (x :: r) = if deep = 0 ∨ left ≤ n then n + 1000000 else spAll deep left (spOne deep left n x) r := by rw [spAll]
mutual
theorem spOne_ge (deep : Nat) (left n : Int) : ∀ x : Sp, n + 1 ≤ spOne deep left n x
  | .mk k s l => by
    unfold spOne
    have := spAll_ge (deep - 1) (left - (n + 1 + s.length)) 0 l
    omega
theorem spAll_ge (deep : Nat) (left n : Int) : ∀ l : List Sp, n ≤ spAll deep left n l
  | [] => by unfold spAll; omega
  | x :: r => by
    rw [spAll_cons]
    have h1 := spOne_ge deep left n x
    have h2 := spAll_ge deep left (spOne deep left n x) r
    split <;> omega
end
/-- Where nothing is left, it ends. -/
theorem spAll_cut {deep : Nat} {left n : Int} (h : left ≤ n) (l : List Sp) : spAll deep left n l ≤ n + 1000000 := by
  cases l with
  | nil => unfold spAll; omega
  | cons x r => rw [spAll_cons, if_pos (Or.inr h)]; omega
mutual
theorem spOne_le (deep : Nat) (left n : Int) (h : left ≤ 5000) (h0n : 0 ≤ n) (hn : n < left) (hd : 0 < deep) : ∀ x : Sp, fitOne reachBytes x → spOne deep left n x ≤ 5001 + 140737488355328 + 1000000 + deep * 140737492355328
  | .mk k s l, hf => by
    unfold spOne
    unfold fitOne at hf
    have hs := hf.2.1
    have hr : reachBytes ≤ 140737488355328 := by decide
    have := spAll_le (deep - 1) (left - (n + 1 + s.length)) 0 (by omega) (by omega) l hf.2.2
    have e : ((deep - 1 : Nat) : Int) + 1 = deep := by omega
    have e2 : (((deep - 1 : Nat) : Int) + 1) * 140737492355328 = deep * 140737492355328 := by rw [e]
    by_cases h0 : (0 : Int) < left - (n + 1 + s.length)
    · have := this h0
      omega
    · have h3 := spAll_cut (deep := deep - 1) (left := left - (n + 1 + s.length)) (n := 0) (by omega) l
      have h4 : 0 ≤ (deep : Int) * 140737492355328 := by omega
      omega
theorem spAll_le (deep : Nat) (left n : Int) (h : left ≤ 5000) (h0n : 0 ≤ n) : ∀ l : List Sp, fitAll reachBytes l → n < left → spAll deep left n l ≤ (deep + 1) * 140737492355328
  | [], _, hn => by unfold spAll; have : 0 ≤ (deep : Int) * 140737492355328 := by omega
                    omega
  | x :: r, hf, hn => by
    unfold fitAll at hf
    rw [spAll_cons]
    have h4 : 0 ≤ (deep : Int) * 140737492355328 := by omega
    split
    · omega
    · rename_i hc
      have hd : 0 < deep := by omega
      have h1 := spOne_le deep left n h h0n hn hd x hf.1
      have h1g := spOne_ge deep left n x
      by_cases h2 : spOne deep left n x < left
      · exact spAll_le deep left (spOne deep left n x) h (by omega) r hf.2 h2
      · have h3 := spAll_cut (deep := deep) (left := left) (n := spOne deep left n x) (by omega) r
        omega
end

/-! What a small number tells. -/
mutual
def totOne : Sp → Nat
  | .mk _ s l => 1 + s.length + totAll l
def totAll : List Sp → Nat
  | [] => 0
  | x :: r => totOne x + totAll r
end
theorem totOne_eq (x : Sp) : totOne x = 1 + x.s.length + totAll x.kids := by obtain ⟨k, s, l⟩ := x; unfold totOne; rfl
theorem totAll_cons (x : Sp) (r : List Sp) : totAll (x :: r) = totOne x + totAll r := by rw [totAll]
theorem totAll_mem : ∀ {l : List Sp} {x : Sp}, x ∈ l → totOne x ≤ totAll l
  | [], x, h => by cases h
  | y :: r, x, h => by
    rw [totAll_cons]
    rcases List.mem_cons.1 h with rfl | h
    · omega
    · have := totAll_mem h; omega
theorem totAll_kids {l : List Sp} {x : Sp} (h : x ∈ l) : totAll x.kids < totAll l := by
  have h1 := totAll_mem h
  rw [totOne_eq] at h1
  omega
theorem totAll_len : ∀ l : List Sp, l.length ≤ totAll l
  | [] => Nat.zero_le _
  | x :: r => by
    have := totAll_len r
    rw [totAll_cons, totOne_eq, List.length_cons]
    omega
theorem totAll_app : ∀ l m : List Sp, totAll (l ++ m) = totAll l + totAll m
  | [], m => by rw [List.nil_append, totAll]; omega
  | x :: r, m => by rw [List.cons_append, totAll_cons, totAll_cons, totAll_app r m]; omega
mutual
/-- No deeper than d. -/
def dpOne (d : Nat) : Sp → Prop
  | .mk _ _ l => dpAll (d - 1) l
def dpAll (d : Nat) : List Sp → Prop
  | [] => True
  | x :: r => 0 < d ∧ dpOne d x ∧ dpAll d r
end
mutual
theorem spOne_small (deep : Nat) (left n : Int) (hn : 0 ≤ n) : ∀ x : Sp, spOne deep left n x < 1000000 → spOne deep left n x = n + totOne x ∧ dpOne deep x
  | .mk k s l, h => by
    unfold spOne at h ⊢
    have h0 := spAll_ge (deep - 1) (left - (n + 1 + s.length)) 0 l
    obtain ⟨h1, h2⟩ := spAll_small (deep - 1) (left - (n + 1 + s.length)) 0 (by omega) l (by omega)
    unfold totOne dpOne
    refine ⟨by omega, h2⟩
theorem spAll_small (deep : Nat) (left n : Int) (hn : 0 ≤ n) : ∀ l : List Sp, spAll deep left n l < 1000000 → spAll deep left n l = n + totAll l ∧ dpAll deep l
  | [], h => by unfold spAll totAll dpAll; exact ⟨by omega, trivial⟩
  | x :: r, h => by
    rw [spAll_cons] at h ⊢
    split at h
    · omega
    · rename_i hc
      rw [if_neg hc]
      have g1 := spOne_ge deep left n x
      have g2 := spAll_ge deep left (spOne deep left n x) r
      obtain ⟨h1, h2⟩ := spOne_small deep left n hn x (by omega)
      obtain ⟨h3, h4⟩ := spAll_small deep left (spOne deep left n x) (by omega) r h
      unfold dpAll
      rw [totAll_cons]
      exact ⟨by omega, by omega, h2, h4⟩
end
def fewB (l : List Sp) : Bool := decide (spAll 30 5000 0 l < 3000)
theorem few_of {l : List Sp} (h : fewB l = true) : totAll l < 3000 ∧ dpAll 30 l := by
  have h' := of_decide_eq_true h
  obtain ⟨h1, h2⟩ := spAll_small 30 5000 0 (by omega) l (by omega)
  exact ⟨by omega, h2⟩

theorem drop_cons (l : List Sp) (k : Nat) (h : k < l.length) : l.drop k = l[k] :: l.drop (k + 1) := List.drop_eq_getElem_cons h

set_option maxHeartbeats 3200000 in
set_option maxRecDepth 100000 in
theorem spend_any (m : Nat) : ∀ (l : List Sp) (deep : Nat) (left : Int) (v : Value) (w : World), totAll l ≤ m → Tr w v l → fitAll reachBytes l → deep ≤ 30 → left ≤ 5000 → -281474976710656 ≤ left →
    Calls Tryd.prog 53 #[v, .int .i64 deep, .int .i64 left] w fun e w' => e = .returned (.int .i64 (spAll deep left 0 l)) ∧ w = w' := by
  induction m using Nat.strongRecOn with
  | ind m ih =>
    intro l deep left v w hm ht hf hd hl hl2
    obtain ⟨ao, ca, rfl⟩ := ht.len
    have F := Lib.hid ht.at
    have hlen := ht.short
    have hr : reachBytes ≤ 140737488355328 := by decide
    have HV : Hid (spAll deep left 0 l ≤ 31 * 140737492355328) := Lib.hid (by
      by_cases h0 : (0 : Int) < left
      · have := spAll_le deep left 0 hl (by omega) l hf h0
        omega
      · have := spAll_cut (deep := deep) (left := left) (n := 0) (by omega) l
        omega)
    have HX := Lib.hid (fun k (hk : k < l.length) => fitAll_at hf l[k] (List.getElem_mem hk))
    have HIH : Hid (∀ k (hk : k < l.length) (left' : Int) (v' : Value) (w' : World), 0 < deep → Tr w' v' l[k].kids → left' ≤ 5000 → -281474976710656 ≤ left' →
        Calls Tryd.prog 53 #[v', .int .i64 ((deep : Int) - 1), .int .i64 left'] w' fun e w'' => e = .returned (.int .i64 (spAll (deep - 1) left' 0 l[k].kids)) ∧ w' = w'') := Lib.hid (fun k hk left' v' w' h0 ht' h1 h2 => by
      have := ih (totAll l[k].kids) (Nat.lt_of_lt_of_le (totAll_kids (List.getElem_mem hk)) hm) l[k].kids (deep - 1) left' v' w' (Nat.le_refl _) ht' (fitOne_kids (fitAll_at hf _ (List.getElem_mem hk))) (by omega) h1 h2
      rwa [show ((deep - 1 : Nat) : Int) = (deep : Int) - 1 by omega] at this)
    have H0 : Hid (spAll deep left 0 l = spAll deep left 0 (l.drop 0)) := Lib.hid (by rw [List.drop_zero])
    obtain ⟨X, hX⟩ : ∃ X, spAll deep left 0 l = X := ⟨_, rfl⟩
    rw [hX] at HV H0
    rw [hX]
    clear ih ht hf hm hX
    go_enter Tryd.func53, Tryd.ntmps53
    go_wp2_with fail
    go_loop [7, 11] (fun s i => ∃ (k : Nat) (n : Int), k ≤ l.length ∧ 0 ≤ n ∧ i = .int .i64 k ∧ s = .int .i64 n ∧ Hid (X = spAll deep left n (l.drop k))) (fun _ i => l.length - (intOf i).toNat)
    case atStart => exact ⟨0, 0, Nat.zero_le _, by omega, rfl, rfl, H0⟩
    case round =>
      clear H0
      obtain ⟨k, n, hk, hn, rfl, rfl, HN⟩ := hrel
      have hle : n ≤ 31 * 140737492355328 := by
        have h1 := HN.out
        have h2 := spAll_ge deep left n (l.drop k)
        have h3 := HV.out
        omega
      by_cases hlt : k < l.length
      · have hnx := HN.out
        rw [drop_cons l k hlt, spAll_cons] at hnx
        have hi1 : (k : Int) < (l.length : Int) := by omega
        by_cases hc : deep = 0 ∨ left ≤ n
        · rw [if_pos hc] at hnx
          have HQ := Lib.hid hnx
          clear hnx HN
          by_cases h0 : deep = 0
          · have e1 : ((deep : Int) == 0) = true := by rw [h0]; rfl
            clear hc h0
            go_wp2_with fail
            go_ret
            exact ⟨ret_int (by rw [HQ.out]), rfl⟩
          · have e1 : ((deep : Int) == 0) = false := by rw [beq_eq_false_iff_ne]; omega
            have e2 : decide (n ≥ left) = true := decide_eq_true (by omega)
            have e3 : decide (left ≤ n) = true := decide_eq_true (by omega)
            clear hc h0
            go_wp2_with fail
            go_ret
            exact ⟨ret_int (by rw [HQ.out]), rfl⟩
        · rw [if_neg hc, spOne_eq] at hnx
          have e1 : ((deep : Int) == 0) = false := by rw [beq_eq_false_iff_ne]; omega
          have e2 : decide (n ≥ left) = false := decide_eq_false (by omega)
          have e3 : decide (left ≤ n) = false := decide_eq_false (by omega)
          obtain ⟨b, o, ak, ck, rfl, hb, hC⟩ := F.out k hlt
          have c1 := hC.s
          have c2 := hC.kids
          have hs := fitOne_s (HX.out k hlt)
          have hsz : (S l[k].s).size = l[k].s.length := S_size _
          have HC := Lib.hid (HIH.out k hlt (left - (n + 1 + l[k].s.length)) _ w (by omega) hC.tr (by omega) (by omega))
          have HQ := Lib.hid hnx
          have hval : n + 1 + (l[k].s.length : Int) + spAll (deep - 1) (left - (n + 1 + l[k].s.length)) 0 l[k].kids ≤ 31 * 140737492355328 := by
            have h2 := spAll_ge deep left (n + 1 + (l[k].s.length : Int) + spAll (deep - 1) (left - (n + 1 + l[k].s.length)) 0 l[k].kids) (l.drop (k + 1))
            have h3 := HV.out
            omega
          have hval0 := spAll_ge (deep - 1) (left - (n + 1 + l[k].s.length)) 0 l[k].kids
          clear hnx HN hC hc
          generalize spAll (deep - 1) (left - (n + 1 + l[k].s.length)) 0 l[k].kids = z at *
          generalize l[k].kids.length = kn at *
          generalize l[k].s = s at *
          generalize S s = ss at *
          generalize hsl : (s.length : Int) = sl at *
          have hsz' : (ss.size : Int) = sl := by omega
          have hsl0 : 0 ≤ sl ∧ sl ≤ 140737488355328 := by omega
          have wr1 : IntKind.i64.wrap (n + 1) = n + 1 := by rw [IntKind.wrap_i64]; omega
          have wr2 : IntKind.i64.wrap (n + 1 + sl) = n + 1 + sl := by rw [IntKind.wrap_i64]; omega
          go_wp2_with fail
          refine calls_at (by simp) HC.out ?_
          rintro e w1 ⟨rfl, rfl⟩
          clear HC
          go_wp2_with fail
          go_round
          case rel => exact ⟨k + 1, n + 1 + sl + z, by omega, by omega, by go_num, rfl, HQ⟩
          case measure => simp [intOf]; omega
      · obtain rfl : k = l.length := by omega
        have hnx := HN.out
        rw [List.drop_length] at hnx
        have HQ : Hid (X = n) := Lib.hid (by rw [hnx]; unfold spAll; rfl)
        clear hnx HN hlt
        go_wp2_with fail
        go_ret
        exact ⟨ret_int (by rw [HQ.out]), rfl⟩

theorem size_any (l : List Sp) (v : Value) (w : World) (ht : Tr w v l) (hf : fitAll reachBytes l) :
    Calls Tryd.prog 36 #[v, .int .i64 30] w fun e w' => e = .returned (.int .i64 (spAll 30 5000 0 l)) ∧ w = w' := by
  have H := Lib.hid (spend_any (totAll l) l 30 5000 v w (Nat.le_refl _) ht hf (by omega) (by omega) (by omega))
  clear ht hf
  go_enter Tryd.func36, Tryd.ntmps36
  go_wp2_with fail
  refine H.out.mono ?_
  rintro e w1 ⟨rfl, rfl⟩
  clear H
  go_wp2_with fail
  go_ret
  exact ⟨rfl, rfl⟩
end Go.Proofs.YtldllbmbcnipoaaDoor.Sp
