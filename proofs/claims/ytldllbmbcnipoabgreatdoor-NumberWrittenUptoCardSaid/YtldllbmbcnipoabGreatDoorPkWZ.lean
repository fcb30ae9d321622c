/-
  Several texts in one:
  
  
  
  
  
  
  
-/
import Derived.Test.YtldllbmbcnipoabGreatDoorPkWY
import Derived.Test.YtldllbmbcnipoabGreatDoorPkWC
import Derived.Test.YtldllbmbcnipoabGreatDoorPkWD
import Derived.Test.YtldllbmbcnipoabGreatDoorPkWG
import Derived.Test.YtldllbmbcnipoabGreatDoorPkWQ
import Derived.Test.YtldllbmbcnipoabGreatDoorBkLines
import Derived.Test.YtldllbmbcnipoabGreatDoorBkRound
namespace Go.Proofs.YtldllbmbcnipoabGreatDoor.Sp
open Go.Proofs.YtldllbmbcnipoabGreatDoor.Tk (S S_of S_list S_size S_toList S_app at_data len_data)
open Go.Proofs.YtldllbmbcnipoabGreatDoor.Utf (chk goesAt goesAt_end nxt nxt_parts nxt_le bt bt_eq ln conts conts_at Bnd goes_join chk_zero_iff zeroB)
set_option linter.unusedVariables false
theorem nxt_one (t : ByteArray) (k : Nat) (h : k < t.size) (hb : t[k].toNat ≤ 127) : (nxt t k).2 = 1 := by
  have h0 : bt t (k + 0) ≤ 127 := by rw [Nat.add_zero, bt_eq t k h]; exact hb
  have hl : ln (bt t (k + 0)) = 1 := by unfold ln; rw [if_pos h0]
  unfold nxt Go.Proofs.YtldllbmbcnipoabGreatDoor.Utf.nx
  simp only []
  rw [hl]
  rw [if_neg (by omega), if_pos ⟨rfl, rfl⟩]
theorem goes_one_ascii (t : ByteArray) (h : ∀ k (hk : k < t.size), t[k].toNat ≤ 127) : ∀ n k, t.size - k ≤ n → goesAt t k = true
  | 0, k, hn => goesAt_end t k (by omega)
  | n + 1, k, hn => by
    by_cases hk : k < t.size
    · have h1 := nxt_one t k hk (h k hk)
      have h2 := Go.Proofs.YtldllbmbcnipoabGreatDoor.Utf.goesAt_step t k hk (by omega)
      rw [h1] at h2
      rw [← h2]
      exact goes_one_ascii t h n (k + 1) (by omega)
    · exact goesAt_end t k (by omega)
def V (l : List UInt8) : Prop := goesAt (S l) 0 = true
theorem V_nil : V [] := goesAt_end _ _ (by rw [S_size]; exact Nat.le_refl _)
theorem V_app {a b : List UInt8} (ha : V a) (hb : V b) : V (a ++ b) := by
  unfold V at *
  rw [← S_app]
  exact goes_join _ _ ha hb
theorem S_extractV (l : List UInt8) (a b : Nat) : (S l).extract a b = S ((l.drop a).take (b - a)) := by
  rw [← S_of ((S l).extract a b), ext_list, S_list]
theorem V_first {c : UInt8} {r : List UInt8} (h : V (c :: r)) : ∃ u r0, c :: r = u ++ r0 ∧ V u ∧ V r0 ∧ ((u = [c] ∧ c.toNat ≤ 127) ∨ (u ≠ [] ∧ ∀ x ∈ u, 128 ≤ x.toNat)) := by
  have hsz : (S (c :: r)).size = r.length + 1 := by rw [S_size]; rfl
  have hB := Bnd.start (S (c :: r)) h
  have h0 := hB.nonzero (by omega)
  have hst := hB.step (by omega)
  rw [Nat.zero_add] at hst
  have hpt := hst.parts
  have hp := nxt_parts (S (c :: r)) 0 h0
  have hle := nxt_le (S (c :: r)) 0
  generalize (nxt (S (c :: r)) 0).2 = n at *
  have hb0 : bt (S (c :: r)) 0 = c.toNat := by
    rw [bt_eq _ 0 (by omega)]
    have := at_data (S (c :: r)) 0 (by omega)
    rw [S_list, List.drop_zero] at this
    exact (congrArg UInt8.toNat (List.cons.inj this).1).symm
  rw [hb0] at hp
  rw [S_extractV, S_extractV, hsz, Nat.sub_zero, List.drop_zero] at hpt
  have hr0 : ((c :: r).drop n).take (r.length + 1 - n) = (c :: r).drop n := List.take_of_length_le (by rw [List.length_drop, List.length_cons]; omega)
  rw [hr0] at hpt
  refine ⟨(c :: r).take n, (c :: r).drop n, (List.take_append_drop _ _).symm, hpt.1, hpt.2, ?_⟩
  by_cases hc : c.toNat ≤ 127
  · have hl : ln c.toNat = 1 := by unfold ln; rw [if_pos hc]
    rw [hl] at hp
    rw [hp.1]
    exact Or.inl ⟨rfl, hc⟩
  · refine Or.inr ⟨?_, fun x hx => ?_⟩
    · intro e
      have := congrArg List.length e
      rw [List.length_take, List.length_cons, List.length_nil] at this
      omega
    · obtain ⟨i, hi, hxi⟩ := List.getElem_of_mem hx
      rw [List.length_take, List.length_cons] at hi
      have hbi : bt (S (c :: r)) i = x.toNat := by
        rw [bt_eq _ i (by omega), ← hxi]
        rw [List.getElem_take]
        have h1 := at_data (S (c :: r)) i (by omega)
        rw [S_list] at h1
        have h2 := List.drop_eq_getElem_cons (l := c :: r) (i := i) (by rw [List.length_cons]; omega)
        rw [h2] at h1
        rw [(List.cons.inj h1).1]
      rcases Nat.eq_zero_or_pos i with rfl | hi0
      · rw [← hbi, hb0]; omega
      · have := conts_at _ i _ hp.2 hi0 (by omega)
        rw [Nat.zero_add, hbi] at this
        exact this.1
theorem V_one {c : UInt8} (hc : c.toNat ≤ 127) : V [c] := by
  unfold V
  refine goes_one_ascii (S [c]) (fun k hk => ?_) 1 0 (by rw [S_size]; exact Nat.le_refl _)
  have hk0 : k = 0 := by rw [S_size] at hk; simp at hk; exact hk
  subst hk0
  exact hc
theorem V_tail {c : UInt8} {r : List UInt8} (hc : c.toNat ≤ 127) (h : V (c :: r)) : V r := by
  obtain ⟨u, r0, he, hu, hr, h1 | h1⟩ := V_first h
  · rw [h1.1] at he
    have := (List.cons.inj he).2
    rw [this]; exact hr
  · exfalso
    cases u with
    | nil => exact h1.1 rfl
    | cons x u =>
      have hx := (List.cons.inj he).1
      have := h1.2 x (List.mem_cons_self ..)
      rw [← hx] at this
      omega
theorem V_cut {c : UInt8} (hc : c.toNat ≤ 127) : ∀ (n : Nat) (a b : List UInt8), a.length ≤ n → V (a ++ c :: b) → V a ∧ V b
  | n, [], b, _, h => ⟨V_nil, V_tail hc h⟩
  | 0, x :: a, b, hn, _ => by simp at hn
  | n + 1, x :: a, b, hn, h => by
    rw [List.length_cons] at hn
    obtain ⟨u, r0, he, hu, hr, h1 | h1⟩ := V_first (c := x) (r := a ++ c :: b) h
    · rw [h1.1] at he
      have he2 : a ++ c :: b = r0 := (List.cons.inj he).2
      rw [← he2] at hr
      obtain ⟨ha, hb⟩ := V_cut hc n a b (by omega) hr
      exact ⟨V_app (V_one h1.2) ha, hb⟩
    · have he' : (x :: a) ++ c :: b = u ++ r0 := he
      rcases List.append_eq_append_iff.1 he' with ⟨p, h2, h3⟩ | ⟨p, h2, h3⟩
      · cases p with
        | nil =>
          rw [List.append_nil] at h2
          rw [List.nil_append] at h3
          rw [← h2] at *
          rw [← h3] at hr
          exact ⟨hu, V_tail hc hr⟩
        | cons y p =>
          exfalso
          have hy := (List.cons.inj h3).1
          have := h1.2 y (by rw [h2]; simp)
          rw [← hy] at this
          omega
      · rw [h3] at hr
        have hul : 0 < u.length := List.length_pos_iff.2 h1.1
        have hpl := congrArg List.length h2
        rw [List.length_append, List.length_cons] at hpl
        obtain ⟨ha, hb⟩ := V_cut hc n p b (by omega) hr
        rw [h2]
        exact ⟨V_app hu ha, hb⟩
end Go.Proofs.YtldllbmbcnipoabGreatDoor.Sp

namespace Go.Proofs.YtldllbmbcnipoabGreatDoor.Sp
open Go.RowKit
open Go.Proofs.YtldllbmbcnipoabGreatDoor.Tk (S S_of S_list S_size S_toList S_app ret_int eq8 ne8 at_data len_data)
open Go.Proofs.YtldllbmbcnipoabGreatDoor.Cm (calls_at)
open Go.Proofs.YtldllbmbcnipoabGreatDoor.Utf (chk)
set_option linter.unusedVariables false
end Go.Proofs.YtldllbmbcnipoabGreatDoor.Sp

namespace Go.Proofs.YtldllbmbcnipoabGreatDoor.Sp
open Go.Proofs.YtldllbmbcnipoabGreatDoor.Tk (S S_of S_list S_size S_toList S_app cls at_data len_data)
set_option linter.unusedVariables false
def Wt (l : List UInt8) : Prop := V l ∧ (0 : UInt8) ∉ l ∧ (13 : UInt8) ∉ l
theorem Wt_nil : Wt [] := ⟨V_nil, by simp, by simp⟩
theorem Wt_app {a b : List UInt8} (ha : Wt a) (hb : Wt b) : Wt (a ++ b) :=
  ⟨V_app ha.1 hb.1, fun h => (List.mem_append.1 h).elim ha.2.1 hb.2.1, fun h => (List.mem_append.1 h).elim ha.2.2 hb.2.2⟩
theorem Wt_tail {c : UInt8} {r : List UInt8} (hc : c.toNat ≤ 127) (h : Wt (c :: r)) : Wt r :=
  ⟨V_tail hc h.1, fun hm => h.2.1 (List.mem_cons_of_mem _ hm), fun hm => h.2.2 (List.mem_cons_of_mem _ hm)⟩
theorem Wt_one {c : UInt8} {r : List UInt8} (hc : c.toNat ≤ 127) (h : Wt (c :: r)) : Wt [c] :=
  ⟨V_one hc, fun hm => h.2.1 (by rw [List.mem_singleton] at hm; rw [hm]; exact List.mem_cons_self ..), fun hm => h.2.2 (by rw [List.mem_singleton] at hm; rw [hm]; exact List.mem_cons_self ..)⟩
theorem Wt_96 : ∀ n : Nat, Wt (List.replicate n 96)
  | 0 => Wt_nil
  | n + 1 => by
    rw [List.replicate_succ]
    exact Wt_app (a := [96]) ⟨V_one (by decide), by decide, by decide⟩ (Wt_96 n)
def prB (a b : UInt8) : Bool := (decide (a = 10) && (spB b || decide (b = 10))) || (decide (b = 10) && spB a)
theorem txB_pr (a b : UInt8) (r : List UInt8) : txB (a :: b :: r) = (!prB a b && txB (b :: r)) := txB_two a b r
theorem pr_left {a b : UInt8} (h : edB a = false) : prB a b = false := by
  unfold edB at h
  rw [Bool.or_eq_false_iff] at h
  unfold prB
  rw [h.1, h.2]
  simp
theorem pr_right {a b : UInt8} (h : edB b = false) : prB a b = false := by
  unfold edB at h
  rw [Bool.or_eq_false_iff] at h
  unfold prB
  rw [h.1, h.2]
  simp
theorem txB_tail {c : UInt8} {r : List UInt8} (h : txB (c :: r) = true) : txB r = true := by
  cases r with
  | nil => rfl
  | cons d r => rw [txB_pr, Bool.and_eq_true] at h; exact h.2
theorem txB_app : ∀ (a b : List UInt8), txB a = true → txB b = true → (∀ x y, a.getLast? = some x → b.head? = some y → prB x y = false) → txB (a ++ b) = true
  | [], b, _, hb, _ => hb
  | [x], [], _, _, _ => rfl
  | [x], y :: b, _, hb, h => by
    rw [show [x] ++ y :: b = x :: y :: b from rfl, txB_pr, h x y rfl rfl, hb]
    rfl
  | x :: z :: a, b, ha, hb, h => by
    rw [txB_pr, Bool.and_eq_true] at ha
    have ih := txB_app (z :: a) b ha.2 hb (fun x y h1 h2 => h x y (by rw [List.getLast?_cons_cons]; exact h1) h2)
    rw [List.cons_append] at ih
    rw [List.cons_append, List.cons_append, txB_pr, ih, Bool.and_true]
    exact ha.1
theorem hard96 : edB 96 = false := by decide
theorem hard_cls {d : UInt8} (h : cls d = 4) : edB d = false ∧ d.toNat ≤ 127 := by
  unfold cls at h
  split at h
  · cases h
  · split at h
    · cases h
    · split at h
      · rename_i h10 h9 hr
        refine ⟨?_, ?_⟩
        · unfold edB spB
          rw [decide_eq_false (fun e => h9 (Or.inr e)), decide_eq_false (fun e => h9 (Or.inl e)), decide_eq_false (fun e => h10 (Or.inl e))]
          rfl
        · simp only [UInt8.le_iff_toNat_le] at hr
          have k47 : (47 : UInt8).toNat = 47 := rfl
          have k64 : (64 : UInt8).toNat = 64 := rfl
          have k96 : (96 : UInt8).toNat = 96 := rfl
          have k126 : (126 : UInt8).toNat = 126 := rfl
          omega
      · cases h
end Go.Proofs.YtldllbmbcnipoabGreatDoor.Sp

namespace Go.Proofs.YtldllbmbcnipoabGreatDoor.Sp
open Go.Proofs.YtldllbmbcnipoabGreatDoor.Tk (S S_of S_list S_size S_toList S_app cls at_data len_data)
open Go.Proofs.YtldllbmbcnipoabGreatDoor.Utf (chk_zero_iff zeroB)
set_option linter.unusedVariables false
theorem Wt_of_ck {s : List UInt8} (h : ckB s = true) (h13 : (13 : UInt8) ∉ s) : Wt s := by
  unfold ckB at h
  obtain ⟨_, h2, h3⟩ := (chk_zero_iff (S s)).1 (of_decide_eq_true h)
  unfold zeroB at h2
  rw [S_list] at h2
  exact ⟨h3, of_decide_eq_false h2, h13⟩
def Gd (l : List UInt8) : Prop := Wt l ∧ txB l = true
theorem Gd_app {a b : List UInt8} (ha : Gd a) (hb : Gd b) (hj : ∀ x y, a.getLast? = some x → b.head? = some y → prB x y = false) : Gd (a ++ b) :=
  ⟨Wt_app ha.1 hb.1, txB_app a b ha.2 hb.2 hj⟩
theorem Wt_c {c : UInt8} (h : c.toNat ≤ 127) (h0 : c ≠ 0) (h13 : c ≠ 13) : Wt [c] :=
  ⟨V_one h, fun hm => h0 (List.mem_singleton.1 hm).symm, fun hm => h13 (List.mem_singleton.1 hm).symm⟩
theorem Gd_c {c : UInt8} (h : c.toNat ≤ 127) (h0 : c ≠ 0) (h13 : c ≠ 13) : Gd [c] := ⟨Wt_c h h0 h13, rfl⟩
theorem big_not {x : UInt8} (h : 128 ≤ x.toNat) : marked x = false := by
  cases hm : marked x with
  | false => rfl
  | true =>
    have := (hard_cls (marked_cls x hm)).2
    omega
theorem esc_big : ∀ u : List UInt8, (∀ x ∈ u, 128 ≤ x.toNat) → esc u = u
  | [], _ => rfl
  | c :: r, h => by
    rw [esc_one, big_not (h c (List.mem_cons_self ..)), esc_big r (fun x hx => h x (List.mem_cons_of_mem _ hx))]
    rfl
theorem Wt_esc : ∀ (n : Nat) (l : List UInt8), l.length ≤ n → Wt l → Wt (esc l)
  | _, [], _, h => h
  | 0, c :: r, hn, _ => by simp at hn
  | n + 1, c :: r, hn, h => by
    obtain ⟨u, r0, he, hu, hr0, hcase⟩ := V_first h.1
    rcases hcase with ⟨h1, hc⟩ | ⟨hne, hbig⟩
    · have ih := Wt_esc n r (by simp at hn; omega) (Wt_tail hc h)
      rw [esc_one]
      cases hm : marked c with
      | true => rw [if_pos rfl]; exact Wt_app (a := [92, c]) (Wt_app (a := [92]) (Wt_c (by decide) (by decide) (by decide)) (Wt_one hc h)) ih
      | false => rw [if_neg (by simp)]; exact Wt_app (Wt_one hc h) ih
    · have h0 := h.2.1
      have h13 := h.2.2
      have hl := congrArg List.length he
      rw [List.length_append] at hl
      rw [he] at h0 h13
      have hul : 0 < u.length := List.length_pos_iff.2 hne
      have ih := Wt_esc n r0 (by omega) ⟨hr0, fun hm => h0 (List.mem_append_right _ hm), fun hm => h13 (List.mem_append_right _ hm)⟩
      rw [he, esc_both, esc_big u hbig]
      exact Wt_app ⟨hu, fun hm => h0 (List.mem_append_left _ hm), fun hm => h13 (List.mem_append_left _ hm)⟩ ih
theorem ed92 : edB 92 = false := by decide
theorem head_esc (d : UInt8) (r : List UInt8) : (esc (d :: r)).head? = some (if marked d = true then 92 else d) := by
  rw [esc_one]
  split <;> rfl
theorem tx_esc : ∀ l : List UInt8, txB l = true → txB (esc l) = true
  | [], _ => rfl
  | c :: r, h => by
    have ih := tx_esc r (txB_tail h)
    rw [esc_one]
    refine txB_app _ _ ?_ ih ?_
    · split
      · rw [txB_pr, pr_left ed92]; rfl
      · rfl
    · intro x y hx hy
      have hxc : x = c := by
        split at hx <;> simpa using hx.symm
      subst hxc
      cases r with
      | nil => cases hy
      | cons d r =>
        rw [head_esc] at hy
        rw [txB_pr, Bool.and_eq_true] at h
        split at hy
        · rw [← Option.some.inj hy]; exact pr_right ed92
        · rw [← Option.some.inj hy]; simpa using h.1
theorem tx_no10 : ∀ l : List UInt8, (10 : UInt8) ∉ l → txB l = true
  | [], _ => rfl
  | [_], _ => rfl
  | a :: b :: r, h => by
    have ha : a ≠ 10 := fun e => h (by rw [e]; exact List.mem_cons_self ..)
    have hb : b ≠ 10 := fun e => h (by rw [e]; exact List.mem_cons_of_mem _ (List.mem_cons_self ..))
    rw [txB_pr, tx_no10 (b :: r) (fun hm => h (List.mem_cons_of_mem _ hm))]
    unfold prB
    rw [decide_eq_false ha, decide_eq_false hb]
    rfl
def Hard (l : List UInt8) : Prop := ∃ a z, l.head? = some a ∧ l.getLast? = some z ∧ edB a = false ∧ edB z = false
theorem dc_good {c : UInt8} (h : dcB c = true) : edB c = false ∧ c.toNat ≤ 127 ∧ c ≠ 0 ∧ c ≠ 13 := by
  have hall : ∀ c : UInt8, dcB c = true → edB c = false ∧ c.toNat ≤ 127 ∧ c ≠ 0 ∧ c ≠ 13 := by
    intro c
    have : ∀ n : Fin 256, dcB (UInt8.ofFin n) = true → edB (UInt8.ofFin n) = false ∧ (UInt8.ofFin n).toNat ≤ 127 ∧ UInt8.ofFin n ≠ 0 ∧ UInt8.ofFin n ≠ 13 := by decide +kernel
    exact this c.toFin
  exact hall c h
theorem Gd_dest : ∀ s : List UInt8, (∀ c ∈ s, dcB c = true) → Gd s
  | [], _ => ⟨Wt_nil, rfl⟩
  | c :: s, h => by
    obtain ⟨h1, h2, h3, h4⟩ := dc_good (h c (List.mem_cons_self ..))
    refine Gd_app (a := [c]) (Gd_c h2 h3 h4) (Gd_dest s (fun x hx => h x (List.mem_cons_of_mem _ hx))) ?_
    intro x y hx _
    rw [← Option.some.inj hx]
    exact pr_left h1
theorem Gd_wrap {a z : List UInt8} {m : List UInt8} (ha : Gd a) (hz : Gd z) (hm : Gd m) (hax : ∀ x, a.getLast? = some x → edB x = false) (hzx : ∀ x, z.head? = some x → edB x = false) : Gd (a ++ (m ++ z)) := by
  refine Gd_app ha (Gd_app hm hz (fun x y _ hy => pr_right (hzx y hy))) (fun x y hx _ => pr_left (hax x hx))
theorem ticksOf_pos (s : List UInt8) : 0 < ticksOf s := (ticksOf_ok s).2
theorem rep_ends (n : Nat) (hn : 0 < n) : (∀ x, (List.replicate n (96 : UInt8)).getLast? = some x → edB x = false) ∧ (∀ x, (List.replicate n (96 : UInt8)).head? = some x → edB x = false) := by
  constructor
  · intro x hx
    rw [(List.mem_replicate.1 (List.mem_of_getLast? hx)).2]; exact hard96
  · intro x hx
    rw [(List.mem_replicate.1 (List.mem_of_mem_head? hx)).2]; exact hard96
theorem Gd_code {s : List UInt8} (hW : Wt s) (h10 : (10 : UInt8) ∉ s) : Gd (List.replicate (ticksOf s) 96 ++ (padded s ++ List.replicate (ticksOf s) 96)) := by
  have hr : Gd (List.replicate (ticksOf s) 96) := ⟨Wt_96 _, tx_no10 _ (fun h => absurd (List.mem_replicate.1 h).2 (by decide))⟩
  have hp : Gd (padded s) := by
    refine ⟨?_, tx_no10 _ (padded_lf s h10)⟩
    unfold padded
    split
    · exact Wt_app (a := [32]) (Wt_c (by decide) (by decide) (by decide)) (Wt_app hW (Wt_c (by decide) (by decide) (by decide)))
    · exact hW
  exact Gd_wrap hr hr hp (rep_ends _ (ticksOf_pos s)).1 (rep_ends _ (ticksOf_pos s)).2
theorem hard_code (n : Nat) (hn : 0 < n) (m : List UInt8) : Hard (List.replicate n 96 ++ (m ++ List.replicate n 96)) := by
  obtain ⟨k, rfl⟩ : ∃ k, n = k + 1 := ⟨n - 1, by omega⟩
  refine ⟨96, 96, rfl, ?_, hard96, hard96⟩
  rw [← List.append_assoc, List.replicate_succ', ← List.append_assoc, List.getLast?_append]
  rfl
theorem wr1_at (x : Sp) : wr1 x = if x.kind = 1 then esc x.s else if x.kind = 2 then List.replicate (ticksOf x.s) 96 ++ (padded x.s ++ List.replicate (ticksOf x.s) 96)
    else if x.kind = 3 then 42 :: (wrs x.kids ++ [42]) else if x.kind = 4 then 91 :: (wrs x.kids ++ (93 :: 40 :: (x.s ++ [41]))) else [] := by
  obtain ⟨k, s, kids⟩ := x
  rw [wr1]
  rfl
theorem wrs_at (x : Sp) (r : List Sp) : wrs (x :: r) = wr1 x ++ wrs r := by rw [wrs]
theorem ed_42 : edB 42 = false := by decide
theorem ed_91 : edB 91 = false := by decide
theorem ed_41 : edB 41 = false := by decide
theorem ed_93 : edB 93 = false := by decide
theorem one_last {c x : UInt8} (h : [c].getLast? = some x) : x = c := (Option.some.inj h).symm
mutual
theorem wr1_gd (e k : Bool) : ∀ x : Sp, okOne e k x = true → Gd (wr1 x) ∧ (x.kind ≠ 1 → Hard (wr1 x))
  | .mk q s l, h => by
    have ih := fun e k p h => (wrs_gd e k p l h).1
    rw [okOne, Bool.and_eq_true] at h
    obtain ⟨hck, h2⟩ := h
    rw [wr1_at]
    show Gd (if q = 1 then esc s else if q = 2 then List.replicate (ticksOf s) 96 ++ (padded s ++ List.replicate (ticksOf s) 96)
      else if q = 3 then 42 :: (wrs l ++ [42]) else if q = 4 then 91 :: (wrs l ++ (93 :: 40 :: (s ++ [41]))) else []) ∧ (q ≠ 1 → Hard (if q = 1 then esc s else if q = 2 then List.replicate (ticksOf s) 96 ++ (padded s ++ List.replicate (ticksOf s) 96)
      else if q = 3 then 42 :: (wrs l ++ [42]) else if q = 4 then 91 :: (wrs l ++ (93 :: 40 :: (s ++ [41]))) else []))
    by_cases q1 : q = 1
    · rw [if_pos q1, Bool.and_eq_true] at h2
      unfold ttB at h2
      rw [Bool.and_eq_true, Bool.and_eq_true, Bool.not_eq_true', Bool.not_eq_true'] at h2
      have hW := Wt_of_ck hck (hs_not h2.2.2.2)
      rw [if_pos q1]
      exact ⟨⟨Wt_esc _ s (Nat.le_refl _) hW, tx_esc s h2.2.1⟩, fun hn => absurd q1 hn⟩
    · rw [if_neg q1] at h2 ⊢
      by_cases q2 : q = 2
      · rw [if_pos q2] at h2 ⊢
        simp only [Bool.and_eq_true, Bool.not_eq_true'] at h2
        have hW := Wt_of_ck hck (hs_not h2.2.2.2)
        exact ⟨Gd_code hW (hs_not h2.2.2.1), fun _ => hard_code _ (ticksOf_pos s) _⟩
      · rw [if_neg q2] at h2 ⊢
        by_cases q3 : q = 3
        · rw [if_pos q3] at h2 ⊢
          simp only [Bool.and_eq_true, Bool.not_eq_true'] at h2
          have hk := ih _ _ _ h2.2.2.2
          have g42 : Gd [42] := Gd_c (by decide) (by decide) (by decide)
          refine ⟨Gd_wrap (a := [42]) g42 g42 hk (fun x hx => by rw [one_last hx]; exact ed_42) (fun x hx => by rw [← Option.some.inj hx]; exact ed_42), fun _ => ⟨42, 42, rfl, ?_, ed_42, ed_42⟩⟩
          rw [← List.cons_append, List.getLast?_append]
          rfl
        · rw [if_neg q3] at h2 ⊢
          by_cases q4 : q = 4
          · rw [if_pos q4] at h2 ⊢
            simp only [Bool.and_eq_true, Bool.not_eq_true'] at h2
            have hk := ih _ _ _ h2.2.2.2
            have hd := h2.1
            unfold dsB at hd
            rw [Bool.and_eq_true] at hd
            have hs := Gd_dest s (fun c hc => List.all_eq_true.1 hd.1 c hc)
            have g91 : Gd [91] := Gd_c (by decide) (by decide) (by decide)
            have g93 : Gd [93, 40] := Gd_app (a := [93]) (b := [40]) (Gd_c (by decide) (by decide) (by decide)) (Gd_c (by decide) (by decide) (by decide)) (fun x y hx _ => by rw [one_last hx]; exact pr_left ed_93)
            have g41 : Gd [41] := Gd_c (by decide) (by decide) (by decide)
            have hz : Gd (93 :: 40 :: (s ++ [41])) := Gd_wrap (a := [93, 40]) g93 g41 hs (fun x hx => by rw [← Option.some.inj hx]; decide) (fun x hx => by rw [← Option.some.inj hx]; exact ed_41)
            refine ⟨Gd_wrap (a := [91]) g91 hz hk (fun x hx => by rw [one_last hx]; exact ed_91) (fun x hx => by rw [← Option.some.inj hx]; exact ed_93), fun _ => ⟨91, 41, rfl, ?_, ed_91, ed_41⟩⟩
            rw [show 91 :: (wrs l ++ (93 :: 40 :: (s ++ [41]))) = (91 :: (wrs l ++ (93 :: 40 :: s))) ++ [41] by simp, List.getLast?_append]
            rfl
          · rw [if_neg q4] at h2
            cases h2
theorem wrs_gd (e k : Bool) (p : Int) : ∀ L : List Sp, okAll e k p L = true → Gd (wrs L) ∧ (p = 1 → ∀ y, (wrs L).head? = some y → edB y = false)
  | [], _ => ⟨by rw [wrs]; exact ⟨Wt_nil, rfl⟩, fun _ y hy => by rw [wrs] at hy; cases hy⟩
  | x :: r, h => by
    rw [okAll_cons, Bool.and_eq_true, Bool.and_eq_true] at h
    obtain ⟨⟨ho, hp⟩, hr⟩ := h
    obtain ⟨h1, h2⟩ := wr1_gd e k x ho
    obtain ⟨h3, h4⟩ := wrs_gd e k x.kind r hr
    rw [wrs_at]
    refine ⟨Gd_app h1 h3 ?_, ?_⟩
    · intro a b ha hb
      by_cases hx : x.kind = 1
      · exact pr_right (h4 hx b hb)
      · obtain ⟨_, z, _, hz, _, hez⟩ := h2 hx
        rw [hz] at ha
        rw [← Option.some.inj ha]
        exact pr_left hez
    · intro hp1 y hy
      have hx : x.kind ≠ 1 := by
        intro hx
        rw [hp1, hx] at hp
        cases hp
      obtain ⟨a, _, ha, _, hea, _⟩ := h2 hx
      rw [List.head?_append, ha] at hy
      rw [← Option.some.inj hy]
      exact hea
end
end Go.Proofs.YtldllbmbcnipoabGreatDoor.Sp

namespace Go.Proofs.YtldllbmbcnipoabGreatDoor.Sp
open Go.Proofs.YtldllbmbcnipoabGreatDoor.Tk (S S_of S_list S_size S_toList S_app cls at_data len_data)
open Go.Proofs.YtldllbmbcnipoabGreatDoor.Utf (chk_zero_iff zeroB)
set_option linter.unusedVariables false
end Go.Proofs.YtldllbmbcnipoabGreatDoor.Sp

namespace Go.Proofs.YtldllbmbcnipoabGreatDoor.Kd
open Go.Proofs.YtldllbmbcnipoabGreatDoor.Tk (S S_list S_size)
open Go.Proofs.YtldllbmbcnipoabGreatDoor.Sp (hsB spB dsB dcB destB alB marksL)
open Go.Proofs.YtldllbmbcnipoabGreatDoor.Bt (ckB lineB tgB labB)
open Go.Proofs.YtldllbmbcnipoabGreatDoor.Bk (Tx Env label isDest df define kindOf closes unquote unitem inner)
open Go.Proofs.YtldllbmbcnipoabGreatDoor.Ln (run mx trim dl dr gapB)
set_option linter.unusedVariables false
def E0 : Env := ⟨ckB⟩
theorem hs_con (c : UInt8) (s : Tx) : s.contains c = hsB c s := by
  rw [Bool.eq_iff_iff]
  unfold hsB
  simp
theorem gap_sp (b : UInt8) : Bk.gapB b = spB b := by
  unfold Bk.gapB spB
  rw [Bool.eq_iff_iff]
  simp
theorem gap_ln (b : UInt8) : Bk.gapB b = gapB b := rfl
theorem tight_tg (s : Tx) : Bk.tight s = tgB s := by
  cases s with
  | nil => rfl
  | cons b r =>
    unfold Bk.tight tgB
    rw [List.isEmpty_cons, Bool.false_or, List.headD_cons, List.getLastD_eq_getLast?, List.head?_cons]
    cases hc : (b :: r).getLast? with
    | none => simp at hc
    | some c =>
      have ha : (r.all fun _ => true) = true := by rw [List.all_eq_true]; exact fun _ _ => rfl
      simp [gap_sp, ha]
theorem lab_eq (s : Tx) : label E0 s = labB s := by
  unfold label labB lineB
  rw [tight_tg, hs_con, hs_con, hs_con, hs_con, hs_con]
  have e : decide (s ≠ []) = !s.isEmpty := by cases s <;> simp
  rw [e]
  show (ckB s && _ && _ && _ && _ && _ && _ && _) = _
  generalize ckB s = a
  generalize (!s.isEmpty) = b
  generalize tgB s = c
  generalize hsB 10 s = d
  generalize hsB 13 s = f
  generalize hsB 91 s = g
  generalize hsB 93 s = h
  generalize hsB 92 s = i
  revert a b c d f g h i
  decide
theorem dest_dc (c : UInt8) : destB c = dcB c := by
  unfold destB dcB alB
  have h : ∀ n : Nat, n < 256 → (decide (UInt8.ofNat n ≤ c) = decide ((n : Int) ≤ (c.toNat : Int))) ∧ (decide (c ≤ UInt8.ofNat n) = decide ((c.toNat : Int) ≤ (n : Int))) := fun n hn => by
    have e : (UInt8.ofNat n).toNat = n := by rw [UInt8.toNat_ofNat']; omega
    constructor
    · apply decide_eq_decide.2
      rw [UInt8.le_iff_toNat_le, e]
      omega
    · apply decide_eq_decide.2
      rw [UInt8.le_iff_toNat_le, e]
      omega
  have m : [46, 47, 95, 45, 35, 63, 38, 58, 37].contains c = marksL.any (fun b => decide (c = b)) := by
    rw [Bool.eq_iff_iff, List.contains_iff_mem, List.any_eq_true]
    constructor
    · intro hm; exact ⟨c, hm, by simp⟩
    · rintro ⟨x, hx, he⟩
      have e : c = x := by simpa using he
      rw [e]; exact hx
  rw [m]
  have a1 := (h 97 (by omega)).1
  have a2 := (h 122 (by omega)).2
  have a3 := (h 65 (by omega)).1
  have a4 := (h 90 (by omega)).2
  have a5 := (h 48 (by omega)).1
  have a6 := (h 57 (by omega)).2
  have o97 : (UInt8.ofNat 97) = 97 := rfl
  have o122 : (UInt8.ofNat 122) = 122 := rfl
  have o65 : (UInt8.ofNat 65) = 65 := rfl
  have o90 : (UInt8.ofNat 90) = 90 := rfl
  have o48 : (UInt8.ofNat 48) = 48 := rfl
  have o57 : (UInt8.ofNat 57) = 57 := rfl
  rw [o97] at a1
  rw [o122] at a2
  rw [o65] at a3
  rw [o90] at a4
  rw [o48] at a5
  rw [o57] at a6
  rw [a1, a2, a3, a4, a5, a6]
  rfl
theorem dest_eq (s : Tx) : isDest s = dsB s := by
  unfold isDest dsB
  have e : decide (s ≠ []) = !s.isEmpty := by cases s <;> simp
  rw [e, Bool.and_comm]
  congr 1
  have : destB = dcB := funext dest_dc
  rw [this]
end Go.Proofs.YtldllbmbcnipoabGreatDoor.Kd

namespace Go.Proofs.YtldllbmbcnipoabGreatDoor.Pa
open Go.Proofs.YtldllbmbcnipoabGreatDoor.Bk (Tx Bk Env fenceL spanK itemL dropBlank listL items blockB allB kindOf closes unquote unitem inner define parse joinLF)
open Go.Proofs.YtldllbmbcnipoabGreatDoor.Ln (run mx trim)
open Go.Proofs.YtldllbmbcnipoabGreatDoor.Kd (E0)
set_option linter.unusedVariables false
def allE (deep : Nat) (l : List Tx) : Option (List Bk) := allB E0 (l.length + 18) deep l
def tot : List Tx → Nat
  | [] => 0
  | s :: l => 1 + s.length + tot l
theorem tot_app : ∀ a b : List Tx, tot (a ++ b) = tot a + tot b
  | [], b => by simp [tot]
  | s :: a, b => by rw [List.cons_append, tot, tot_app a b, tot]; omega
theorem tot_mem : ∀ (l : List Tx) (s : Tx), s ∈ l → 1 + s.length ≤ tot l
  | [], _, h => by cases h
  | x :: l, s, h => by
    rcases List.mem_cons.1 h with rfl | h
    · rw [tot]; omega
    · have := tot_mem l s h; rw [tot]; omega
theorem strip_len (l : Tx) : (Ln.strip l).length ≤ l.length := by
  unfold Ln.strip
  split
  · simp
  · exact Nat.le_refl _
theorem split_tot : ∀ (r cur : Tx), tot (Ln.ls cur r).1 ≤ cur.length + r.length + 1
  | [], cur => by
    unfold Ln.ls
    split
    · simp [tot]
    · simp only [tot, List.length_nil]; omega
  | b :: r, cur => by
    have h1 := split_tot r []
    have h2 := split_tot r (cur ++ [b])
    have h3 := strip_len cur
    unfold Ln.ls
    split
    · simp only [tot, List.length_cons, List.length_nil] at h1 ⊢; omega
    · split
      · simp only [tot, List.length_cons, List.length_nil] at h1 ⊢; omega
      · simp only [List.length_append, List.length_cons, List.length_nil] at h2 ⊢; omega
end Go.Proofs.YtldllbmbcnipoabGreatDoor.Pa
