import Derived.Test.YtldllbmbcnipoabGreatDoorPkWAA
import Derived.Test.YtldllbmbcnipoabGreatDoorPkWR
namespace Go.Proofs.YtldllbmbcnipoabGreatDoor.Wr
open Go.Proofs.YtldllbmbcnipoabGreatDoor.Sp (wrs_le wrs_gd Wt_nil dcB dc_good Sp wrs wr1 esc padded ticksOf hsB rtB okAll okOne okAll_cons plAll plOne plAll_cons Wt Wt_app Wt_c Wt_of_ck Wt_96 dsB hs_not totAll totOne totAll_cons)
open Go.Proofs.YtldllbmbcnipoabGreatDoor.Bt (oneB allB allB_cons rgB infB labB lineB dN d1N ttAll ttOne ttAll_cons boxB lnTot)
open Go.Proofs.YtldllbmbcnipoabGreatDoor.Bk (Tx Bk ok1 oks one wl its itemW preQ preI ticksL wl_one wl_two kindOf PG)
open Go.Proofs.YtldllbmbcnipoabGreatDoor.Kd (E0)
open Go.Proofs.YtldllbmbcnipoabGreatDoor.Pa (tot tot_app Lt)
set_option linter.unusedVariables false
def c10 (s : Tx) : Nat := s.count 10
theorem c10_app (a b : Tx) : c10 (a ++ b) = c10 a + c10 b := List.count_append
theorem c10_le (s : Tx) : c10 s ≤ s.length := List.count_le_length
theorem c10_cons {c : UInt8} (h : c ≠ 10) (s : Tx) : c10 (c :: s) = c10 s := List.count_cons_of_ne h
theorem c10_rep (n : Nat) : c10 (List.replicate n 96) = 0 := by
  unfold c10
  rw [List.count_replicate]
  rfl
theorem c10_esc : ∀ s : Tx, c10 (esc s) = c10 s
  | [] => rfl
  | c :: s => by
    have ih := c10_esc s
    rw [esc]
    split
    · rw [c10_cons (by decide)]
      show c10 ([c] ++ esc s) = c10 ([c] ++ s)
      rw [c10_app, c10_app, ih]
    · show c10 ([c] ++ esc s) = c10 ([c] ++ s)
      rw [c10_app, c10_app, ih]
theorem c10_pad (s : Tx) : c10 (padded s) = c10 s := by
  unfold padded
  split
  · rw [c10_cons (by decide), c10_app]; rfl
  · rfl
mutual
theorem c10_wr1 : ∀ x : Sp, c10 (wr1 x) ≤ totOne x
  | .mk k s l => by
    have h1 := c10_wrs l
    have h2 := c10_le s
    rw [wr1, totOne]
    split
    · rw [c10_esc]; omega
    split
    · rw [c10_app, c10_app, c10_rep, c10_pad]; omega
    split
    · rw [c10_cons (by decide), c10_app]
      have : c10 [42] = 0 := rfl
      omega
    split
    · rw [c10_cons (by decide), c10_app, c10_cons (by decide), c10_cons (by decide), c10_app]
      have : c10 [41] = 0 := rfl
      omega
    · exact Nat.zero_le _
theorem c10_wrs : ∀ l : List Sp, c10 (wrs l) ≤ totAll l
  | [] => by rw [wrs]; exact Nat.zero_le _
  | x :: r => by
    have h1 := c10_wr1 x
    have h2 := c10_wrs r
    rw [wrs, c10_app, totAll_cons]
    omega
end
theorem ls_c10 : ∀ (r cur : Tx), (13 : UInt8) ∉ r → (Ln.ls cur r).1.length ≤ 1 + c10 r
  | [], cur, _ => by
    unfold Ln.ls
    split <;> simp
  | b :: r, cur, h => by
    have h13 : b ≠ 13 := fun e => h (by rw [e]; exact List.mem_cons_self ..)
    have ih := fun cur => ls_c10 r cur (fun hm => h (List.mem_cons_of_mem _ hm))
    by_cases e : b = 10
    · subst e
      have := ih []
      rw [Ln.ls_lf, List.length_cons]
      have : c10 (10 :: r) = c10 r + 1 := List.count_cons_self
      omega
    · rw [Ln.ls_on _ _ _ e h13, c10_cons e]
      exact ih _
theorem tot_pre (f : Tx → Tx) (h : ∀ s, (f s).length ≤ s.length + 2) : ∀ l : List Tx, tot (l.map f) ≤ tot l + 2 * l.length
  | [] => Nat.le_refl _
  | s :: l => by
    have h1 := tot_pre f h l
    have h2 := h s
    simp only [List.map_cons, tot, List.length_cons]
    omega
theorem preQ_len (s : Tx) : (preQ s).length ≤ s.length + 2 := by unfold preQ; split <;> simp
theorem preI_len (s : Tx) : (preI s).length ≤ s.length + 2 := by unfold preI; split <;> simp
theorem item_tot (l : List Tx) : tot (itemW l) ≤ tot l + 2 * l.length + 2 ∧ (itemW l).length ≤ l.length + 1 ∧ (l ≠ [] → tot (itemW l) ≤ tot l + 2 * l.length ∧ (itemW l).length = l.length) := by
  cases l with
  | nil => exact ⟨by decide, by decide, fun h => absurd rfl h⟩
  | cons s r =>
    have h1 := tot_pre preI preI_len r
    simp only [itemW, tot, List.length_cons, List.length_map]
    refine ⟨by omega, by omega, fun _ => ⟨by omega, trivial⟩⟩
theorem ticks_le : ∀ l : List Tx, ticksL l ≤ 3 + lnTot l
  | [] => Nat.le_refl _
  | s :: l => by
    have h1 := ticks_le l
    have h2 := Ln.mx_le 96 s
    show max (Ln.mx 96 s + 1) (ticksL l) ≤ _
    rw [lnTot]
    omega
theorem lnTot_tot : ∀ l : List Tx, lnTot l = tot l
  | [] => rfl
  | s :: l => by rw [lnTot, tot, lnTot_tot l]
theorem lnTot_len : ∀ l : List Tx, l.length ≤ lnTot l
  | [] => Nat.le_refl _
  | s :: l => by have := lnTot_len l; rw [lnTot, List.length_cons]; omega
theorem grow {m n t a b : Nat} (hmn : m + 1 ≤ n) (hb : b ≤ 3 * t) (ha : a ≤ (12 + 6 * m) * t) : a + 2 * b + 12 ≤ (12 + 6 * n) * (1 + t) := by
  have h1 : (12 + 6 * m + 6) * t ≤ (12 + 6 * n) * t := Nat.mul_le_mul_right t (by omega)
  rw [Nat.add_mul (12 + 6 * m) 6 t] at h1
  rw [Nat.mul_add, Nat.mul_one]
  omega
theorem flat {n t a : Nat} (h : a ≤ 12 * t) : a ≤ (12 + 6 * n) * t := Nat.le_trans h (Nat.mul_le_mul_right t (by omega))
theorem box_of {k : Int} {lv : Int} {i : Tx} {ls : List Tx} {ss : List Sp} {l : List Bk} {n : Nat} (hk : k = 5 ∨ k = 6 ∨ k = 7) (h : d1N (.mk k lv i ls ss l) ≤ n) : ∃ m, dN l ≤ m ∧ m + 1 = n := by
  rw [d1N, if_pos (by unfold boxB; rcases hk with rfl | rfl | rfl <;> rfl)] at h
  exact ⟨n - 1, by omega, by omega⟩
theorem no13 {L : List Sp} (h : rtB L = true) : (13 : UInt8) ∉ wrs L := (norm_of h).cr
theorem rt_wt {L : List Sp} (h : rtB L = true) : Wt (wrs L) := by
  unfold rtB at h
  rw [Bool.and_eq_true] at h
  exact (wrs_gd false false 0 L h.1).1.1
mutual
theorem one_sz (list : Bool) : ∀ (x : Bk) (n : Nat), oneB list x = true → d1N x ≤ n → (Bk.one x).length + 1 ≤ 3 * ttOne x ∧ tot (Bk.one x) + 1 ≤ (12 + 6 * n) * ttOne x
  | .mk k lv i ls ss l, n, h, hn => by
    have ih := fun (b : Bool) (p : Int) (m : Nat) (h : allB b p l = true) (hm : dN l ≤ m) => wl_sz b p l m h hm
    have ih2 := fun (p : Int) (m : Nat) (h : allB true p l = true) (hm : dN l ≤ m) => its_sz p l m h hm
    have hwle := wrs_le ss
    rw [oneB, Bool.and_eq_true] at h
    have h2 := h.2
    rw [Bk.one, ttOne]
    split at h2
    · rename_i e
      simp only [Bool.and_eq_true] at h2
      rw [if_pos e]
      have h1 := ls_c10 (wrs ss) [] (no13 h2.2)
      have h3 := c10_wrs ss
      have h4 := Pa.split_tot (wrs ss) []
      rw [List.length_nil] at h4
      exact ⟨by unfold Ln.split; omega, flat (by unfold Ln.split; omega)⟩
    rw [if_neg (by assumption)]
    split at h2
    · rename_i e
      simp only [Bool.and_eq_true, decide_eq_true_iff] at h2
      rw [if_pos e]
      obtain ⟨q, rfl⟩ : ∃ q : Nat, lv = q := ⟨lv.toNat, by omega⟩
      have : ((if ss = [] then [] else 32 :: wrs ss : Tx)).length ≤ 1 + 6 * totAll ss := by
        split
        · simp
        · simp only [List.length_cons]; omega
      refine ⟨by simp only [List.length_cons, List.length_nil]; omega, flat ?_⟩
      simp only [tot, List.length_append, List.length_replicate, Int.toNat_natCast]
      omega
    rw [if_neg (by assumption)]
    split at h2
    · rename_i e
      rw [if_pos e]
      exact ⟨by simp only [List.length_cons, List.length_nil]; omega, flat (by simp only [tot, List.length_cons, List.length_nil]; omega)⟩
    rw [if_neg (by assumption)]
    split at h2
    · rename_i e
      rw [if_pos e]
      have h3 := ticks_le ls
      have h4 := lnTot_tot ls
      have h5 := lnTot_len ls
      refine ⟨by simp only [List.length_cons, List.length_append, List.length_nil]; omega, flat ?_⟩
      rw [tot, tot_app]
      simp only [tot, List.length_append, List.length_replicate]
      omega
    rw [if_neg (by assumption)]
    split at h2
    · rename_i e
      rw [if_pos e]
      simp only [Bool.and_eq_true] at h2
      obtain ⟨m, hm, hmn⟩ := box_of (Or.inl e) hn
      obtain ⟨i1, i2⟩ := ih _ _ m h2.2 hm
      have h3 := tot_pre preQ preQ_len (wl l)
      have hg := grow (n := n) (t := i.length + lnTot ls + totAll ss + ttAll l) (a := tot (wl l)) (b := (wl l).length) (m := m) (by omega) (by omega) (Nat.le_trans i2 (Nat.mul_le_mul_left _ (by omega)))
      rw [show 1 + i.length + lnTot ls + totAll ss + ttAll l = 1 + (i.length + lnTot ls + totAll ss + ttAll l) by omega]
      split
      · exact ⟨by simp only [List.length_cons, List.length_nil]; omega, by simp only [tot, List.length_cons, List.length_nil]; omega⟩
      · exact ⟨by rw [List.length_map]; omega, by omega⟩
    rw [if_neg (by assumption)]
    split at h2
    · rename_i e
      simp only [Bool.and_eq_true] at h2
      rw [if_neg (by omega), if_pos e]
      obtain ⟨m, hm, hmn⟩ := box_of (Or.inr (Or.inr e)) hn
      obtain ⟨i1, i2⟩ := ih _ _ m h2.2 hm
      obtain ⟨h3, h4, _⟩ := item_tot (wl l)
      have hg := grow (n := n) (t := i.length + lnTot ls + totAll ss + ttAll l) (a := tot (wl l)) (b := (wl l).length) (m := m) (by omega) (by omega) (Nat.le_trans i2 (Nat.mul_le_mul_left _ (by omega)))
      rw [show 1 + i.length + lnTot ls + totAll ss + ttAll l = 1 + (i.length + lnTot ls + totAll ss + ttAll l) by omega]
      exact ⟨by omega, by omega⟩
    split at h2
    · rename_i e
      rw [if_pos e]
      simp only [Bool.and_eq_true] at h2
      obtain ⟨m, hm, hmn⟩ := box_of (Or.inr (Or.inl e)) hn
      obtain ⟨i1, i2⟩ := ih2 _ m h2.2 hm
      have hg := grow (n := n) (t := i.length + lnTot ls + totAll ss + ttAll l) (a := tot (its l)) (b := 0) (m := m) (by omega) (by omega) (Nat.le_trans i2 (Nat.mul_le_mul_left _ (by omega)))
      rw [show 1 + i.length + lnTot ls + totAll ss + ttAll l = 1 + (i.length + lnTot ls + totAll ss + ttAll l) by omega]
      exact ⟨by omega, by omega⟩
    rw [if_neg (by assumption), if_neg (by assumption)]
    split at h2
    · simp only [Bool.and_eq_true, decide_eq_true_iff] at h2
      obtain ⟨d, hd⟩ := List.length_eq_one_iff.1 h2.1.2
      subst hd
      refine ⟨by simp only [List.length_cons, List.length_nil]; omega, flat ?_⟩
      simp only [tot, lnTot, List.headD_cons, List.length_append, List.length_cons]
      omega
    · cases h2
theorem wl_sz (list : Bool) (p : Int) : ∀ (l : List Bk) (n : Nat), allB list p l = true → dN l ≤ n → (wl l).length ≤ 3 * ttAll l ∧ tot (wl l) ≤ (12 + 6 * n) * ttAll l
  | [], n, _, _ => by rw [wl, ttAll]; exact ⟨Nat.zero_le _, Nat.zero_le _⟩
  | b :: r, n, h, hn => by
    rw [allB_cons, Bool.and_eq_true, Bool.and_eq_true] at h
    rw [dN] at hn
    obtain ⟨h1, h2⟩ := one_sz list b n h.1.1 (by omega)
    obtain ⟨h3, h4⟩ := wl_sz list b.kind r n h.2 (by omega)
    rw [ttAll_cons, Nat.mul_add (12 + 6 * n)]
    cases r with
    | nil => rw [wl_one]; exact ⟨by omega, by omega⟩
    | cons c r =>
      rw [wl_two, tot_app, tot, List.length_append, List.length_cons]
      exact ⟨by omega, by simp only [List.length_nil]; omega⟩
theorem its_sz (p : Int) : ∀ (l : List Bk) (n : Nat), allB true p l = true → dN l ≤ n → (its l).length ≤ 3 * ttAll l ∧ tot (its l) ≤ (12 + 6 * n) * ttAll l
  | [], n, _, _ => by rw [its, ttAll]; exact ⟨Nat.zero_le _, Nat.zero_le _⟩
  | b :: r, n, h, hn => by
    rw [allB_cons, Bool.and_eq_true, Bool.and_eq_true] at h
    rw [dN] at hn
    obtain ⟨h1, h2⟩ := one_sz true b n h.1.1 (by omega)
    obtain ⟨h3, h4⟩ := its_sz b.kind r n h.2 (by omega)
    rw [ttAll_cons, Nat.mul_add (12 + 6 * n), its, tot_app, List.length_append]
    exact ⟨by omega, by omega⟩
end
theorem rg_sz {l : List Bk} (h : rgB l = true) (ht : ttAll l ≤ 9000000) : (wl l).length ≤ 3 * ttAll l ∧ tot (wl l) ≤ 108 * ttAll l := by
  obtain ⟨h1, h2⟩ := rg_oks h ht
  rw [d_dp] at h2
  exact wl_sz false 0 l 16 (Bt.rg_parts h).1 h2
theorem lt_app {a b : Tx} (ha : Lt a) (hb : Lt b) : Lt (a ++ b) := ⟨Wt_app ha.1 hb.1, fun h => (List.mem_append.1 h).elim ha.2 hb.2⟩
theorem lt_c {c : UInt8} (h : c.toNat ≤ 127) (h0 : c ≠ 0) (h13 : c ≠ 13) (h10 : c ≠ 10) {s : Tx} (hs : Lt s) : Lt (c :: s) := lt_app (a := [c]) ⟨Wt_c h h0 h13, fun hm => h10 (List.mem_singleton.1 hm).symm⟩ hs
theorem lt_nil : Lt [] := ⟨Wt_nil, by simp⟩
theorem lt_rep {c : UInt8} (h : c.toNat ≤ 127) (h0 : c ≠ 0) (h13 : c ≠ 13) (h10 : c ≠ 10) : ∀ n, Lt (List.replicate n c)
  | 0 => lt_nil
  | n + 1 => by rw [List.replicate_succ]; exact lt_c h h0 h13 h10 (lt_rep h h0 h13 h10 n)
theorem lt_line {s : Tx} (h : lineB s = true) : Lt s := by
  unfold lineB at h
  rw [Bool.and_eq_true, Bool.and_eq_true, Bool.not_eq_true', Bool.not_eq_true'] at h
  exact ⟨Wt_of_ck h.1.1 (hs_not h.2), hs_not h.1.2⟩
theorem lt_ds {s : Tx} (h : dsB s = true) : Lt s := by
  unfold dsB at h
  rw [Bool.and_eq_true, List.all_eq_true] at h
  have go : ∀ t : Tx, (∀ c ∈ t, dcB c = true) → Lt t := by
    intro t
    induction t with
    | nil => exact fun _ => lt_nil
    | cons c t ih =>
      intro ha
      have hc := ha c (List.mem_cons_self ..)
      obtain ⟨_, h127, h0, h13⟩ := dc_good hc
      exact lt_c h127 h0 h13 (fun e => by rw [e] at hc; exact absurd hc (by decide)) (ih (fun d hd => ha d (List.mem_cons_of_mem _ hd)))
  exact go s h.1
theorem lt_preQ {s : Tx} (h : Lt s) : Lt (preQ s) := by
  unfold preQ
  split
  · exact lt_c (by decide) (by decide) (by decide) (by decide) lt_nil
  · exact lt_c (by decide) (by decide) (by decide) (by decide) (lt_c (by decide) (by decide) (by decide) (by decide) h)
theorem lt_preI {s : Tx} (h : Lt s) : Lt (preI s) := by
  unfold preI
  split
  · exact lt_nil
  · exact lt_c (by decide) (by decide) (by decide) (by decide) (lt_c (by decide) (by decide) (by decide) (by decide) h)
theorem lt_item {l : List Tx} (h : ∀ s ∈ l, Lt s) : ∀ s ∈ itemW l, Lt s := by
  cases l with
  | nil =>
    intro s hs
    rw [show itemW [] = [[45]] from rfl, List.mem_singleton] at hs
    rw [hs]
    exact lt_c (by decide) (by decide) (by decide) (by decide) lt_nil
  | cons a r =>
    intro s hs
    rcases List.mem_cons.1 hs with rfl | hs
    · exact lt_c (by decide) (by decide) (by decide) (by decide) (lt_c (by decide) (by decide) (by decide) (by decide) (h a (List.mem_cons_self ..)))
    · obtain ⟨b, hb, rfl⟩ := List.mem_map.1 hs
      exact lt_preI (h b (List.mem_cons_of_mem _ hb))
mutual
theorem wr1_10 (e k : Bool) : ∀ x : Sp, okOne e k x = true → (10 : UInt8) ∉ plOne x → (10 : UInt8) ∉ wr1 x
  | .mk q s l, h, hp => by
    have ih := fun e k p h hp => wrs_10 e k p l h hp
    rw [okOne, Bool.and_eq_true] at h
    have h2 := h.2
    rw [plOne] at hp
    rw [wr1]
    split at h2
    · rename_i e1
      rw [if_pos (Or.inl e1)] at hp
      rw [if_pos e1]
      exact Bk.esc_10 s (fun hm => hp (List.mem_append_left _ hm))
    · rename_i e1
      rw [if_neg e1]
      split at h2
      · rename_i e2
        rw [if_pos (Or.inr e2)] at hp
        rw [if_pos e2]
        exact Bk.code_10 s (fun hm => hp (List.mem_append_left _ hm)) _
      · rename_i e2
        rw [if_neg (by simp [e1, e2]), List.nil_append] at hp
        rw [if_neg e2]
        split at h2
        · rename_i e3
          simp only [Bool.and_eq_true] at h2
          have := ih _ _ _ h2.2.2.2 hp
          rw [if_pos e3]
          simp [this]
        · rename_i e3
          rw [if_neg e3]
          split at h2
          · rename_i e4
            simp only [Bool.and_eq_true] at h2
            have h5 := ih _ _ _ h2.2.2.2 hp
            have h6 := (lt_ds h2.1).2
            rw [if_pos e4]
            simp [h5, h6]
          · cases h2
theorem wrs_10 (e k : Bool) (p : Int) : ∀ l : List Sp, okAll e k p l = true → (10 : UInt8) ∉ plAll l → (10 : UInt8) ∉ wrs l
  | [], _, _ => by rw [wrs]; simp
  | x :: r, h, hp => by
    rw [okAll_cons, Bool.and_eq_true, Bool.and_eq_true] at h
    rw [plAll_cons] at hp
    rw [wrs]
    intro hm
    rcases List.mem_append.1 hm with hm | hm
    · exact wr1_10 e k x h.1.1 (fun h' => hp (List.mem_append_left _ h')) hm
    · exact wrs_10 e k x.kind r h.2 (fun h' => hp (List.mem_append_right _ h')) hm
end
theorem head_10 {L : List Sp} (h : rtB L = true) (hp : hsB 10 (plAll L) = false) : (10 : UInt8) ∉ wrs L := by
  unfold rtB at h
  rw [Bool.and_eq_true] at h
  exact wrs_10 _ _ _ L h.1 (hs_not hp)
theorem para_lt {L : List Sp} (h : rtB L = true) : ∀ s ∈ (Ln.split (wrs L)).1, Lt s :=
  Pa.ls_lt (wrs L) [] (by simpa using (rt_wt h).1) (by simpa using (rt_wt h).2.1) (by simp) (Or.inl (by simp))
mutual
theorem one_lt (list : Bool) : ∀ x : Bk, oneB list x = true → ∀ s ∈ Bk.one x, Lt s
  | .mk k lv i ls ss l, h => by
    have ih := fun (b : Bool) (p : Int) (h : allB b p l = true) => wl_lt b p l h
    have ih2 := fun (p : Int) (h : allB true p l = true) => its_lt p l h
    rw [oneB, Bool.and_eq_true] at h
    have h2 := h.2
    rw [Bk.one]
    split at h2
    · rename_i e
      simp only [Bool.and_eq_true] at h2
      rw [if_pos e]
      exact para_lt h2.2
    rw [if_neg (by assumption)]
    split at h2
    · rename_i e
      simp only [Bool.and_eq_true, Bool.not_eq_true'] at h2
      rw [if_pos e]
      intro s hs
      rw [List.mem_singleton] at hs
      rw [hs]
      refine lt_app (lt_rep (by decide) (by decide) (by decide) (by decide) _) ?_
      split
      · exact lt_nil
      · exact lt_c (by decide) (by decide) (by decide) (by decide) ⟨rt_wt h2.1.2, head_10 h2.1.2 h2.2⟩
    rw [if_neg (by assumption)]
    split at h2
    · rename_i e
      rw [if_pos e]
      intro s hs
      rw [List.mem_singleton] at hs
      rw [hs]
      exact lt_rep (c := 45) (by decide) (by decide) (by decide) (by decide) 3
    rw [if_neg (by assumption)]
    split at h2
    · rename_i e
      simp only [Bool.and_eq_true, List.all_eq_true] at h2
      rw [if_pos e]
      have h96 := fun n => lt_rep (c := 96) (by decide) (by decide) (by decide) (by decide) n
      intro s hs
      rcases List.mem_cons.1 hs with rfl | hs
      · have h3 := h2.2.2
        unfold infB at h3
        rw [Bool.and_eq_true, Bool.and_eq_true] at h3
        exact lt_app (h96 _) (lt_line h3.1.1)
      · rcases List.mem_append.1 hs with hs | hs
        · exact lt_line (h2.1 s hs)
        · rw [List.mem_singleton] at hs
          rw [hs]
          exact h96 _
    rw [if_neg (by assumption)]
    split at h2
    · rename_i e
      rw [if_pos e]
      simp only [Bool.and_eq_true] at h2
      have h3 := ih _ _ h2.2
      split
      · intro s hs
        rw [List.mem_singleton] at hs
        rw [hs]
        exact lt_preQ (s := []) lt_nil
      · intro s hs
        obtain ⟨a, ha, rfl⟩ := List.mem_map.1 hs
        exact lt_preQ (h3 a ha)
    rw [if_neg (by assumption)]
    split at h2
    · rename_i e
      simp only [Bool.and_eq_true] at h2
      rw [if_neg (by omega), if_pos e]
      exact lt_item (ih _ _ h2.2)
    split at h2
    · rename_i e
      rw [if_pos e]
      simp only [Bool.and_eq_true] at h2
      exact ih2 _ h2.2
    rw [if_neg (by assumption), if_neg (by assumption)]
    split at h2
    · simp only [Bool.and_eq_true] at h2
      obtain ⟨⟨⟨_, h3⟩, _⟩, h4⟩ := h2
      unfold labB at h3
      simp only [Bool.and_eq_true] at h3
      intro s hs
      rw [List.mem_singleton] at hs
      rw [hs]
      exact lt_c (by decide) (by decide) (by decide) (by decide) (lt_app (lt_line h3.1.1.1.1.2) (lt_c (by decide) (by decide) (by decide) (by decide) (lt_c (by decide) (by decide) (by decide) (by decide) (lt_c (by decide) (by decide) (by decide) (by decide) (lt_ds h4)))))
    · cases h2
theorem wl_lt (list : Bool) (p : Int) : ∀ l : List Bk, allB list p l = true → ∀ s ∈ wl l, Lt s
  | [], _ => by rw [wl]; intro s hs; cases hs
  | b :: r, h => by
    rw [allB_cons, Bool.and_eq_true, Bool.and_eq_true] at h
    have h1 := one_lt list b h.1.1
    have h2 := wl_lt list b.kind r h.2
    cases r with
    | nil => rw [wl_one]; exact h1
    | cons c r =>
      rw [wl_two]
      intro s hs
      rcases List.mem_append.1 hs with hs | hs
      · exact h1 s hs
      · rcases List.mem_cons.1 hs with rfl | hs
        · exact lt_nil
        · exact h2 s hs
theorem its_lt (p : Int) : ∀ l : List Bk, allB true p l = true → ∀ s ∈ its l, Lt s
  | [], _ => by rw [its]; intro s hs; cases hs
  | b :: r, h => by
    rw [allB_cons, Bool.and_eq_true, Bool.and_eq_true] at h
    rw [its]
    intro s hs
    rcases List.mem_append.1 hs with hs | hs
    · exact one_lt true b h.1.1 s hs
    · exact its_lt b.kind r h.2 s hs
end
theorem rg_lt {l : List Bk} (h : rgB l = true) : ∀ s ∈ wl l, Lt s := wl_lt false 0 l (Bt.rg_parts h).1
theorem jn_tot : ∀ l : List Tx, (Ln.jn l true).length = tot l
  | [] => rfl
  | [x] => by simp [Ln.jn, tot]; omega
  | x :: y :: r => by
    have ih := jn_tot (y :: r)
    rw [Ln.jn_cons2, List.length_append, List.length_cons, ih]
    show _ = 1 + x.length + tot (y :: r)
    omega
theorem split_jn {l : List Tx} (h : ∀ s ∈ l, Lt s) : (Ln.split (Ln.jn l true)).1 = l := by
  rw [Ln.split_jn_true l (fun x hx => ⟨(h x hx).2, (h x hx).1.2.2⟩)]
theorem like {a b : List Bk} (ha : rgB a = true) (hb : rgB b = true) (hta : ttAll a ≤ 9000000) (htb : ttAll b ≤ 9000000) : Ln.jn (wl a) true = Ln.jn (wl b) true ↔ a = b := by
  constructor
  · intro h
    have h1 := split_jn (rg_lt ha)
    rw [h, split_jn (rg_lt hb)] at h1
    have h2 := back ha hta
    rw [← h1, back hb htb] at h2
    exact (Option.some.inj h2).symm
  · rintro rfl; rfl
def kdN (k : Int) : Nat := if k = 2 then 2 else if k = 3 then 3 else if k = 4 then 4 else if k = 5 then 5 else if k = 6 then 6 else if k = 8 then 7 else 8
theorem first_kind : ∀ x : Bk, ok1 E0 false x → ∃ s r, Bk.one x = s :: r ∧ kindOf E0 s = kdN x.kind ∧ ∃ c t, s = c :: t ∧ Ln.gapB c = false
  | .mk k lv info lines spans kids, h => by
    rw [ok1] at h
    rw [Bk.one]
    rcases h with ⟨hf, _⟩ | ⟨_, h⟩
    · cases hf
    rcases h with ⟨rfl, _, _, _, _, hp⟩ | ⟨rfl, _, _, _, hl, hg⟩ | ⟨rfl, _⟩ | ⟨rfl, _, _, _, ht, h96⟩ | ⟨rfl, _⟩ | ⟨rfl, _, _, _, _, hne, hk⟩ | ⟨rfl, _, _, _, hlab, d, rfl, hd⟩
    · rw [if_pos rfl]
      cases hs : (Ln.split (wrs spans)).1 with
      | nil => exact absurd hs hp.ne
      | cons s r =>
        have h8 := hp.k8 s (by rw [hs]; exact List.mem_cons_self ..)
        have ht := hp.tr s (by rw [hs]; exact List.mem_cons_self ..)
        refine ⟨s, r, rfl, h8, ?_⟩
        cases s with
        | nil => exact absurd h8 (by rw [Bk.kind_blank]; decide)
        | cons c t => exact ⟨c, t, rfl, Ln.trim_head (c :: t) c (by rw [ht]; rfl)⟩
    · rw [if_neg (by decide), if_pos rfl]
      obtain ⟨n, rfl⟩ : ∃ n : Nat, lv = n := ⟨lv.toNat, by omega⟩
      rw [Int.toNat_natCast]
      have h2 := (Bk.kind_head E0 n (by omega) (by omega) (if spans = [] then [] else 32 :: wrs spans) (by split; exact Or.inl rfl; exact Or.inr ⟨_, rfl⟩)).1
      obtain ⟨m, rfl⟩ : ∃ m, n = m + 1 := ⟨n - 1, by omega⟩
      exact ⟨_, [], rfl, h2, 35, List.replicate m 35 ++ _, by rw [List.replicate_succ, List.cons_append], by decide⟩
    · exact ⟨[45, 45, 45], [], rfl, Bk.kind_rule E0, 45, [45, 45], rfl, by decide⟩
    · rw [if_neg (by decide), if_neg (by decide), if_neg (by decide), if_pos rfl]
      have h3 := (Bk.ticksL_ge lines).1
      have h4 := (Bk.kind_fence E0 _ h3 info h96).1
      obtain ⟨m, hm⟩ : ∃ m, ticksL lines = m + 1 := ⟨ticksL lines - 1, by omega⟩
      exact ⟨_, _, rfl, h4, 96, List.replicate m 96 ++ info, by rw [hm, List.replicate_succ, List.cons_append], by decide⟩
    · rw [if_neg (by decide), if_neg (by decide), if_neg (by decide), if_neg (by decide), if_pos rfl]
      have hq : ∀ x, ∃ c t, preQ x = c :: t ∧ Ln.gapB c = false := fun x => by unfold preQ; split <;> exact ⟨62, _, rfl, by decide⟩
      split
      · exact ⟨_, [], rfl, Bk.kind_quote E0 [], 62, [], rfl, by decide⟩
      · rename_i hw
        cases hl : wl kids with
        | nil => exact absurd hl hw
        | cons s r => exact ⟨preQ s, r.map preQ, rfl, Bk.kind_quote E0 s, hq s⟩
    · rw [if_neg (by decide), if_neg (by decide), if_neg (by decide), if_neg (by decide), if_neg (by decide), if_pos rfl]
      cases kids with
      | nil => exact absurd rfl hne
      | cons b r =>
        obtain ⟨k', lv', info', lines', spans', kids'⟩ := b
        rw [oks] at hk
        have h1 := hk.1
        rw [ok1] at h1
        rcases h1 with ⟨_, rfl, _⟩ | ⟨hf, _⟩
        · rw [Bk.its_cons, Bk.one]
          simp only [show ¬ ((7 : Int) = 1) by decide, show ¬ ((7 : Int) = 2) by decide, show ¬ ((7 : Int) = 3) by decide, show ¬ ((7 : Int) = 4) by decide, show ¬ ((7 : Int) = 5) by decide, show ¬ ((7 : Int) = 6) by decide, if_true, if_false]
          cases hw : wl kids' with
          | nil => exact ⟨[45], its r, rfl, Bk.kind_item0 E0, 45, [], rfl, by decide⟩
          | cons s q => exact ⟨45 :: 32 :: s, q.map preI ++ its r, rfl, Bk.kind_item E0 s, 45, 32 :: s, rfl, by decide⟩
        · cases hf
    · simp only [show ¬ ((8 : Int) = 1) by decide, show ¬ ((8 : Int) = 2) by decide, show ¬ ((8 : Int) = 3) by decide, show ¬ ((8 : Int) = 4) by decide, show ¬ ((8 : Int) = 5) by decide, show ¬ ((8 : Int) = 6) by decide, show ¬ ((8 : Int) = 7) by decide, if_false]
      exact ⟨_, [], rfl, Bk.kind_def E0 info d hlab hd, 91, _, rfl, by decide⟩
end Go.Proofs.YtldllbmbcnipoabGreatDoor.Wr
