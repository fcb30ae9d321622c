import Derived.Test.YtldllbmbcnipoabGreatDoorBkRound
namespace Go.Proofs.YtldllbmbcnipoabGreatDoor.Bk
open Go.Proofs.YtldllbmbcnipoabGreatDoor.Ln (run mx trim run_yes run_no run_le run_le_mx mx_zero mx_none)
open Go.Proofs.YtldllbmbcnipoabGreatDoor.Sp (Sp wrs wr1 destB fits fit1 esc marked unmarked padded ticksOf ticksOf_ok padded_ne padded_head padded_lf)
set_option linter.unusedVariables false
variable (E : Env)
def ln (t : Tx) : Tx := t.takeWhile (· != 10)
theorem ln_app (a b : Tx) (h : (10 : UInt8) ∉ a) : ln (a ++ b) = a ++ ln b := by
  induction a with
  | nil => rfl
  | cons c a ih =>
    have hc : (c != 10) = true := by simp; exact fun e => h (by rw [e]; exact List.mem_cons_self ..)
    show List.takeWhile _ (c :: (a ++ b)) = _
    rw [List.takeWhile_cons_of_pos (p := fun x : UInt8 => x != 10) hc]
    show c :: ln (a ++ b) = _
    rw [ih (fun h' => h (List.mem_cons_of_mem _ h'))]
    rfl
theorem ln_lf (a b : Tx) (h : (10 : UInt8) ∉ a) : ln (a ++ 10 :: b) = a := by
  rw [ln_app a _ h]
  show a ++ List.takeWhile _ (10 :: b) = a
  rw [List.takeWhile_cons_of_neg (by simp), List.append_nil]
theorem ln_cons {c : UInt8} (h : c ≠ 10) (t : Tx) : ln (c :: t) = c :: ln t := List.takeWhile_cons_of_pos (by simpa using h)
theorem esc_cons (c : UInt8) (s : Tx) : esc (c :: s) = (if marked c then [92, c] else [c]) ++ esc s := by
  rw [esc]; split <;> rfl
theorem esc_app (a b : Tx) : esc (a ++ b) = esc a ++ esc b := by
  induction a with
  | nil => rfl
  | cons c a ih => rw [List.cons_append, esc_cons, esc_cons, ih, List.append_assoc]
theorem esc_10 (s : Tx) (h : (10 : UInt8) ∉ s) : (10 : UInt8) ∉ esc s := by
  induction s with
  | nil => simp [esc]
  | cons c s ih =>
    have hc : c ≠ 10 := fun e => h (by rw [e]; exact List.mem_cons_self ..)
    have := ih (fun h' => h (List.mem_cons_of_mem _ h'))
    rw [esc_cons]
    split <;> simp [this, Ne.symm hc]
theorem esc_93 : ∀ (s acc d : Tx), esc s = acc ++ 93 :: d → (92 : UInt8) ∈ acc
  | [], acc, d, h => by simp [esc] at h
  | c :: s, acc, d, h => by
    rw [esc_cons] at h
    cases hc : marked c with
    | true =>
      rw [hc, if_pos rfl] at h
      cases acc with
      | nil => simp at h
      | cons a acc => simp at h; rw [← h.1]; exact List.mem_cons_self ..
    | false =>
      rw [hc, if_neg (by decide)] at h
      have h93 := (unmarked c hc).2.2.2.1
      cases acc with
      | nil => simp at h; exact absurd h.1 h93
      | cons a acc =>
        simp at h
        exact List.mem_cons_of_mem _ (esc_93 s acc d h.2)
theorem split_10 {s : Tx} (h : (10 : UInt8) ∈ s) : ∃ a b, s = a ++ 10 :: b ∧ (10 : UInt8) ∉ a := by
  induction s with
  | nil => cases h
  | cons c s ih =>
    by_cases e : c = 10
    · subst e; exact ⟨[], s, rfl, by simp⟩
    · obtain ⟨a, b, rfl, ha⟩ := ih ((List.mem_cons.1 h).resolve_left (fun h' => e h'.symm))
      exact ⟨c :: a, b, rfl, by simp [ha, Ne.symm e]⟩
theorem esc_lf : ∀ (s rest pre u : Tx), esc s ++ rest = pre ++ 10 :: u → (∃ s1 s2, s = s1 ++ 10 :: s2 ∧ u = esc s2 ++ rest) ∨ (∃ p, rest = p ++ 10 :: u)
  | [], rest, pre, u, h => Or.inr ⟨pre, h⟩
  | c :: s, rest, pre, u, h => by
    rw [esc_cons] at h
    have go : ∀ p, esc s ++ rest = p ++ 10 :: u → (∃ s1 s2, c :: s = s1 ++ 10 :: s2 ∧ u = esc s2 ++ rest) ∨ (∃ p, rest = p ++ 10 :: u) := fun p hp => by
      rcases esc_lf s rest p u hp with ⟨s1, s2, e, hu⟩ | h'
      · exact Or.inl ⟨c :: s1, s2, by rw [e]; rfl, hu⟩
      · exact Or.inr h'
    cases hc : marked c with
    | true =>
      rw [hc, if_pos rfl] at h
      have h10 : c ≠ 10 := fun e => by subst e; cases hc
      cases pre with
      | nil => simp at h
      | cons a pre =>
        cases pre with
        | nil => simp at h; exact absurd h.2.1 h10
        | cons b pre => simp at h; exact go pre h.2.2
    | false =>
      rw [hc, if_neg (by decide)] at h
      cases pre with
      | nil =>
        simp at h
        exact Or.inl ⟨[], s, by rw [h.1]; rfl, h.2.symm⟩
      | cons a pre => simp at h; exact go pre h.2
inductive Cx : Tx → Prop
  | nil : Cx []
  | emph (e l : Bool) (R : List Sp) (K : Tx) : Cx K → fits e l 3 R → Cx (42 :: (wrs R ++ K))
  | link (e l : Bool) (s : Tx) (R : List Sp) (K : Tx) : Cx K → (∀ c ∈ s, destB c = true) → fits e l 4 R → Cx (93 :: 40 :: (s ++ 41 :: (wrs R ++ K)))
def Start (u : Tx) : Prop := ∃ (s : Tx) (R : List Sp) (K : Tx) (e l : Bool), u = esc s ++ (wrs R ++ K) ∧ Cx K ∧ fits e l 1 R
theorem code_10 (s : Tx) (h : (10 : UInt8) ∉ s) (n : Nat) : (10 : UInt8) ∉ List.replicate n (96 : UInt8) ++ (padded s ++ List.replicate n 96) := by
  have := padded_lf s h
  simp [this]
theorem dest_10 {s : Tx} (h : ∀ c ∈ s, destB c = true) : (10 : UInt8) ∉ s := fun h' => absurd (h 10 h') (by decide)
theorem lf_past {a b pre u : Tx} (ha : (10 : UInt8) ∉ a) (h : a ++ b = pre ++ 10 :: u) : ∃ p, b = p ++ 10 :: u := by
  rcases List.append_eq_append_iff.1 h with ⟨a', e1, e2⟩ | ⟨c', e1, e2⟩
  · exact ⟨a', e2⟩
  · cases c' with
    | nil => exact ⟨[], by simpa using e2.symm⟩
    | cons x c' =>
      simp at e2
      exact absurd (by rw [e1, ← e2.1]; simp) ha
theorem lf_start (e l : Bool) (prev : Int) (L : List Sp) (h : fits e l prev L) (K : Tx) (hK : Cx K) (hP : ∀ pre u, K = pre ++ 10 :: u → Start u) (pre u : Tx) (hu : wrs L ++ K = pre ++ 10 :: u) : Start u := by
  match L, h with
  | [], _ => rw [wrs, List.nil_append] at hu; exact hP pre u hu
  | .mk k s kids :: R, h =>
    rw [fits] at h
    obtain ⟨h1, h2, h3⟩ := h
    rw [fit1] at h1
    rw [wrs, wr1, List.append_assoc] at hu
    rcases h1 with ⟨rfl, rfl, hs⟩ | ⟨rfl, rfl, hs, h10⟩ | ⟨rfl, rfl, hk, rfl, hkids⟩ | ⟨rfl, hs, hd, hk, rfl, hkids⟩
    · rw [if_pos rfl] at hu
      rcases esc_lf s _ pre u hu with ⟨s1, s2, _, hu'⟩ | ⟨p, hp⟩
      · exact ⟨s2, R, K, e, l, hu', hK, h3⟩
      · exact lf_start e l 1 R h3 K hK hP p u hp
    · rw [if_neg (by decide), if_pos rfl] at hu
      obtain ⟨p, hp⟩ := lf_past (code_10 s h10 _) hu
      exact lf_start e l 2 R h3 K hK hP p u hp
    · rw [if_neg (by decide), if_neg (by decide), if_pos rfl] at hu
      have e1 : (42 :: (wrs kids ++ [42]) : Tx) ++ (wrs R ++ K) = [42] ++ (wrs kids ++ (42 :: (wrs R ++ K))) := by simp
      rw [e1] at hu
      obtain ⟨p, hp⟩ := lf_past (by simp) hu
      refine lf_start true l 0 kids hkids (42 :: (wrs R ++ K)) (Cx.emph false l R K hK h3) (fun pre' u' hu' => ?_) p u hp
      obtain ⟨p', hp'⟩ := lf_past (a := [42]) (b := wrs R ++ K) (by simp) hu'
      exact lf_start false l 3 R h3 K hK hP p' u' hp'
    · rw [if_neg (by decide), if_neg (by decide), if_neg (by decide), if_pos rfl] at hu
      have e1 : (91 :: (wrs kids ++ (93 :: 40 :: (s ++ [41]))) : Tx) ++ (wrs R ++ K) = [91] ++ (wrs kids ++ (93 :: 40 :: (s ++ 41 :: (wrs R ++ K)))) := by simp
      rw [e1] at hu
      obtain ⟨p, hp⟩ := lf_past (by simp) hu
      refine lf_start e true 0 kids hkids _ (Cx.link e false s R K hK hd h3) (fun pre' u' hu' => ?_) p u hp
      have e2 : (93 :: 40 :: (s ++ 41 :: (wrs R ++ K)) : Tx) = (93 :: 40 :: (s ++ [41])) ++ (wrs R ++ K) := by simp
      rw [e2] at hu'
      obtain ⟨p', hp'⟩ := lf_past (by have := dest_10 hd; simp [this]) hu'
      exact lf_start e false 4 R h3 K hK hP p' u' hp'
termination_by SizeOf.sizeOf L
theorem df_some : ∀ (t acc a d : Tx), df E acc t = some (a, d) → ∃ p, a = acc ++ p ∧ t = p ++ 93 :: 58 :: 32 :: d ∧ label E a = true ∧ isDest d = true
  | [], acc, a, d, h => by cases h
  | c :: t, acc, a, d, h => by
    by_cases hc : c = 93
    · subst hc
      by_cases ht : ∃ d', t = 58 :: 32 :: d'
      · obtain ⟨d', rfl⟩ := ht
        rw [df] at h
        split at h
        · rename_i hld
          simp only [Option.some.injEq, Prod.mk.injEq] at h
          obtain ⟨rfl, rfl⟩ := h
          rw [Bool.and_eq_true] at hld
          exact ⟨[], by simp, rfl, hld.1, hld.2⟩
        · obtain ⟨p, h1, h2, h3, h4⟩ := df_some _ _ a d h
          exact ⟨93 :: p, by rw [h1]; simp, by rw [h2]; rfl, h3, h4⟩
      · have hd : df E acc (93 :: t) = df E (acc ++ [93]) t := by
          rw [df]
          intro d' _ he
          exact ht ⟨d', he⟩
        rw [hd] at h
        obtain ⟨p, h1, h2, h3, h4⟩ := df_some t _ a d h
        exact ⟨93 :: p, by rw [h1]; simp, by rw [h2]; rfl, h3, h4⟩
    · rw [df_on E acc c t hc] at h
      obtain ⟨p, h1, h2, h3, h4⟩ := df_some t _ a d h
      exact ⟨c :: p, by rw [h1]; simp, by rw [h2]; rfl, h3, h4⟩
theorem past {C Z acc d : Tx} {x : UInt8} (h : C ++ Z = acc ++ x :: d) : (∃ a', acc = C ++ a' ∧ Z = a' ++ x :: d) ∨ (∃ c', C = acc ++ x :: c' ∧ d = c' ++ Z) := by
  rcases List.append_eq_append_iff.1 h with ⟨a', e1, e2⟩ | ⟨c', e1, e2⟩
  · exact Or.inl ⟨a', e1, e2⟩
  · cases c' with
    | nil => exact Or.inl ⟨[], by simpa using e1.symm, by simpa using e2.symm⟩
    | cons y c' =>
      simp at e2
      obtain ⟨rfl, e3⟩ := e2
      exact Or.inr ⟨c', e1, e3⟩
theorem first93 (e l : Bool) (prev : Int) (L : List Sp) (h : fits e l prev L) (K acc d : Tx) (hl : ln (wrs L ++ K) = acc ++ 93 :: d) (h93 : (93 : UInt8) ∉ acc) (h92 : (92 : UInt8) ∉ acc) :
    (96 : UInt8) ∈ d ∨ d.head? = some 40 ∨ ∃ acc', acc = wrs L ++ acc' ∧ ln K = acc' ++ 93 :: d := by
  match L, h with
  | [], _ => exact Or.inr (Or.inr ⟨acc, by rw [wrs]; rfl, by rw [wrs, List.nil_append] at hl; exact hl⟩)
  | .mk k s kids :: R, h =>
    rw [fits] at h
    obtain ⟨h1, h2, h3⟩ := h
    rw [fit1] at h1
    rw [wrs, wr1, List.append_assoc] at hl
    rw [wrs, wr1]
    rcases h1 with ⟨rfl, rfl, hs⟩ | ⟨rfl, rfl, hs, h10⟩ | ⟨rfl, rfl, hk, rfl, hkids⟩ | ⟨rfl, hs, hd, hk, rfl, hkids⟩
    · rw [if_pos rfl] at hl ⊢
      by_cases h10 : (10 : UInt8) ∈ s
      · obtain ⟨a, b, rfl, ha⟩ := split_10 h10
        rw [esc_app, show esc (10 :: b) = 10 :: esc b from by rw [esc_cons]; rfl, List.append_assoc, List.cons_append, ln_lf _ _ (esc_10 a ha)] at hl
        exact absurd (esc_93 a acc d hl) h92
      · rw [ln_app _ _ (esc_10 s h10)] at hl
        rcases past hl with ⟨a', rfl, e2⟩ | ⟨c', e1, e2⟩
        · rcases first93 e l 1 R h3 K a' d e2 (fun h' => h93 (List.mem_append_right _ h')) (fun h' => h92 (List.mem_append_right _ h')) with h | h | ⟨b, rfl, e4⟩
          · exact Or.inl h
          · exact Or.inr (Or.inl h)
          · exact Or.inr (Or.inr ⟨b, by rw [List.append_assoc], e4⟩)
        · exact absurd (esc_93 s acc c' e1) h92
    · rw [if_neg (by decide), if_pos rfl] at hl ⊢
      obtain ⟨_, hn⟩ := ticksOf_ok s
      rw [ln_app _ _ (code_10 s h10 _)] at hl
      generalize ticksOf s = n at *
      rcases past hl with ⟨a', rfl, e2⟩ | ⟨c', e1, rfl⟩
      · rcases first93 e l 2 R h3 K a' d e2 (fun h' => h93 (List.mem_append_right _ h')) (fun h' => h92 (List.mem_append_right _ h')) with h | h | ⟨b, rfl, e4⟩
        · exact Or.inl h
        · exact Or.inr (Or.inl h)
        · exact Or.inr (Or.inr ⟨b, by simp [List.append_assoc], e4⟩)
      · left
        have hlast : (List.replicate n (96 : UInt8) ++ (padded s ++ List.replicate n 96)).getLast? = some 96 := by
          obtain ⟨m, rfl⟩ : ∃ m, n = m + 1 := ⟨n - 1, by omega⟩
          rw [List.replicate_succ' (n := m) (a := (96 : UInt8)), ← List.append_assoc, ← List.append_assoc, List.getLast?_concat]
        rw [e1, List.getLast?_append] at hlast
        cases c' with
        | nil => simp at hlast
        | cons y c' =>
          rw [List.getLast?_cons_cons] at hlast
          cases hc : (y :: c' : Tx).getLast? with
          | none => simp at hc
          | some v =>
            rw [hc] at hlast
            simp at hlast
            subst hlast
            exact List.mem_append_left _ (List.mem_of_getLast? hc)
    · rw [if_neg (by decide), if_neg (by decide), if_pos rfl] at hl ⊢
      have e1 : (42 :: (wrs kids ++ [42]) : Tx) ++ (wrs R ++ K) = 42 :: (wrs kids ++ (42 :: (wrs R ++ K))) := by simp
      rw [e1, ln_cons (by decide)] at hl
      cases acc with
      | nil => simp at hl
      | cons a acc =>
        simp only [List.cons_append, List.cons.injEq] at hl
        obtain ⟨rfl, hl⟩ := hl
        rcases first93 true l 0 kids hkids _ acc d hl (fun h' => h93 (List.mem_cons_of_mem _ h')) (fun h' => h92 (List.mem_cons_of_mem _ h')) with h | h | ⟨b, rfl, e4⟩
        · exact Or.inl h
        · exact Or.inr (Or.inl h)
        · rw [ln_cons (by decide)] at e4
          cases b with
          | nil => simp at e4
          | cons b0 b =>
            simp only [List.cons_append, List.cons.injEq] at e4
            obtain ⟨rfl, e4⟩ := e4
            rcases first93 false l 3 R h3 K b d e4 (fun h' => h93 (by simp [h'])) (fun h' => h92 (by simp [h'])) with h | h | ⟨b', rfl, e5⟩
            · exact Or.inl h
            · exact Or.inr (Or.inl h)
            · exact Or.inr (Or.inr ⟨b', by simp, e5⟩)
    · rw [if_neg (by decide), if_neg (by decide), if_neg (by decide), if_pos rfl] at hl ⊢
      have e1 : (91 :: (wrs kids ++ (93 :: 40 :: (s ++ [41]))) : Tx) ++ (wrs R ++ K) = 91 :: (wrs kids ++ (93 :: 40 :: (s ++ 41 :: (wrs R ++ K)))) := by simp
      rw [e1, ln_cons (by decide)] at hl
      cases acc with
      | nil => simp at hl
      | cons a acc =>
        simp only [List.cons_append, List.cons.injEq] at hl
        obtain ⟨rfl, hl⟩ := hl
        rcases first93 e true 0 kids hkids _ acc d hl (fun h' => h93 (List.mem_cons_of_mem _ h')) (fun h' => h92 (List.mem_cons_of_mem _ h')) with h | h | ⟨b, rfl, e4⟩
        · exact Or.inl h
        · exact Or.inr (Or.inl h)
        · rw [ln_cons (by decide), ln_cons (by decide)] at e4
          cases b with
          | nil =>
            simp only [List.nil_append, List.cons.injEq, true_and] at e4
            exact Or.inr (Or.inl (by rw [← e4]; rfl))
          | cons b0 b =>
            simp only [List.cons_append, List.cons.injEq] at e4
            exact absurd (by rw [← e4.1]; simp) h93
termination_by SizeOf.sizeOf L
theorem kind_other (c : UInt8) (t : Tx) (hg : Ln.gapB c = false) (h1 : c ≠ 35) (h2 : c ≠ 45) (h3 : c ≠ 96) (h4 : c ≠ 62) (h5 : c ≠ 91) : kindOf E (c :: t) = 8 := by
  have hd : define E (c :: t) = none := by
    unfold define
    split
    · rename_i he; simp at he; exact absurd he.1 h5
    · rfl
  unfold kindOf
  rw [hd, if_neg (trim_ne hg t), run_head h1, run_head h2, run_head h3, if_neg (by omega), if_neg (by omega), if_neg (by omega), if_neg (by simp [h4]), if_neg (by simp [h2]), if_neg (by simp)]
theorem kind_code (n : Nat) (hn : 0 < n) (p r : Tx) (hp : p ≠ []) (hh : p.head? ≠ some 96) : kindOf E (List.replicate n 96 ++ (p ++ (List.replicate n 96 ++ r))) = 8 := by
  have hhead : (p ++ (List.replicate n 96 ++ r)).head? ≠ some 96 := by
    cases p with
    | nil => exact absurd rfl hp
    | cons c p => exact hh
  have hr := run_reps 96 _ hhead n
  have hdr : (List.replicate n (96 : UInt8) ++ (p ++ (List.replicate n 96 ++ r))).drop n = p ++ (List.replicate n 96 ++ r) := List.drop_left' (List.length_replicate ..)
  have hmx : mx 96 (p ++ (List.replicate n 96 ++ r)) ≠ 0 := fun h0 => mx_zero 96 _ h0 (by
    obtain ⟨m, rfl⟩ : ∃ m, n = m + 1 := ⟨n - 1, by omega⟩
    simp [List.replicate_succ])
  obtain ⟨m, rfl⟩ : ∃ m, n = m + 1 := ⟨n - 1, by omega⟩
  have e : List.replicate (m + 1) (96 : UInt8) ++ (p ++ (List.replicate (m + 1) 96 ++ r)) = 96 :: (List.replicate m 96 ++ (p ++ (List.replicate (m + 1) 96 ++ r))) := by rw [List.replicate_succ, List.cons_append]
  rw [e] at hr hdr ⊢
  have hd : define E (96 :: (List.replicate m 96 ++ (p ++ (List.replicate (m + 1) 96 ++ r)))) = none := rfl
  unfold kindOf
  rw [hr, hdr, hd, if_neg (trim_ne (by decide) _), run_head (by decide), run_head (by decide), if_neg (by omega), if_neg (by omega), if_neg (fun h => hmx h.2), if_neg (by simp), if_neg (by simp), if_neg (by simp)]
theorem kind_link (t : Tx) (h : define E (91 :: t) = none) : kindOf E (91 :: t) = 8 := by
  unfold kindOf
  rw [h, if_neg (trim_ne (by decide) _), run_head (by decide), run_head (by decide), run_head (by decide), if_neg (by omega), if_neg (by omega), if_neg (by omega), if_neg (by simp), if_neg (by simp), if_neg (by simp)]
theorem label_92 (s : Tx) (h : label E s = true) : (92 : UInt8) ∉ s := by
  unfold label at h
  simp only [Bool.and_eq_true] at h
  simpa using h.2
theorem kind_start (u : Tx) (hS : Start u) (c : UInt8) (t : Tx) (hl : ln u = c :: t) (hg : Ln.gapB c = false) : kindOf E (ln u) = 8 := by
  obtain ⟨s, R, K, e, l, rfl, hK, hR⟩ := hS
  cases s with
  | cons c0 s =>
    have hc : ∃ x y, esc (c0 :: s) ++ (wrs R ++ K) = x :: y ∧ (x = 92 ∨ (x = c0 ∧ marked c0 = false)) := by
      rw [esc_cons]
      cases hm : marked c0 with
      | true => exact ⟨92, c0 :: (esc s ++ (wrs R ++ K)), by simp, Or.inl rfl⟩
      | false => exact ⟨c0, esc s ++ (wrs R ++ K), by simp, Or.inr ⟨rfl, rfl⟩⟩
    obtain ⟨x, y, hxy, hx⟩ := hc
    rw [hxy] at hl ⊢
    have hx10 : x ≠ 10 := by
      intro e10
      rw [e10] at hl
      unfold ln at hl
      rw [List.takeWhile_cons_of_neg (by simp)] at hl
      cases hl
    rw [ln_cons hx10] at hl ⊢
    simp only [List.cons.injEq] at hl
    obtain ⟨rfl, _⟩ := hl
    rcases hx with rfl | ⟨rfl, hm⟩
    · exact kind_other E _ _ (by decide) (by decide) (by decide) (by decide) (by decide) (by decide)
    · have hmm := hm
      simp only [marked, List.contains_eq_mem, List.mem_cons, List.mem_nil_iff, or_false, decide_eq_false_iff_not, not_or] at hmm
      exact kind_other E _ _ hg hmm.2.2.2.2.1 hmm.2.2.2.2.2.2.1 hmm.2.2.2.2.2.2.2 hmm.2.2.2.2.2.1 hmm.2.2.1
  | nil =>
    rw [show esc ([] : Tx) = [] from rfl, List.nil_append] at hl ⊢
    match R, hR with
    | [], _ =>
      rw [wrs, List.nil_append] at hl ⊢
      cases hK with
      | nil => cases hl
      | emph e l R K _ _ =>
        rw [ln_cons (by decide)]
        exact kind_other E _ _ (by decide) (by decide) (by decide) (by decide) (by decide) (by decide)
      | link e l s R K _ _ _ =>
        rw [ln_cons (by decide)]
        exact kind_other E _ _ (by decide) (by decide) (by decide) (by decide) (by decide) (by decide)
    | .mk k s kids :: R, hR =>
      rw [fits] at hR
      obtain ⟨h1, h2, h3⟩ := hR
      rw [fit1] at h1
      rw [wrs, wr1, List.append_assoc] at hl ⊢
      rcases h1 with ⟨rfl, rfl, hs⟩ | ⟨rfl, rfl, hs, h10⟩ | ⟨rfl, rfl, hk, rfl, hkids⟩ | ⟨rfl, hs, hd, hk, rfl, hkids⟩
      · exact absurd ⟨rfl, by decide⟩ h2
      · rw [if_neg (by decide), if_pos rfl, ln_app _ _ (code_10 s h10 _), List.append_assoc, List.append_assoc]
        exact kind_code E _ (ticksOf_ok s).2 _ _ (padded_ne s hs) (padded_head s)
      · rw [if_neg (by decide), if_neg (by decide), if_pos rfl, List.cons_append, ln_cons (by decide)]
        exact kind_other E _ _ (by decide) (by decide) (by decide) (by decide) (by decide) (by decide)
      · have e1 : (91 :: (wrs kids ++ (93 :: 40 :: (s ++ [41]))) : Tx) ++ (wrs R ++ K) = 91 :: (wrs kids ++ (93 :: 40 :: (s ++ 41 :: (wrs R ++ K)))) := by simp
        rw [if_neg (by decide), if_neg (by decide), if_neg (by decide), if_pos rfl, e1, ln_cons (by decide)]
        apply kind_link
        show df E [] (ln (wrs kids ++ (93 :: 40 :: (s ++ 41 :: (wrs R ++ K))))) = none
        cases hdf : df E [] (ln (wrs kids ++ (93 :: 40 :: (s ++ 41 :: (wrs R ++ K))))) with
        | none => rfl
        | some p =>
          exfalso
          obtain ⟨a, d⟩ := p
          obtain ⟨p, ha, hp, hlab, hdest⟩ := df_some E _ [] a d hdf
          rw [List.nil_append] at ha
          subst ha
          have hall : ∀ x ∈ d, destB x = true := by
            unfold isDest at hdest
            rw [Bool.and_eq_true, List.all_eq_true] at hdest
            exact hdest.2
          rcases first93 e true 0 kids hkids _ _ (58 :: 32 :: d) hp (label_no E _ hlab) (label_92 E _ hlab) with h | h | ⟨b, rfl, e4⟩
          · simp at h
            exact absurd (hall 96 h) (by decide)
          · simp at h
          · rw [ln_cons (by decide), ln_cons (by decide)] at e4
            cases b with
            | nil => simp at e4
            | cons b0 b =>
              simp only [List.cons_append, List.cons.injEq] at e4
              exact label_no E _ hlab (by rw [← e4.1]; simp)
end Go.Proofs.YtldllbmbcnipoabGreatDoor.Bk
