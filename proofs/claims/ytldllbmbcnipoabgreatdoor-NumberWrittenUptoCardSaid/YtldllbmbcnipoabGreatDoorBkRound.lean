import Derived.Test.YtldllbmbcnipoabGreatDoorPkWW
namespace Go.Proofs.YtldllbmbcnipoabGreatDoor.Bk
open Go.Proofs.YtldllbmbcnipoabGreatDoor.Ln (run mx trim run_yes run_no run_le run_le_mx dr_cons dl_no dl_yes dr_dl mx_none)
open Go.Proofs.YtldllbmbcnipoabGreatDoor.Sp (Sp wrs destB)
set_option linter.unusedVariables false
variable (E : Env)
theorem kind_one (s : Tx) : kindOf E s = 1 ↔ trim s = [] := by
  unfold kindOf
  constructor
  · intro h
    by_cases ht : trim s = []
    · exact ht
    · exfalso
      rw [if_neg ht] at h
      revert h
      repeat' split
      all_goals omega
  · intro h; rw [if_pos h]
theorem trim_sp (s : Tx) : trim (32 :: s) = trim s := by
  unfold trim
  rw [← dr_dl, ← dr_dl, dl_yes (by decide)]
theorem trim_preI (s : Tx) (h : trim s ≠ []) : trim (preI s) ≠ [] := by
  unfold preI
  split
  · rename_i e; subst e; exact absurd rfl h
  · rw [trim_sp, trim_sp]; exact h
def Ends (l : List Tx) : Prop := ∃ p s, l = p ++ [s] ∧ trim s ≠ []
theorem Ends.app {a b : List Tx} (h : Ends b) : Ends (a ++ b) := by
  obtain ⟨p, s, rfl, hs⟩ := h
  exact ⟨a ++ p, s, by simp, hs⟩
theorem Ends.cons {a : Tx} {b : List Tx} (h : Ends b) : Ends (a :: b) := Ends.app (a := [a]) h
theorem ends_one {s : Tx} (h : trim s ≠ []) : Ends [s] := ⟨[], s, rfl, h⟩
theorem ends_item (l : List Tx) (h : l = [] ∨ Ends l) : Ends (itemW l) := by
  cases l with
  | nil => exact ends_one (trim_ne (by decide) [])
  | cons s r =>
    have hE := h.resolve_left (by simp)
    obtain ⟨p, x, e, hx⟩ := hE
    cases p with
    | nil =>
      simp at e
      obtain ⟨rfl, rfl⟩ := e
      exact ends_one (trim_ne (by decide) _)
    | cons y p =>
      simp at e
      obtain ⟨rfl, rfl⟩ := e
      show Ends ((45 :: 32 :: s) :: (p ++ [x]).map preI)
      rw [List.map_append]
      exact Ends.cons ⟨p.map preI, preI x, rfl, trim_preI x hx⟩
mutual
theorem ends1 (list : Bool) (k lv : Int) (info : Tx) (lines : List Tx) (spans : List Sp) (kids : List Bk) (h : ok1 E list (.mk k lv info lines spans kids)) : Ends (one (.mk k lv info lines spans kids)) := by
  rw [ok1] at h
  rw [one]
  rcases h with ⟨rfl, rfl, _, _, _, _, hk⟩ | ⟨rfl, h⟩
  · have := ends_item (wl kids) (endsL false false kids hk)
    simpa using this
  rcases h with ⟨rfl, _, _, _, _, hp⟩ | ⟨rfl, _, _, _, hl, hg⟩ | ⟨rfl, _⟩ | ⟨rfl, _, _, _, ht, h96⟩ | ⟨rfl, _⟩ | ⟨rfl, _, _, _, _, hne, hk⟩ | ⟨rfl, _, _, _, hlab, d, rfl, hd⟩
  · rw [if_pos rfl]
    refine ⟨(Ln.split (wrs spans)).1.dropLast, (Ln.split (wrs spans)).1.getLast hp.ne, (List.dropLast_concat_getLast hp.ne).symm, fun e => ?_⟩
    have := hp.k8 _ (List.getLast_mem hp.ne)
    rw [(kind_one E _).2 e] at this
    cases this
  · rw [if_neg (by decide), if_pos rfl]
    obtain ⟨n, rfl⟩ : ∃ n : Nat, lv = n := ⟨lv.toNat, by omega⟩
    rw [Int.toNat_natCast]
    obtain ⟨m, rfl⟩ : ∃ m, n = m + 1 := ⟨n - 1, by omega⟩
    rw [List.replicate_succ, List.cons_append]
    exact ends_one (trim_ne (by decide) _)
  · exact ends_one (trim_ne (by decide) _)
  · rw [if_neg (by decide), if_neg (by decide), if_neg (by decide), if_pos rfl]
    have h3 : 3 ≤ ticksL lines := by
      unfold ticksL
      clear ht h96
      induction lines with
      | nil => exact Nat.le_refl _
      | cons x l ih => show 3 ≤ max _ _; omega
    obtain ⟨m, hm⟩ : ∃ m, ticksL lines = m + 1 := ⟨ticksL lines - 1, by omega⟩
    refine Ends.cons (Ends.app (ends_one ?_))
    rw [hm, List.replicate_succ]
    exact trim_ne (by decide) _
  · rw [if_neg (by decide), if_neg (by decide), if_neg (by decide), if_neg (by decide), if_pos rfl]
    have hq : ∀ x, trim (preQ x) ≠ [] := fun x => by unfold preQ; split <;> exact trim_ne (by decide) _
    split
    · exact ends_one (hq [])
    · rename_i hw
      refine ⟨((wl kids).dropLast).map preQ, preQ ((wl kids).getLast hw), ?_, hq _⟩
      conv => lhs; rw [← List.dropLast_concat_getLast hw]
      rw [List.map_append]
      rfl
  · rw [if_neg (by decide), if_neg (by decide), if_neg (by decide), if_neg (by decide), if_neg (by decide), if_pos rfl]
    exact endsI false kids hk hne
  · simp only [show ¬ ((8 : Int) = 1) by decide, show ¬ ((8 : Int) = 2) by decide, show ¬ ((8 : Int) = 3) by decide, show ¬ ((8 : Int) = 4) by decide, show ¬ ((8 : Int) = 5) by decide, show ¬ ((8 : Int) = 6) by decide, show ¬ ((8 : Int) = 7) by decide, if_false]
    exact ends_one (trim_ne (by decide) _)
termination_by SizeOf.sizeOf kids + 1
theorem endsL (list prev : Bool) (L : List Bk) (h : oks E list prev L) : wl L = [] ∨ Ends (wl L) := by
  match L, h with
  | [], _ => left; rw [wl]
  | .mk k lv info lines spans kids :: [], h =>
    rw [oks] at h
    right
    rw [wl_one]
    exact ends1 list k lv info lines spans kids h.1
  | .mk k lv info lines spans kids :: c :: r, h =>
    rw [oks] at h
    right
    rw [wl_two]
    have := endsL list (k == 6) (c :: r) h.2.2
    have hne := wl_ne E h.2.2
    exact Ends.app (Ends.cons (this.resolve_left hne))
termination_by SizeOf.sizeOf L
theorem endsI (prev : Bool) (L : List Bk) (h : oks E true prev L) (hne : L ≠ []) : Ends (its L) := by
  match L, h with
  | [], _ => exact absurd rfl hne
  | .mk k lv info lines spans kids :: [], h =>
    rw [oks] at h
    rw [its_cons, its, List.append_nil]
    exact ends1 true k lv info lines spans kids h.1
  | .mk k lv info lines spans kids :: c :: r, h =>
    rw [oks] at h
    rw [its_cons]
    exact Ends.app (endsI (k == 6) (c :: r) h.2.2 (by simp))
termination_by SizeOf.sizeOf L
end
def Tail (t : List Tx) : Prop := t = [] ∨ ∃ r, t = [] :: r
theorem spanK_all (k : Nat) (hk : k ≠ 1) (t : List Tx) (ht : Tail t) : ∀ l : List Tx, (∀ s ∈ l, kindOf E s = k) → spanK E k (l ++ t) = (l, t)
  | [], _ => by
    rcases ht with rfl | ⟨r, rfl⟩
    · rfl
    · rw [List.nil_append, spanK, if_neg (by rw [kind_blank]; exact fun e => hk e.symm)]
  | s :: l, h => by
    rw [List.cons_append, spanK, if_pos (h s (List.mem_cons_self ..)), spanK_all k hk t ht l (fun x hx => h x (List.mem_cons_of_mem _ hx))]
theorem ticksL_ge (l : List Tx) : 3 ≤ ticksL l ∧ ∀ s ∈ l, mx 96 s + 1 ≤ ticksL l := by
  unfold ticksL
  induction l with
  | nil => exact ⟨Nat.le_refl _, fun s h => by cases h⟩
  | cons x l ih =>
    obtain ⟨h1, h2⟩ := ih
    refine ⟨by show 3 ≤ max _ _; omega, fun s hs => ?_⟩
    show _ ≤ max (mx 96 x + 1) _
    rcases List.mem_cons.1 hs with rfl | hs
    · omega
    · have := h2 s hs; omega
theorem fenceL_ok (n : Nat) (hn : 0 < n) (t : List Tx) : ∀ l : List Tx, (∀ s ∈ l, mx 96 s + 1 ≤ n) → fenceL n (l ++ (List.replicate n 96 :: t)) = (l, t)
  | [], _ => by
    have hr : run 96 (List.replicate n (96 : UInt8)) = n := by
      have := run_reps 96 [] (by simp) n
      rwa [List.append_nil] at this
    rw [List.nil_append, fenceL, if_pos]
    unfold closes
    rw [hr]
    simp
    exact hn
  | s :: l, h => by
    have hs := h s (List.mem_cons_self ..)
    have hm := run_le_mx 96 s
    rw [List.cons_append, fenceL, if_neg, fenceL_ok n hn t l (fun x hx => h x (List.mem_cons_of_mem _ hx))]
    unfold closes
    simp
    intro _ h1 h2
    omega
theorem inner_preI (s : Tx) : inner (preI s) = some s := by
  unfold preI
  split
  · rename_i e; subst e; rfl
  · unfold inner; rw [if_pos (show (32 :: 32 :: s).take 2 = [32, 32] from rfl)]; rfl
theorem itemL_pre (t : List Tx) (ht : itemL E t = ([], t)) : ∀ r : List Tx, (r = [] ∨ Ends r) → itemL E (r.map preI ++ t) = (r, t)
  | [], _ => ht
  | x :: r, h => by
    have hE := h.resolve_left (by simp)
    have hr : r = [] ∨ Ends r := by
      obtain ⟨p, s, e, hs⟩ := hE
      cases p with
      | nil => simp at e; exact Or.inl e.2
      | cons y p => simp at e; exact Or.inr ⟨p, s, e.2, hs⟩
    have ih := itemL_pre t ht r hr
    rw [List.map_cons, List.cons_append, itemL, inner_preI]
    simp only
    rw [ih]
    rw [if_neg]
    rintro ⟨h1, h2⟩
    obtain ⟨p, s, e, hs⟩ := hE
    simp only at h1
    subst h1
    cases p with
    | nil =>
      simp at e
      subst e
      exact trim_preI _ hs ((kind_one E _).1 h2)
    | cons y p => simp at e
structure Behind (t : List Tx) : Prop where
  it : itemL E t = ([], t)
  no : dropBlank E t = [] ∨ ∃ s r, dropBlank E t = s :: r ∧ kindOf E s ≠ 6
def il : Bk → List Tx
  | .mk _ _ _ _ _ kids => if wl kids = [] then [[]] else wl kids
theorem il_eq (k lv : Int) (info : Tx) (lines : List Tx) (spans : List Sp) (kids : List Bk) : il (.mk k lv info lines spans kids) = if wl kids = [] then [[]] else wl kids := rfl
theorem item_stop {s : Tx} (h : inner s = none) (l : List Tx) : itemL E (s :: l) = ([], s :: l) := by rw [itemL, h]
theorem listL_ok (t : List Tx) (ht : Behind E t) : ∀ (L : List Bk) (prev : Bool) (f : Nat), L ≠ [] → oks E true prev L → L.length ≤ f → listL E f (its L ++ t) = (L.map il, t)
  | [], _, _, h, _, _ => absurd rfl h
  | .mk k lv info lines spans kids :: R, prev, f, _, h, hf => by
    obtain ⟨f, rfl⟩ : ∃ f', f = f' + 1 := ⟨f - 1, by simp at hf; omega⟩
    rw [oks] at h
    obtain ⟨h1, _, hR⟩ := h
    rw [ok1] at h1
    rcases h1 with ⟨_, rfl, rfl, rfl, rfl, rfl, hk⟩ | ⟨hf', _⟩
    · have hone : one (.mk 7 0 [] [] [] kids) = itemW (wl kids) := by rw [one]; simp
      rw [its_cons, hone, List.append_assoc]
      have hbehind : itemL E (its R ++ t) = ([], its R ++ t) ∧ (R ≠ [] → ∃ s q, its R ++ t = s :: q ∧ kindOf E s = 6) := by
        cases R with
        | nil => rw [its, List.nil_append]; exact ⟨ht.it, fun h => absurd rfl h⟩
        | cons c R =>
          obtain ⟨k2, lv2, info2, lines2, spans2, kids2⟩ := c
          rw [oks] at hR
          have h2 := hR.1
          rw [ok1] at h2
          rcases h2 with ⟨_, rfl, _⟩ | ⟨hf2, _⟩
          · obtain ⟨s, q, e, h6, hi⟩ := itemW_first E (wl kids2)
            have hs : its (.mk 7 lv2 info2 lines2 spans2 kids2 :: R) ++ t = s :: (q ++ (its R ++ t)) := by
              rw [its_cons, one]
              simp [e]
            rw [hs]
            exact ⟨item_stop E hi _, fun _ => ⟨s, _, rfl, h6⟩⟩
          · cases hf2
      have step : ∀ s l x, itemW (wl kids) ++ (its R ++ t) = s :: l → itemL E l = (x, its R ++ t) → unitem s :: x = il (.mk 7 0 [] [] [] kids) → listL E (f + 1) (s :: l) = ((.mk 7 0 [] [] [] kids :: R).map il, t) := by
        intro s l x he hx hu
        rw [listL, hx]
        simp only
        by_cases hRn : R = []
        · subst hRn
          rw [its, List.nil_append]
          rcases ht.no with h0 | ⟨s', r', h0, h6⟩
          · rw [h0]; simp only; rw [hu]; rfl
          · rw [h0]; simp only; rw [if_neg h6, hu]; rfl
        · obtain ⟨s', q', e', h6⟩ := hbehind.2 hRn
          have hd : dropBlank E (its R ++ t) = s' :: q' := by rw [e', dropBlank, if_neg (by rw [h6]; decide)]
          have ih := listL_ok t ht R _ f hRn hR (by simp at hf; omega)
          rw [hd]
          simp only
          rw [if_pos h6, ← e', ih, hu]
          rfl
      cases hw : wl kids with
      | nil =>
        rw [hw] at step
        exact step [45] (its R ++ t) [] rfl hbehind.1 (by rw [il_eq, if_pos hw]; rfl)
      | cons s0 r0 =>
        have hen := (endsL E false false kids hk).resolve_left (by rw [hw]; simp)
        rw [hw] at hen
        have hr0 : r0 = [] ∨ Ends r0 := by
          obtain ⟨p, s, e, hs⟩ := hen
          cases p with
          | nil => simp at e; exact Or.inl e.2
          | cons y p => simp at e; exact Or.inr ⟨p, s, e.2, hs⟩
        rw [hw] at step
        exact step (45 :: 32 :: s0) (r0.map preI ++ (its R ++ t)) r0 rfl (itemL_pre E _ hbehind.1 r0 hr0) (by rw [il_eq, if_neg (by rw [hw]; simp), hw]; rfl)
    · cases hf'
def tl (r : List Bk) : List Tx := match r with | [] => [] | _ :: _ => [] :: wl r
theorem wl_tl (b : Bk) (r : List Bk) : wl (b :: r) = one b ++ tl r := by
  cases r with
  | nil => rw [wl_one]; simp [tl]
  | cons c r => rw [wl_two]; rfl
theorem tl_tail (r : List Bk) : Tail (tl r) := by
  cases r with
  | nil => exact Or.inl rfl
  | cons c r => exact Or.inr ⟨_, rfl⟩
theorem wl_first {prev : Bool} {k lv : Int} {info : Tx} {lines : List Tx} {spans : List Sp} {kids r : List Bk} (h : oks E false prev (.mk k lv info lines spans kids :: r)) : ∃ s q, wl (.mk k lv info lines spans kids :: r) = s :: q ∧ First E k s := by
  rw [oks] at h
  obtain ⟨s, q, e, hF⟩ := first_of E false k lv info lines spans kids h.1
  exact ⟨s, q ++ tl r, by rw [wl_tl, e]; rfl, hF⟩
theorem behind_tl {r : List Bk} (h : oks E false true r) : Behind E (tl r) := by
  cases r with
  | nil => exact ⟨rfl, Or.inl rfl⟩
  | cons c r =>
    obtain ⟨k, lv, info, lines, spans, kids⟩ := c
    obtain ⟨s, q, e, hF⟩ := wl_first E h
    rw [oks] at h
    have h7 : k ≠ 7 := by
      intro e7
      subst e7
      have := h.1
      rw [ok1] at this
      rcases this with ⟨hf, _⟩ | ⟨_, h'⟩
      · cases hf
      · rcases h' with ⟨h', _⟩ | ⟨h', _⟩ | ⟨h', _⟩ | ⟨h', _⟩ | ⟨h', _⟩ | ⟨h', _⟩ | ⟨h', _⟩ <;> exact absurd h' (by decide)
    have h6 : kindOf E s ≠ 6 := fun e6 => by
      rcases hF.it.1 e6 with h' | h'
      · exact h.2.1 ⟨rfl, h'⟩
      · exact h7 h'
    show Behind E ([] :: wl (.mk k lv info lines spans kids :: r))
    rw [e]
    have hs := item_stop E hF.inn q
    refine ⟨?_, Or.inr ⟨s, q, ?_, h6⟩⟩
    · rw [itemL]
      show (if (itemL E (s :: q)).1 = [] ∧ kindOf E [] = 1 then _ else _) = _
      rw [hs, if_pos ⟨rfl, kind_blank E⟩]
    · rw [dropBlank, if_pos (kind_blank E), dropBlank, if_neg hF.nb]
theorem unquote_preQ (s : Tx) : unquote (preQ s) = s := by
  unfold preQ
  split
  · rename_i e; subst e; rfl
  · rfl
theorem map_unquote (l : List Tx) : (l.map preQ).map unquote = l := by
  rw [List.map_map]
  conv => rhs; rw [← List.map_id l]
  exact List.map_congr_left (fun s _ => unquote_preQ s)
theorem its_len (L : List Bk) (prev : Bool) (h : oks E true prev L) : L.length ≤ (its L).length := by
  induction L generalizing prev with
  | nil => exact Nat.le_refl _
  | cons b r ih =>
    obtain ⟨k, lv, info, lines, spans, kids⟩ := b
    rw [oks] at h
    obtain ⟨s, q, e, _⟩ := first_of E true k lv info lines spans kids h.1
    have := ih _ h.2.2
    rw [its_cons, e]
    simp only [List.cons_append, List.length_cons, List.length_append]
    omega
theorem allB_blank (f deep : Nat) (hd : deep ≤ 16) (hf : 2 ≤ f) : allB E f deep [[]] = some [] := by
  obtain ⟨f, rfl⟩ : ∃ f', f = f' + 2 := ⟨f - 2, by omega⟩
  rw [allB, if_neg (by omega), if_pos (kind_blank E), allB, if_neg (by omega)]
theorem map_trim (l : List Tx) (h : ∀ s ∈ l, trim s = s) : l.map trim = l := by
  conv => rhs; rw [← List.map_id l]
  exact List.map_congr_left (fun s hs => h s hs)
mutual
theorem all_back (prev : Bool) (L : List Bk) (h : oks E false prev L) (deep f : Nat) (hd : deep + dps L ≤ 16) (hf : (wl L).length + 18 ≤ f + deep) : allB E f deep (wl L) = some L := by
  match L, h with
  | [], _ =>
    obtain ⟨f, rfl⟩ : ∃ f', f = f' + 1 := ⟨f - 1, by omega⟩
    rw [wl, allB, if_neg (by omega)]
  | .mk k lv info lines spans kids :: r, h =>
    obtain ⟨s, q, e, hF⟩ := wl_first E h
    have hokr := h
    rw [oks] at h
    obtain ⟨h1, h2, hr⟩ := h
    rw [dps] at hd
    obtain ⟨s', q', e', _⟩ := first_of E false k lv info lines spans kids h1
    have hwl := wl_tl (.mk k lv info lines spans kids) r
    have hlen : (wl (.mk k lv info lines spans kids :: r)).length = (one (.mk k lv info lines spans kids)).length + (tl r).length := by rw [hwl, List.length_append]
    have hone : 1 ≤ (one (.mk k lv info lines spans kids)).length := by rw [e']; simp
    obtain ⟨f, rfl⟩ : ∃ f', f = f' + 2 := ⟨f - 2, by omega⟩
    have hblock : blockB E (allB E (f + 1)) deep s q = some (.mk k lv info lines spans kids, tl r) := by
      have hsq : s :: q = one (.mk k lv info lines spans kids) ++ tl r := by rw [← hwl, e]
      have h1' := h1
      rw [ok1] at h1'
      rcases h1' with ⟨hl, _⟩ | ⟨_, h1'⟩
      · cases hl
      rw [dp1] at hd
      rw [one] at hsq hlen hone
      rcases h1' with ⟨rfl, rfl, rfl, rfl, rfl, hp⟩ | ⟨rfl, rfl, rfl, rfl, hl, hg⟩ | ⟨rfl, rfl, rfl, rfl, rfl, rfl⟩ | ⟨rfl, rfl, rfl, rfl, ht, h96⟩ | ⟨rfl, rfl, rfl, rfl, rfl, hk⟩ | ⟨rfl, rfl, rfl, rfl, rfl, hne, hk⟩ | ⟨rfl, rfl, rfl, rfl, hlab, d, rfl, hdd⟩
      · rw [if_pos rfl] at hsq
        have h8 : kindOf E s = 8 := by
          cases hsp : (Ln.split (wrs spans)).1 with
          | nil => exact absurd hsp hp.ne
          | cons x l =>
            rw [hsp] at hsq
            simp at hsq
            rw [hsq.1]
            exact hp.k8 x (by rw [hsp]; exact List.mem_cons_self ..)
        unfold blockB
        rw [h8]
        simp only [show ¬ ((8 : Nat) = 2) by decide, show ¬ ((8 : Nat) = 3) by decide, show ¬ ((8 : Nat) = 4) by decide, show ¬ ((8 : Nat) = 5) by decide, show ¬ ((8 : Nat) = 6) by decide, show ¬ ((8 : Nat) = 7) by decide, if_false]
        rw [hsq, spanK_all E 8 (by decide) _ (tl_tail r) _ hp.k8]
        simp only
        rw [map_trim _ hp.tr, hp.rd]
      · rw [if_neg (by decide), if_pos rfl] at hsq
        simp at hsq
        obtain ⟨hs, hq⟩ := hsq
        obtain ⟨n, rfl⟩ : ∃ n : Nat, lv = n := ⟨lv.toNat, by omega⟩
        rw [Int.toNat_natCast] at hs
        obtain ⟨k2, r2⟩ := kind_head E n (by omega) (by omega) (if spans = [] then [] else 32 :: wrs spans) (by split; exact Or.inl rfl; exact Or.inr ⟨_, rfl⟩)
        rw [← hs] at k2 r2
        unfold blockB
        rw [if_pos k2, r2, hs, List.drop_left' (List.length_replicate ..)]
        congr 1
        congr 1
        · by_cases hsn : spans = []
          · subst hsn
            rw [if_pos rfl]
            show Bk.mk 2 n [] [] (parse (trim [])) [] = _
            rfl
          · rw [if_neg hsn, hg.tr hsn, hg.rd]
      · rw [if_neg (by decide), if_neg (by decide), if_pos rfl] at hsq
        simp at hsq
        obtain ⟨hs, hq⟩ := hsq
        unfold blockB
        rw [hs, kind_rule]
        simp [hq]
      · rw [if_neg (by decide), if_neg (by decide), if_neg (by decide), if_pos rfl] at hsq
        simp at hsq
        obtain ⟨hs, hq⟩ := hsq
        obtain ⟨g1, g2⟩ := ticksL_ge lines
        obtain ⟨k4, r4⟩ := kind_fence E (ticksL lines) g1 info h96
        rw [← hs] at k4 r4
        unfold blockB
        rw [k4]
        simp only [show ¬ ((4 : Nat) = 2) by decide, show ¬ ((4 : Nat) = 3) by decide, if_false, if_true]
        rw [r4, hq, fenceL_ok (ticksL lines) (by omega) (tl r) lines g2, hs, List.drop_left' (List.length_replicate ..), ht]
      · rw [if_neg (by decide), if_neg (by decide), if_neg (by decide), if_neg (by decide), if_pos rfl] at hsq hlen
        have hd' : deep + 1 + dps kids ≤ 16 := by simp at hd; omega
        have key : ∀ ls : List Tx, s :: q = ls ++ tl r → (∀ x ∈ ls, kindOf E x = 5) → ls ≠ [] → allB E (f + 1) (deep + 1) (ls.map unquote) = some kids → blockB E (allB E (f + 1)) deep s q = some (.mk 5 0 [] [] [] kids, tl r) := by
          intro ls he h5 hne ha
          have hs5 : kindOf E s = 5 := by
            cases ls with
            | nil => exact absurd rfl hne
            | cons x l => simp at he; rw [he.1]; exact h5 x (List.mem_cons_self ..)
          unfold blockB
          rw [hs5]
          simp only [show ¬ ((5 : Nat) = 2) by decide, show ¬ ((5 : Nat) = 3) by decide, show ¬ ((5 : Nat) = 4) by decide, if_false, if_true]
          rw [he, spanK_all E 5 (by decide) _ (tl_tail r) ls h5]
          simp only
          rw [ha]
          rfl
        by_cases hw : wl kids = []
        · rw [if_pos hw] at hsq hlen
          have hkn : kids = [] := by
            cases kids with
            | nil => rfl
            | cons c t => exact absurd hw (wl_ne E hk)
          refine key [[62]] hsq (fun x hx => by simp at hx; rw [hx]; exact kind_quote E []) (by simp) ?_
          show allB E (f + 1) (deep + 1) [[]] = some kids
          rw [hkn]
          exact allB_blank E _ _ (by omega) (by omega)
        · rw [if_neg hw] at hsq hlen
          refine key _ hsq (fun x hx => by obtain ⟨y, _, rfl⟩ := List.mem_map.1 hx; exact kind_quote E y) (by simpa using hw) ?_
          rw [map_unquote]
          exact all_back false kids hk (deep + 1) (f + 1) hd' (by rw [List.length_map] at hlen; omega)
      · rw [if_neg (by decide), if_neg (by decide), if_neg (by decide), if_neg (by decide), if_neg (by decide), if_pos rfl] at hsq hlen
        have hs6 : kindOf E s = 6 := hF.it.2 (Or.inl rfl)
        have hil := its_len E kids false hk
        have hb := behind_tl E (r := r) (by simpa using hr)
        have hql : q.length + 1 = (its kids).length + (tl r).length := by
          have := congrArg List.length hsq
          simpa using this
        unfold blockB
        rw [hs6]
        simp only [show ¬ ((6 : Nat) = 2) by decide, show ¬ ((6 : Nat) = 3) by decide, show ¬ ((6 : Nat) = 4) by decide, show ¬ ((6 : Nat) = 5) by decide, if_false, if_true]
        rw [hsq, listL_ok E (tl r) hb kids false (q.length + 1) hne hk (by omega)]
        simp only
        rw [items_back false kids hk (deep + 2) (f + 1) (by simp at hd; omega) (by omega)]
        rfl
      · simp only [show ¬ ((8 : Int) = 1) by decide, show ¬ ((8 : Int) = 2) by decide, show ¬ ((8 : Int) = 3) by decide, show ¬ ((8 : Int) = 4) by decide, show ¬ ((8 : Int) = 5) by decide, show ¬ ((8 : Int) = 6) by decide, show ¬ ((8 : Int) = 7) by decide, if_false] at hsq
        simp at hsq
        obtain ⟨hs, hq⟩ := hsq
        have k7 := kind_def E info d hlab hdd
        have d7 := define_ok E info d hlab hdd
        rw [← hs] at k7 d7
        unfold blockB
        rw [k7, d7]
        simp [hq]
    rw [e, allB, if_neg (by omega), if_neg hF.nb, hblock]
    simp only
    have hrest : allB E (f + 1) deep (tl r) = some r := by
      clear hblock hokr e hwl
      cases r with
      | nil => show allB E (f + 1) deep [] = some []; rw [allB, if_neg (by omega)]
      | cons c r' =>
        show allB E (f + 1) deep ([] :: wl (c :: r')) = _
        rw [allB, if_neg (by omega), if_pos (kind_blank E)]
        have hl2 : (tl (c :: r')).length = (wl (c :: r')).length + 1 := rfl
        exact all_back (k == 6) (c :: r') hr deep f (by omega) (by omega)
    rw [hrest]
    rfl
termination_by SizeOf.sizeOf L
theorem items_back (prev : Bool) (L : List Bk) (h : oks E true prev L) (deep f : Nat) (hd : deep + dps L ≤ 17) (hf : (its L).length + 18 ≤ f + deep) : items (allB E f deep) (L.map il) = some L := by
  match L, h with
  | [], _ => rfl
  | .mk k lv info lines spans kids :: r, h =>
    rw [oks] at h
    obtain ⟨h1, h2, hr⟩ := h
    have h1' := h1
    rw [ok1] at h1
    rcases h1 with ⟨_, rfl, rfl, rfl, rfl, rfl, hk⟩ | ⟨hf', _⟩
    · rw [dps, dp1] at hd
      have hone : one (.mk 7 0 [] [] [] kids) = itemW (wl kids) := by rw [one]; simp
      rw [its_cons, hone, List.length_append] at hf
      have hiw : (wl kids).length ≤ (itemW (wl kids)).length ∧ 1 ≤ (itemW (wl kids)).length := by
        cases wl kids with
        | nil => exact ⟨by simp, by simp [itemW]⟩
        | cons s t => simp [itemW]
      have hkid : allB E f deep (il (.mk 7 0 [] [] [] kids)) = some kids := by
        rw [il_eq]
        by_cases hw : wl kids = []
        · rw [if_pos hw]
          have hkn : kids = [] := by
            cases kids with
            | nil => rfl
            | cons c t => exact absurd hw (wl_ne E hk)
          rw [hkn]
          exact allB_blank E f deep (by simp at hd; omega) (by omega)
        · rw [if_neg hw]
          exact all_back false kids hk deep f (by simp at hd; omega) (by omega)
      rw [List.map_cons, items, hkid]
      simp only
      rw [items_back _ r hr deep f (by omega) (by omega)]
      rfl
    · cases hf'
termination_by SizeOf.sizeOf L
end
end Go.Proofs.YtldllbmbcnipoabGreatDoor.Bk
