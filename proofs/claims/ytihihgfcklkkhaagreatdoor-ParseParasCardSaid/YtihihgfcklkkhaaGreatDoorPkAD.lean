import Derived.Test.YtihihgfcklkkhaaGreatDoorPkQ
import Derived.Test.YtihihgfcklkkhaaGreatDoorPkG
import Derived.Test.YtihihgfcklkkhaaGreatDoorPkU
import Derived.Test.YtihihgfcklkkhaaGreatDoorPkX
import Derived.Test.YtihihgfcklkkhaaGreatDoorPkV
import Derived.Test.YtihihgfcklkkhaaGreatDoorPkAC
namespace Go.Proofs.YtihihgfcklkkhaaGreatDoor.Sp
open Go.Proofs.YtihihgfcklkkhaaGreatDoor.Tk (S S_of S_list S_size S_toList S_app cls at_data len_data)
open Go.Proofs.YtihihgfcklkkhaaGreatDoor.Utf (chk chk_zero_iff zeroB)
set_option linter.unusedVariables false
def psB (s : ByteArray) : List Sp := (Rdr false false s.data.toList).1
mutual
theorem fo_of {R : Nat} (hR : 200000 ≤ R) (e k : Bool) : ∀ x : Sp, fit1 e k x → totOne x ≤ 200000 → fitOne R x
  | .mk q s l, hf, ht => by
    rw [totOne_mk] at ht
    have hk := fit_kind hf
    have ih := fun e k p h => fa_of hR e k p l h (by omega)
    rw [fit1] at hf
    unfold fitOne
    refine ⟨by omega, by omega, ?_⟩
    rcases hf with h | h | h | h
    · rw [h.2.1]; unfold fitAll; trivial
    · rw [h.2.1]; unfold fitAll; trivial
    · exact ih true k 0 h.2.2.2.2
    · exact ih e true 0 h.2.2.2.2.2
theorem fa_of {R : Nat} (hR : 200000 ≤ R) (e k : Bool) (p : Int) : ∀ L : List Sp, fits e k p L → totAll L ≤ 200000 → fitAll R L
  | [], _, _ => by unfold fitAll; trivial
  | .mk q s l :: r, hf, ht => by
    rw [totAll_cons] at ht
    rw [fits] at hf
    unfold fitAll
    exact ⟨fo_of hR e k (.mk q s l) hf.1 (by omega), fa_of hR e k q r hf.2.2 (by omega)⟩
end
theorem parse_fit (s : ByteArray) (hs : s.size ≤ 90000) : totAll (psB s) ≤ 200000 ∧ fitAll 200000 (psB s) := by
  have hT : totAll (psB s) ≤ 200000 := by
    have := Rdr_tot false false s.data.toList
    rw [len_data] at this
    unfold psB
    omega
  exact ⟨hT, fa_of (Nat.le_refl _) false false 0 (psB s) (read_fits s.data.toList.length false false s.data.toList).1 hT⟩
end Go.Proofs.YtihihgfcklkkhaaGreatDoor.Sp
namespace Go.Proofs.YtihihgfcklkkhaaGreatDoor.Pa
open Go.Proofs.YtihihgfcklkkhaaGreatDoor.Bk (Tx Bk Env fenceL spanK itemL dropBlank listL items kindOf closes unquote unitem inner define parse joinLF)
open Go.Proofs.YtihihgfcklkkhaaGreatDoor.Ln (run mx trim)
open Go.Proofs.YtihihgfcklkkhaaGreatDoor.Kd (E0)
set_option linter.unusedVariables false
def quoted (s : Tx) (l : List Tx) : List Tx := (spanK E0 5 (s :: l)).1.map unquote
def paraL (s : Tx) (l : List Tx) : List Tx := (spanK E0 8 (s :: l)).1.map trim
theorem val2 {rec : Nat → List Tx → Option (List Bk)} {d : Nat} {s : Tx} {l : List Tx} (hk : kindOf E0 s = 2) : valB rec d s l = some (.mk 2 (run 35 s) [] [] (parse (trim (s.drop (run 35 s)))) []) := by
  unfold valB; rw [if_pos hk]
theorem val3 {rec : Nat → List Tx → Option (List Bk)} {d : Nat} {s : Tx} {l : List Tx} (hk : kindOf E0 s = 3) : valB rec d s l = some (.mk 3 0 [] [] [] []) := by
  unfold valB; rw [if_neg (by rw [hk]; decide), if_pos hk]
theorem val4 {rec : Nat → List Tx → Option (List Bk)} {d : Nat} {s : Tx} {l : List Tx} (hk : kindOf E0 s = 4) : valB rec d s l = some (.mk 4 0 (trim (s.drop (run 96 s))) (fenceL (run 96 s) l).1 [] []) := by
  unfold valB; rw [if_neg (by rw [hk]; decide), if_neg (by rw [hk]; decide), if_pos hk]
theorem val5 {rec : Nat → List Tx → Option (List Bk)} {d : Nat} {s : Tx} {l : List Tx} (hk : kindOf E0 s = 5) : valB rec d s l = (rec (d + 1) (quoted s l)).map fun k => .mk 5 0 [] [] [] k := by
  unfold valB; rw [if_neg (by rw [hk]; decide), if_neg (by rw [hk]; decide), if_neg (by rw [hk]; decide), if_pos hk]; rfl
theorem val6 {rec : Nat → List Tx → Option (List Bk)} {d : Nat} {s : Tx} {l : List Tx} (hk : kindOf E0 s = 6) : valB rec d s l = (items (rec (d + 2)) (lst (s :: l)).1).map fun k => .mk 6 0 [] [] [] k := by
  unfold valB; rw [if_neg (by rw [hk]; decide), if_neg (by rw [hk]; decide), if_neg (by rw [hk]; decide), if_neg (by rw [hk]; decide), if_pos hk]; rfl
theorem val7 {rec : Nat → List Tx → Option (List Bk)} {d : Nat} {s : Tx} {l : List Tx} (hk : kindOf E0 s = 7) : valB rec d s l = (define E0 s).map fun p => .mk 8 0 p.1 [p.2] [] [] := by
  unfold valB; rw [if_neg (by rw [hk]; decide), if_neg (by rw [hk]; decide), if_neg (by rw [hk]; decide), if_neg (by rw [hk]; decide), if_neg (by rw [hk]; decide), if_pos hk]
theorem val8 {rec : Nat → List Tx → Option (List Bk)} {d : Nat} {s : Tx} {l : List Tx} (hk : kindOf E0 s = 8) : valB rec d s l = some (.mk 1 0 [] [] (parse (joinLF (paraL s l))) []) := by
  unfold valB; rw [if_neg (by rw [hk]; decide), if_neg (by rw [hk]; decide), if_neg (by rw [hk]; decide), if_neg (by rw [hk]; decide), if_neg (by rw [hk]; decide), if_neg (by rw [hk]; decide)]; rfl
theorem rest1 {s : Tx} {l : List Tx} (hk : kindOf E0 s = 2 ∨ kindOf E0 s = 3 ∨ kindOf E0 s = 7) : restB s l = l := by
  unfold restB
  rw [if_neg (by omega), if_neg (by omega), if_neg (by omega), if_neg (by omega)]
theorem rest4 {s : Tx} {l : List Tx} (hk : kindOf E0 s = 4) : restB s l = (fenceL (run 96 s) l).2 := by unfold restB; rw [if_pos hk]
theorem rest5 {s : Tx} {l : List Tx} (hk : kindOf E0 s = 5) : restB s l = (spanK E0 5 (s :: l)).2 := by unfold restB; rw [if_neg (by omega), if_pos hk]
theorem rest6 {s : Tx} {l : List Tx} (hk : kindOf E0 s = 6) : restB s l = (lst (s :: l)).2 := by unfold restB; rw [if_neg (by omega), if_neg (by omega), if_pos hk]; rfl
theorem rest8 {s : Tx} {l : List Tx} (hk : kindOf E0 s = 8) : restB s l = (spanK E0 8 (s :: l)).2 := by unfold restB; rw [if_neg (by omega), if_neg (by omega), if_neg (by omega), if_pos hk]
theorem kind_cases (s : Tx) (h : kindOf E0 s ≠ 1) : kindOf E0 s = 2 ∨ kindOf E0 s = 3 ∨ kindOf E0 s = 4 ∨ kindOf E0 s = 5 ∨ kindOf E0 s = 6 ∨ kindOf E0 s = 7 ∨ kindOf E0 s = 8 := by
  have := kind_le E0 s
  omega
theorem quoted_len (s : Tx) (l : List Tx) : (quoted s l).length ≤ l.length + 1 := by
  unfold quoted
  have := span_len E0 5 (s :: l)
  rw [List.length_map]
  simp only [List.length_cons] at this
  omega
theorem lst_mem_len (l : List Tx) : ∀ x ∈ (lst l).1, x.length ≤ l.length := list_len E0 _ l
theorem all_ind {Q : Nat → List Tx → List Bk → Prop} (h0 : ∀ d, d ≤ 16 → Q d [] [])
    (hb : ∀ d s l bs, d ≤ 16 → kindOf E0 s = 1 → allE d l = some bs → Q d l bs → Q d (s :: l) bs)
    (hc : ∀ d s l b bs, d ≤ 16 → kindOf E0 s ≠ 1 → valB allE d s l = some b → allE d (restB s l) = some bs → Q d (restB s l) bs →
      (∀ k, allE (d + 1) (quoted s l) = some k → Q (d + 1) (quoted s l) k) → (∀ x ∈ (lst (s :: l)).1, ∀ k, allE (d + 2) x = some k → Q (d + 2) x k) → Q d (s :: l) (b :: bs)) :
    ∀ (n d : Nat) (l : List Tx) (bs : List Bk), l.length + (17 - d) ≤ n → allE d l = some bs → Q d l bs := by
  intro n
  induction n with
  | zero =>
    intro d l bs hn h
    rw [allE_deep (by omega)] at h
    cases h
  | succ n ih =>
    intro d l bs hn h
    by_cases hd : 16 < d
    · rw [allE_deep hd] at h; cases h
    have hd' : d ≤ 16 := by omega
    cases l with
    | nil =>
      rw [allE_nil hd'] at h
      injection h with h
      subst h
      exact h0 d hd'
    | cons s l =>
      simp only [List.length_cons] at hn
      by_cases hk : kindOf E0 s = 1
      · rw [allE_blank hk] at h
        exact hb d s l bs hd' hk h (ih d l bs (by omega) h)
      · rw [allE_block hd' hk] at h
        cases hv : valB allE d s l with
        | none => rw [hv] at h; cases h
        | some b =>
          rw [hv] at h
          obtain ⟨bs', hr, rfl⟩ := Option.map_eq_some_iff.1 h
          have hs := (rest_suf s l).length_le
          refine hc d s l b bs' hd' hk hv hr (ih d _ _ (by omega) hr) (fun k hq => ih (d + 1) _ k ?_ hq) (fun x hx k hq => ih (d + 2) x k ?_ hq)
          · have := quoted_len s l; omega
          · have := lst_mem_len (s :: l) x hx
            simp only [List.length_cons] at this
            omega
end Go.Proofs.YtihihgfcklkkhaaGreatDoor.Pa
namespace Go.Proofs.YtihihgfcklkkhaaGreatDoor.Pa
open Go.Proofs.YtihihgfcklkkhaaGreatDoor.Tk (S S_list S_size)
open Go.Proofs.YtihihgfcklkkhaaGreatDoor.Sp (Sp psB Rdr Rdr_tot)
open Go.Proofs.YtihihgfcklkkhaaGreatDoor.Bt (fitAll fitOne fitOne_eq ttAll ttOne ttOne_eq ttAll_cons lnTot)
open Go.Proofs.YtihihgfcklkkhaaGreatDoor.Bk (Tx Bk Env fenceL spanK itemL dropBlank listL items kindOf closes unquote unitem inner define parse joinLF)
open Go.Proofs.YtihihgfcklkkhaaGreatDoor.Ln (run mx trim)
open Go.Proofs.YtihihgfcklkkhaaGreatDoor.Kd (E0)
set_option linter.unusedVariables false
theorem parse_psB (t : Tx) : parse t = psB (S t) := by
  unfold parse psB Rdr
  rw [S_list]
theorem lnTot_eq : ∀ l : List Tx, lnTot l = tot l
  | [] => rfl
  | s :: l => by rw [lnTot, tot, lnTot_eq l]
theorem fence_tot (n : Nat) : ∀ l : List Tx, tot (fenceL n l).1 + tot (fenceL n l).2 ≤ tot l
  | [] => by simp [fenceL, tot]
  | s :: l => by
    unfold fenceL
    split
    · simp [tot]
    · have := fence_tot n l
      simp only [tot]
      omega
theorem span_tot (k : Nat) : ∀ l : List Tx, tot (spanK E0 k l).1 + tot (spanK E0 k l).2 = tot l
  | [] => by simp [spanK, tot]
  | s :: l => by
    unfold spanK
    split
    · have := span_tot k l
      simp only [tot]
      omega
    · simp [tot]
theorem blank_tot : ∀ l : List Tx, tot (dropBlank E0 l) ≤ tot l := fun l => tot_suf (blank_suf E0 l)
def totL : List (List Tx) → Nat
  | [] => 0
  | x :: r => 1 + tot x + totL r
theorem totL_mem : ∀ (xs : List (List Tx)) (x : List Tx), x ∈ xs → tot x ≤ totL xs
  | [], _, h => by cases h
  | y :: r, x, h => by
    rcases List.mem_cons.1 h with rfl | h
    · rw [totL]; omega
    · have := totL_mem r x h; rw [totL]; omega
theorem kd_ne {s : Tx} (h : kindOf E0 s ≠ 1) : s ≠ [] := fun e => h (by rw [e]; decide)
theorem unitem_tot {s : Tx} (h : kindOf E0 s = 6) : (unitem s).length + 1 ≤ s.length := by
  have := List.length_pos_iff.2 (kd_ne (s := s) (by omega))
  unfold unitem
  rw [List.length_drop]
  omega
theorem unq_tot {s : Tx} (h : kindOf E0 s = 5) : (unquote s).length + 1 ≤ s.length := by
  have := List.length_pos_iff.2 (kd_ne (s := s) (by omega))
  unfold unquote
  split
  · rw [List.length_drop]; omega
  · rw [List.length_drop]; omega
theorem lst_cases (s : Tx) (l : List Tx) : (lst (s :: l) = ([unitem s :: (itemL E0 l).1], (itemL E0 l).2) ∧ (dropBlank E0 (itemL E0 l).2 = [] ∨ ∃ t r, dropBlank E0 (itemL E0 l).2 = t :: r ∧ kindOf E0 t ≠ 6)) ∨
    ∃ t r, dropBlank E0 (itemL E0 l).2 = t :: r ∧ kindOf E0 t = 6 ∧ lst (s :: l) = ((unitem s :: (itemL E0 l).1) :: (lst (t :: r)).1, (lst (t :: r)).2) := by
  cases h : dropBlank E0 (itemL E0 l).2 with
  | nil => exact Or.inl ⟨lst_one (Or.inl h), Or.inl rfl⟩
  | cons t r =>
    by_cases hk : kindOf E0 t = 6
    · exact Or.inr ⟨t, r, rfl, hk, lst_more h hk⟩
    · exact Or.inl ⟨lst_one (Or.inr ⟨t, r, h, hk⟩), Or.inr ⟨t, r, rfl, hk⟩⟩
theorem lst_totL : ∀ (n : Nat) (s : Tx) (l : List Tx), l.length ≤ n → kindOf E0 s = 6 → totL (lst (s :: l)).1 + tot (lst (s :: l)).2 ≤ tot (s :: l)
  | n, s, l, hn, hk => by
    have h1 := item_tot l
    have h2 := unitem_tot hk
    have h3 := blank_tot (itemL E0 l).2
    rcases lst_cases s l with ⟨h, _⟩ | ⟨t, r, hd, hk2, h⟩
    · rw [h]
      simp only [totL, tot]
      omega
    · rw [h]
      have h4 := ((blank_suf E0 (itemL E0 l).2).trans (item_suf E0 l)).length_le
      rw [hd] at h4 h3
      simp only [List.length_cons] at h4
      cases n with
      | zero => exact absurd h4 (by omega)
      | succ n =>
        have ih := lst_totL n t r (by omega) hk2
        simp only [totL, tot] at ih h3 ⊢
        omega
theorem quoted_tot {s : Tx} {l : List Tx} (hk : kindOf E0 s = 5) : tot (quoted s l) + 1 + tot (spanK E0 5 (s :: l)).2 ≤ tot (s :: l) := by
  have h1 := span_tot 5 (s :: l)
  unfold quoted
  rw [spanK, if_pos hk] at h1 ⊢
  have h2 := unq_tot hk
  have h3 := tot_map unquote unq_len (spanK E0 5 l).1
  simp only [tot, List.map_cons] at h1 h2 h3 ⊢
  omega
theorem para_tot {s : Tx} {l : List Tx} : (joinLF (paraL s l)).length + tot (spanK E0 8 (s :: l)).2 ≤ tot (s :: l) := by
  have h1 := span_tot 8 (s :: l)
  unfold paraL
  have h2 := joinLF_len ((spanK E0 8 (s :: l)).1.map trim)
  have h3 := tot_map trim (fun s => Ln.trim_len s) (spanK E0 8 (s :: l)).1
  omega
theorem define_tot {s : Tx} {p : Tx × Tx} (h : define E0 s = some p) : p.1.length + p.2.length + 1 ≤ s.length := by
  unfold define at h
  split at h
  · rename_i t
    obtain ⟨q, hq1, hq2, _⟩ := Bk.df_some (E := E0) t [] p.1 p.2 h
    rw [List.nil_append] at hq1
    rw [hq2, hq1]
    simp only [List.length_cons, List.length_append]
    omega
  · cases h
theorem spans_tot (t : Tx) : Sp.totAll (parse t) ≤ 2 * t.length := Rdr_tot false false t
theorem items_tt {d : Nat} : ∀ (xs : List (List Tx)) (ks : List Bk), (∀ x ∈ xs, ∀ k, allE d x = some k → ttAll k ≤ 4 * tot x) → items (allE d) xs = some ks → ttAll ks + 3 * xs.length ≤ 4 * totL xs
  | [], ks, _, h => by
    unfold items at h
    injection h with h
    subst h
    simp [ttAll, totL]
  | x :: r, ks, hx, h => by
    unfold items at h
    cases ha : allE d x with
    | none => rw [ha] at h; cases h
    | some k =>
      rw [ha] at h
      obtain ⟨ks', h2, rfl⟩ := Option.map_eq_some_iff.1 h
      have h3 := items_tt r ks' (fun y hy => hx y (List.mem_cons_of_mem _ hy)) h2
      have h4 := hx x (List.mem_cons_self ..) k ha
      rw [ttAll_cons, ttOne_eq]
      simp only [Bk.info, Bk.lines, Bk.spans, Bk.kids, lnTot, Sp.totAll, List.length_nil, List.length_cons, totL]
      omega
theorem all_tt (d : Nat) (l : List Tx) (bs : List Bk) (h : allE d l = some bs) : ttAll bs ≤ 4 * tot l := by
  refine all_ind (Q := fun d l bs => ttAll bs ≤ 4 * tot l) ?_ ?_ ?_ _ d l bs (Nat.le_refl _) h
  · intro d _; simp [ttAll]
  · intro d s l bs _ _ _ ih
    rw [tot]; omega
  · intro d s l b bs hd hk hv hr ih h5 h6
    rw [ttAll_cons, ttOne_eq]
    rcases kind_cases s hk with k | k | k | k | k | k | k
    · rw [val2 k] at hv; injection hv with hv; subst hv
      rw [rest1 (Or.inl k)] at ih
      have h1 := spans_tot (trim (s.drop (run 35 s)))
      have h2 := Ln.trim_len (s.drop (run 35 s))
      have h3 : (s.drop (run 35 s)).length ≤ s.length := by rw [List.length_drop]; omega
      simp only [Bk.info, Bk.lines, Bk.spans, Bk.kids, lnTot, ttAll, List.length_nil, tot]
      omega
    · rw [val3 k] at hv; injection hv with hv; subst hv
      rw [rest1 (Or.inr (Or.inl k))] at ih
      simp only [Bk.info, Bk.lines, Bk.spans, Bk.kids, lnTot, ttAll, Sp.totAll, List.length_nil, tot]
      omega
    · rw [val4 k] at hv; injection hv with hv; subst hv
      rw [rest4 k] at ih
      have h1 := fence_tot (run 96 s) l
      have h2 := Ln.trim_len (s.drop (run 96 s))
      have h3 : (s.drop (run 96 s)).length ≤ s.length := by rw [List.length_drop]; omega
      simp only [Bk.info, Bk.lines, Bk.spans, Bk.kids, lnTot_eq, ttAll, Sp.totAll, tot]
      omega
    · rw [val5 k] at hv
      obtain ⟨ks, ha, rfl⟩ := Option.map_eq_some_iff.1 hv
      rw [rest5 k] at ih
      have h1 := h5 ks ha
      have h2 := quoted_tot (l := l) k
      simp only [Bk.info, Bk.lines, Bk.spans, Bk.kids, lnTot, Sp.totAll, List.length_nil]
      omega
    · rw [val6 k] at hv
      obtain ⟨ks, ha, rfl⟩ := Option.map_eq_some_iff.1 hv
      rw [rest6 k] at ih
      have h1 := items_tt _ ks h6 ha
      have h2 := lst_totL l.length s l (Nat.le_refl _) k
      have h3 : 1 ≤ (lst (s :: l)).1.length := by
        rcases lst_cases s l with ⟨h, _⟩ | ⟨t, r, _, _, h⟩
        · rw [h]; simp
        · rw [h]; simp
      simp only [Bk.info, Bk.lines, Bk.spans, Bk.kids, lnTot, Sp.totAll, List.length_nil]
      omega
    · rw [val7 k] at hv
      obtain ⟨p, ha, rfl⟩ := Option.map_eq_some_iff.1 hv
      rw [rest1 (Or.inr (Or.inr k))] at ih
      have h1 := define_tot ha
      simp only [Bk.info, Bk.lines, Bk.spans, Bk.kids, lnTot, ttAll, Sp.totAll, tot]
      omega
    · rw [val8 k] at hv; injection hv with hv; subst hv
      rw [rest8 k] at ih
      have h1 := spans_tot (joinLF (paraL s l))
      have h2 := para_tot (s := s) (l := l)
      have h3 := span_tot 8 (s :: l)
      have h4 : 1 ≤ tot (spanK E0 8 (s :: l)).1 := by rw [spanK, if_pos k]; simp only [tot]; omega
      simp only [Bk.info, Bk.lines, Bk.spans, Bk.kids, lnTot, ttAll, List.length_nil]
      omega
end Go.Proofs.YtihihgfcklkkhaaGreatDoor.Pa
namespace Go.Proofs.YtihihgfcklkkhaaGreatDoor.Bt
open Go.Proofs.YtihihgfcklkkhaaGreatDoor.Sp (Sp)
open Go.Proofs.YtihihgfcklkkhaaGreatDoor.Bk (Bk)
set_option linter.unusedVariables false
mutual
theorem dpOne_ge (n : Int) : ∀ x : Bk, n ≤ dpOne n x
  | .mk k lv i ls ss l => by
    rw [dpOne]
    split <;> omega
theorem dpAll_ge (n : Int) : ∀ l : List Bk, n ≤ dpAll n l
  | [] => by rw [dpAll]; omega
  | x :: r => by
    rw [dpAll]
    have h1 := dpOne_ge n x
    have h2 := dpAll_ge (dpOne n x) r
    omega
end
theorem dp_ge (l : List Bk) : 0 ≤ dp l := dpAll_ge 0 l
end Go.Proofs.YtihihgfcklkkhaaGreatDoor.Bt
namespace Go.Proofs.YtihihgfcklkkhaaGreatDoor.Pa
open Go.Proofs.YtihihgfcklkkhaaGreatDoor.Tk (S S_list S_size)
open Go.Proofs.YtihihgfcklkkhaaGreatDoor.Sp (Sp psB Rdr Wt Wt_app Wt_nil txB edB spB hsB plAll)
open Go.Proofs.YtihihgfcklkkhaaGreatDoor.Bt (lineB labB ckB tgB dp dpAll dpOne boxB dpAll_cons)
open Go.Proofs.YtihihgfcklkkhaaGreatDoor.Bk (Tx Bk Env fenceL spanK itemL dropBlank listL items kindOf closes unquote unitem inner define parse joinLF)
open Go.Proofs.YtihihgfcklkkhaaGreatDoor.Ln (run mx trim dl dr gapB)
open Go.Proofs.YtihihgfcklkkhaaGreatDoor.Kd (E0)
set_option linter.unusedVariables false
def Lt (s : Tx) : Prop := Wt s ∧ (10 : UInt8) ∉ s
theorem Lt_nil : Lt [] := ⟨Wt_nil, by simp⟩
theorem kd6 {s : Tx} (h : kindOf E0 s = 6) : s = [45] ∨ ∃ t, s = 45 :: 32 :: t := by
  unfold kindOf at h
  repeat' split at h
  all_goals first | omega | skip
  rename_i h1
  rcases h1 with h1 | h1
  · exact Or.inl h1
  · cases s with
    | nil => simp at h1
    | cons c t =>
      cases t with
      | nil => simp at h1
      | cons d t =>
        simp at h1
        exact Or.inr ⟨t, by rw [h1.1, h1.2]⟩
structure Tr1 (s : Tx) : Prop where
  lt : Lt s
  ne : s ≠ []
  hd : ∀ b, s.head? = some b → gapB b = false
  la : ∀ b, s.getLast? = some b → gapB b = false
structure Jn (z : Tx) : Prop where
  wt : Wt z
  tx : txB z = true
  ne : z ≠ []
  hd : ∀ b, z.head? = some b → gapB b = false ∧ b ≠ 10
  la : ∀ b, z.getLast? = some b → gapB b = false ∧ b ≠ 10
end Go.Proofs.YtihihgfcklkkhaaGreatDoor.Pa
namespace Go.Proofs.YtihihgfcklkkhaaGreatDoor.Pa
open Go.Proofs.YtihihgfcklkkhaaGreatDoor.Tk (S S_list S_size)
open Go.Proofs.YtihihgfcklkkhaaGreatDoor.Sp (Sp hsB dsB plAll)
open Go.Proofs.YtihihgfcklkkhaaGreatDoor.Bt (lineB labB ckB tgB dp dpAll dpOne boxB dpAll_cons)
open Go.Proofs.YtihihgfcklkkhaaGreatDoor.Bk (Tx Bk Env fenceL spanK itemL dropBlank listL items kindOf closes unquote unitem inner define parse joinLF)
open Go.Proofs.YtihihgfcklkkhaaGreatDoor.Ln (run mx trim)
open Go.Proofs.YtihihgfcklkkhaaGreatDoor.Kd (E0)
set_option linter.unusedVariables false
theorem val_six {d : Nat} {s : Tx} {l : List Tx} {b : Bk} (hk : kindOf E0 s ≠ 1) (h : valB allE d s l = some b) (h6 : b.kind = 6) : kindOf E0 s = 6 := by
  rcases kind_cases s hk with k | k | k | k | k | k | k
  · rw [val2 k] at h; injection h with h; subst h; simp [Bk.kind] at h6
  · rw [val3 k] at h; injection h with h; subst h; simp [Bk.kind] at h6
  · rw [val4 k] at h; injection h with h; subst h; simp [Bk.kind] at h6
  · rw [val5 k] at h; obtain ⟨_, _, h⟩ := Option.map_eq_some_iff.1 h; subst h; simp [Bk.kind] at h6
  · exact k
  · rw [val7 k] at h; obtain ⟨_, _, h⟩ := Option.map_eq_some_iff.1 h; subst h; simp [Bk.kind] at h6
  · rw [val8 k] at h; injection h with h; subst h; simp [Bk.kind] at h6
theorem fence_mem (n : Nat) : ∀ (l : List Tx) (s : Tx), s ∈ (fenceL n l).1 → s ∈ l
  | [], s, h => by simp [fenceL] at h
  | x :: l, s, h => by
    unfold fenceL at h
    split at h
    · cases h
    · rcases List.mem_cons.1 h with rfl | h
      · exact List.mem_cons_self ..
      · exact List.mem_cons_of_mem _ (fence_mem n l s h)
def gB (x : Bk) : Int := if boxB x.kind = true then IntKind.i64.wrap (1 + dp x.kids) else dp x.kids
theorem dpAll_max : ∀ (l : List Bk) (n : Int), 0 ≤ n → dpAll n l = max n (dp l)
  | [], n, h => by unfold dp; rw [dpAll, dpAll]; omega
  | x :: r, n, h => by
    have e : ∀ m : Int, dpAll m (x :: r) = dpAll (max m (gB x)) r := fun m => by
      rw [dpAll_cons]
      unfold gB
      split <;> rfl
    have h1 := dpAll_max r (max n (gB x)) (by omega)
    have h2 := dpAll_max r (max 0 (gB x)) (by omega)
    unfold dp at h1 h2 ⊢
    rw [e, e, h1, h2]
    omega
theorem dp_cons (x : Bk) (r : List Bk) : dp (x :: r) = max (max 0 (gB x)) (dp r) := by
  have : dp (x :: r) = dpAll (max 0 (gB x)) r := by
    unfold dp
    rw [dpAll_cons]
    unfold gB
    split <;> rfl
  rw [this, dpAll_max r _ (by omega)]
theorem dp_nil : dp [] = 0 := rfl
theorem items_deep {d : Nat} (n : Int) (hn : 0 ≤ n) (hn2 : n ≤ 16) : ∀ (xs : List (List Tx)) (ks : List Bk), (∀ x ∈ xs, ∀ k, allE d x = some k → dp k ≤ n) → items (allE d) xs = some ks → dp ks ≤ n + 1
  | [], ks, _, h => by
    unfold items at h
    injection h with h
    subst h
    rw [dp_nil]; omega
  | x :: r, ks, hx, h => by
    unfold items at h
    cases ha : allE d x with
    | none => rw [ha] at h; cases h
    | some k =>
      rw [ha] at h
      obtain ⟨ks', h2, rfl⟩ := Option.map_eq_some_iff.1 h
      have h3 := items_deep n hn hn2 r ks' (fun y hy => hx y (List.mem_cons_of_mem _ hy)) h2
      have h4 := hx x (List.mem_cons_self ..) k ha
      have h5 := Bt.dp_ge k
      rw [dp_cons]
      have : gB (.mk 7 0 [] [] [] k) = 1 + dp k := by
        show (if boxB 7 = true then IntKind.i64.wrap (1 + dp k) else dp k) = _
        rw [if_pos (by decide), IntKind.wrap_i64]
        omega
      rw [this]
      omega
theorem all_deep (d : Nat) (l : List Tx) (bs : List Bk) (h : allE d l = some bs) : dp bs + d ≤ 16 := by
  refine all_ind (Q := fun d l bs => dp bs + d ≤ 16) ?_ ?_ ?_ _ d l bs (Nat.le_refl _) h
  · intro d hd; rw [dp_nil]; omega
  · intro d s l bs _ _ _ ih; exact ih
  · intro d s l b bs hd hk hv hr ih h5 h6
    rw [dp_cons]
    have hz : dp ([] : List Bk) = 0 := rfl
    rcases kind_cases s hk with k | k | k | k | k | k | k
    · rw [val2 k] at hv; injection hv with hv; subst hv
      have : gB (.mk 2 (run 35 s) [] [] (parse (trim (s.drop (run 35 s)))) []) = 0 := rfl
      rw [this]; omega
    · rw [val3 k] at hv; injection hv with hv; subst hv
      have : gB (.mk 3 0 [] [] [] []) = 0 := rfl
      rw [this]; omega
    · rw [val4 k] at hv; injection hv with hv; subst hv
      have : gB (.mk 4 0 (trim (s.drop (run 96 s))) (fenceL (run 96 s) l).1 [] []) = 0 := rfl
      rw [this]; omega
    · rw [val5 k] at hv
      obtain ⟨ks, ha, rfl⟩ := Option.map_eq_some_iff.1 hv
      have h1 := h5 ks ha
      have h2 := Bt.dp_ge ks
      have : gB (.mk 5 0 [] [] [] ks) = 1 + dp ks := by
        show (if boxB 5 = true then IntKind.i64.wrap (1 + dp ks) else dp ks) = _
        rw [if_pos (by decide), IntKind.wrap_i64]
        omega
      rw [this]
      omega
    · rw [val6 k] at hv
      obtain ⟨ks, ha, rfl⟩ := Option.map_eq_some_iff.1 hv
      have hd2 : (d : Int) + 2 ≤ 16 := by
        rcases lst_cases s l with ⟨h, _⟩ | ⟨t, r, _, _, h⟩
        all_goals
          rw [h] at ha
          unfold items at ha
          rcases Nat.lt_or_ge 16 (d + 2) with h' | h'
          · rw [allE_deep h'] at ha; cases ha
          · omega
      have h1 := items_deep (14 - d) (by omega) (by omega) _ ks (fun x hx k' hk' => by have := h6 x hx k' hk'; omega) ha
      have h2 := Bt.dp_ge ks
      have : gB (.mk 6 0 [] [] [] ks) = 1 + dp ks := by
        show (if boxB 6 = true then IntKind.i64.wrap (1 + dp ks) else dp ks) = _
        rw [if_pos (by decide), IntKind.wrap_i64]
        omega
      rw [this]
      omega
    · rw [val7 k] at hv
      obtain ⟨q, ha, rfl⟩ := Option.map_eq_some_iff.1 hv
      have : gB (.mk 8 0 q.1 [q.2] [] []) = 0 := rfl
      rw [this]; omega
    · rw [val8 k] at hv; injection hv with hv; subst hv
      have : gB (.mk 1 0 [] [] (parse (joinLF (paraL s l))) []) = 0 := rfl
      rw [this]; omega
end Go.Proofs.YtihihgfcklkkhaaGreatDoor.Pa
namespace Go.Proofs.YtihihgfcklkkhaaGreatDoor.Pa
open Go.Proofs.YtihihgfcklkkhaaGreatDoor.Tk (S S_list S_size)
open Go.Proofs.YtihihgfcklkkhaaGreatDoor.Sp (Sp V V_cut psB Wt)
open Go.Proofs.YtihihgfcklkkhaaGreatDoor.Bt (fitAll fitOne fitOne_eq)
open Go.Proofs.YtihihgfcklkkhaaGreatDoor.Bk (Tx Bk fenceL spanK items kindOf define parse joinLF)
open Go.Proofs.YtihihgfcklkkhaaGreatDoor.Ln (run trim)
open Go.Proofs.YtihihgfcklkkhaaGreatDoor.Kd (E0)
open Go.Proofs.YtihihgfcklkkhaaGreatDoor.Utf (chk)
set_option linter.unusedVariables false
theorem strip_lt {cur : Tx} (hv : V cur) (h0 : (0 : UInt8) ∉ cur) (h10 : (10 : UInt8) ∉ cur) (h13 : (13 : UInt8) ∉ cur ∨ ∃ c, cur = c ++ [13] ∧ (13 : UInt8) ∉ c) : Lt (Ln.strip cur) := by
  rcases h13 with h | ⟨c, rfl, h⟩
  · rw [Ln.strip_id cur h]
    exact ⟨⟨hv, h0, h⟩, h10⟩
  · rw [Ln.strip_snoc]
    exact ⟨⟨(V_cut (c := 13) (by decide) c.length c [] (Nat.le_refl _) hv).1, fun hm => h0 (List.mem_append_left _ hm), h⟩, fun hm => h10 (List.mem_append_left _ hm)⟩
theorem ls_lt : ∀ (r cur : Tx), V (cur ++ r) → (0 : UInt8) ∉ cur ++ r → (10 : UInt8) ∉ cur → ((13 : UInt8) ∉ cur ∨ ∃ c, cur = c ++ [13] ∧ (13 : UInt8) ∉ c ∧ r.head? = some 10) → ∀ x ∈ (Ln.ls cur r).1, Lt x
  | [], cur, hv, h0, h10, h13, x, hx => by
    have h : (13 : UInt8) ∉ cur := by
      rcases h13 with h | ⟨c, _, _, h⟩
      · exact h
      · cases h
    rw [List.append_nil] at hv h0
    unfold Ln.ls at hx
    split at hx
    · cases hx
    · rw [List.mem_singleton] at hx
      subst hx
      exact ⟨⟨hv, h0, h⟩, h10⟩
  | b :: r, cur, hv, h0, h10, h13, x, hx => by
    by_cases hb : b = 10
    · subst hb
      obtain ⟨v1, v2⟩ := V_cut (c := 10) (by decide) cur.length cur r (Nat.le_refl _) hv
      rw [Ln.ls_lf] at hx
      rcases List.mem_cons.1 hx with rfl | hx
      · exact strip_lt v1 (fun hm => h0 (List.mem_append_left _ hm)) h10 (h13.imp id (fun ⟨c, e, h, _⟩ => ⟨c, e, h⟩))
      · exact ls_lt r [] (by simpa using v2) (fun hm => h0 (List.mem_append_right _ (List.mem_cons_of_mem _ (by simpa using hm)))) (by simp) (Or.inl (by simp)) x hx
    · have h13' : (13 : UInt8) ∉ cur := by
        rcases h13 with h | ⟨c, _, _, h⟩
        · exact h
        · exact absurd (by simpa using h) hb
      by_cases hc : b = 13 ∧ r.head? ≠ some 10
      · obtain ⟨rfl, hc⟩ := hc
        obtain ⟨v1, v2⟩ := V_cut (c := 13) (by decide) cur.length cur r (Nat.le_refl _) hv
        rw [Ln.ls_cr _ _ hc] at hx
        rcases List.mem_cons.1 hx with rfl | hx
        · exact ⟨⟨v1, fun hm => h0 (List.mem_append_left _ hm), h13'⟩, h10⟩
        · exact ls_lt r [] (by simpa using v2) (fun hm => h0 (List.mem_append_right _ (List.mem_cons_of_mem _ (by simpa using hm)))) (by simp) (Or.inl (by simp)) x hx
      · have he : Ln.ls cur (b :: r) = Ln.ls (cur ++ [b]) r := by rw [Ln.ls, if_neg hb, if_neg hc]
        rw [he] at hx
        have happ : cur ++ [b] ++ r = cur ++ b :: r := by rw [List.append_assoc]; rfl
        refine ls_lt r (cur ++ [b]) (by rw [happ]; exact hv) (by rw [happ]; exact h0) (fun hm => ?_) ?_ x hx
        · rcases List.mem_append.1 hm with hm | hm
          · exact h10 hm
          · rw [List.mem_singleton] at hm; exact hb hm.symm
        · by_cases hb13 : b = 13
          · subst hb13
            exact Or.inr ⟨cur, rfl, h13', by
              by_cases h : r.head? = some 10
              · exact h
              · exact absurd ⟨rfl, h⟩ hc⟩
          · exact Or.inl (fun hm => by
              rcases List.mem_append.1 hm with hm | hm
              · exact h13' hm
              · rw [List.mem_singleton] at hm; exact hb13 hm.symm)
theorem split_lt {s : Tx} (h : chk (S s) = 0) : ∀ x ∈ (Ln.split s).1, Lt x := by
  have hz := (Utf.chk_zero_iff (S s)).1 h
  have h0 : (0 : UInt8) ∉ s := by
    have := hz.2.1
    unfold Utf.zeroB at this
    have h1 := of_decide_eq_false this
    rwa [S_list] at h1
  exact ls_lt s [] (by simpa [V] using hz.2.2) (by simpa using h0) (by simp) (Or.inl (by simp))
theorem parse_fitR (t : Tx) (h : t.length ≤ 90000) : Sp.fitAll 200000 (parse t) := by
  rw [parse_psB]
  exact (Sp.parse_fit (S t) (by rw [S_size]; exact h)).2
theorem all_fit (d : Nat) (l : List Tx) (bs : List Bk) (h : allE d l = some bs) (ht : tot l ≤ 90000) : fitAll 200000 bs := by
  refine all_ind (Q := fun d l bs => tot l ≤ 90000 → fitAll 200000 bs) ?_ ?_ ?_ _ d l bs (Nat.le_refl _) h ht
  · intro d _ _; unfold fitAll; trivial
  · intro d s l bs _ _ _ ih ht; exact ih (by rw [tot] at ht; omega)
  · intro d s l b bs hd hk hv hr ih h5 h6 ht
    have htl : tot l ≤ 90000 := by rw [tot] at ht; omega
    have hsl : s.length ≤ 90000 := by rw [tot] at ht; omega
    unfold fitAll
    refine ⟨?_, ih (Nat.le_trans (tot_suf (rest_suf s l)) htl)⟩
    rw [fitOne_eq]
    have hnil : fitAll 200000 [] := by unfold fitAll; trivial
    have hsnil : Sp.fitAll 200000 [] := by unfold Sp.fitAll; trivial
    have hrun : ∀ c, run c s ≤ 90000 := fun c => Nat.le_trans (Ln.run_le c s) hsl
    have htr : ∀ c, (trim (s.drop (run c s))).length ≤ 90000 := fun c => by
      have h2 := Ln.trim_len (s.drop (run c s))
      have h3 : (s.drop (run c s)).length ≤ s.length := by rw [List.length_drop]; omega
      omega
    rcases kind_cases s hk with k | k | k | k | k | k | k
    · rw [val2 k] at hv; injection hv with hv; subst hv
      have := hrun 35
      exact ⟨by simp [Bk.kind], by simp only [Bk.level]; omega, by simp [Bk.info], (fun x hx => by cases hx), parse_fitR _ (htr 35), hnil⟩
    · rw [val3 k] at hv; injection hv with hv; subst hv
      exact ⟨by simp [Bk.kind], by simp [Bk.level], by simp [Bk.info], (fun x hx => by cases hx), hsnil, hnil⟩
    · rw [val4 k] at hv; injection hv with hv; subst hv
      have := htr 96
      exact ⟨by simp [Bk.kind], by simp [Bk.level], by simp only [Bk.info]; omega, fun x hx => by
        have := tot_mem l x (fence_mem _ l x hx)
        omega, hsnil, hnil⟩
    · rw [val5 k] at hv
      obtain ⟨ks, ha, rfl⟩ := Option.map_eq_some_iff.1 hv
      have hq := quoted_tot (l := l) k
      exact ⟨by simp [Bk.kind], by simp [Bk.level], by simp [Bk.info], (fun x hx => by cases hx), hsnil, h5 ks ha (by omega)⟩
    · rw [val6 k] at hv
      obtain ⟨ks, ha, rfl⟩ := Option.map_eq_some_iff.1 hv
      have hq := lst_totL l.length s l (Nat.le_refl _) k
      have hit : ∀ (xs : List (List Tx)) (ks : List Bk), (∀ x ∈ xs, ∀ k, allE (d + 2) x = some k → fitAll 200000 k) → items (allE (d + 2)) xs = some ks → fitAll 200000 ks := by
        intro xs
        induction xs with
        | nil => intro ks _ h; unfold items at h; injection h with h; subst h; exact hnil
        | cons x r ihx =>
          intro ks hx h
          unfold items at h
          cases ha : allE (d + 2) x with
          | none => rw [ha] at h; cases h
          | some k =>
            rw [ha] at h
            obtain ⟨ks', h2, rfl⟩ := Option.map_eq_some_iff.1 h
            unfold fitAll
            refine ⟨?_, ihx ks' (fun y hy => hx y (List.mem_cons_of_mem _ hy)) h2⟩
            rw [fitOne_eq]
            exact ⟨by simp [Bk.kind], by simp [Bk.level], by simp [Bk.info], (fun x hx => by cases hx), hsnil, hx x (List.mem_cons_self ..) k ha⟩
      exact ⟨by simp [Bk.kind], by simp [Bk.level], by simp [Bk.info], (fun x hx => by cases hx), hsnil, hit _ ks (fun x hx k' hk' => h6 x hx k' hk' (by
        have := totL_mem _ x hx
        omega)) ha⟩
    · rw [val7 k] at hv
      obtain ⟨q, ha, rfl⟩ := Option.map_eq_some_iff.1 hv
      have := define_tot ha
      exact ⟨by simp [Bk.kind], by simp [Bk.level], by simp only [Bk.info]; omega, fun x hx => by
        simp only [Bk.lines, List.mem_singleton] at hx
        subst hx
        omega, hsnil, hnil⟩
    · rw [val8 k] at hv; injection hv with hv; subst hv
      have hq := para_tot (s := s) (l := l)
      exact ⟨by simp [Bk.kind], by simp [Bk.level], by simp [Bk.info], (fun x hx => by cases hx), parse_fitR _ (by omega), hnil⟩
end Go.Proofs.YtihihgfcklkkhaaGreatDoor.Pa
