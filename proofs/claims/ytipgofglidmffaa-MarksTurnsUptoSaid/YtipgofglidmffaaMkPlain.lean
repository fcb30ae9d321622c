/-
  LINES MERGED, WITH CLASHES BETWEEN MARKERS, in plain words: markers, choosing a side, sizes, and what is true of them. No program.
-/
import Derived.Test.YtipgofglidmffaaLnPlain
import Derived.Test.YtipgofglidmffaaTkPlain
import Derived.Test.YtipgofglidmffaaWvLaws
namespace Go.Proofs.Ytipgofglidmffaa.Mk
open Go.Proofs.Ytipgofglidmffaa.Ln (run run_yes run_no run_le)
open Go.Proofs.Ytipgofglidmffaa.Wv
set_option linter.unusedVariables false
abbrev Tx := List UInt8

/-! Markers. -/
def isMk (h : Nat) (c : UInt8) (s : Tx) : Bool := run c s == h && (s.length == h || s[h]? == some 32)
def mark (h : Nat) (s : Tx) : Nat := if isMk h 60 s then 1 else if isMk h 124 s then 2 else if isMk h 61 s then 3 else if isMk h 62 s then 4 else 0
def mkr (c : UInt8) (h : Nat) (name : Tx) : Tx := List.replicate h c ++ (if name = [] then [] else 32 :: name)
theorem run_rep (c : UInt8) (t : Tx) (ht : t.head? ≠ some c) : ∀ h, run c (List.replicate h c ++ t) = h
  | 0 => by
    cases t with
    | nil => rfl
    | cons b r => exact run_no (fun e => ht (by rw [e]; rfl)) r
  | h + 1 => by rw [List.replicate_succ, List.cons_append, run_yes rfl, run_rep c t ht h]
theorem run_other {c d : UInt8} (hd : d ≠ c) (h : Nat) (hh : 0 < h) (t : Tx) : run c (List.replicate h d ++ t) = 0 := by
  obtain ⟨h, rfl⟩ : ∃ h', h = h' + 1 := ⟨h - 1, by omega⟩
  rw [List.replicate_succ, List.cons_append]
  exact run_no hd _
theorem isMk_yes (c : UInt8) (hc : c ≠ 32) (h : Nat) (name : Tx) : isMk h c (mkr c h name) = true := by
  unfold isMk mkr
  by_cases hn : name = []
  · rw [if_pos hn, run_rep c [] (by simp) h]
    simp
  · rw [if_neg hn, run_rep c (32 :: name) (by simpa using fun e => hc e.symm) h]
    simp
theorem isMk_no {c d : UInt8} (hd : d ≠ c) (h : Nat) (hh : 0 < h) (name : Tx) : isMk h c (mkr d h name) = false := by
  unfold isMk mkr
  rw [run_other hd h hh]
  have : ¬ (0 = h) := by omega
  simp [this]
theorem mark_ours (h : Nat) (hh : 0 < h) (n : Tx) : mark h (mkr 60 h n) = 1 := by unfold mark; rw [isMk_yes 60 (by decide)]; rfl
theorem mark_base (h : Nat) (hh : 0 < h) (n : Tx) : mark h (mkr 124 h n) = 2 := by unfold mark; rw [isMk_no (by decide) h hh, isMk_yes 124 (by decide)]; rfl
theorem mark_mid (h : Nat) (hh : 0 < h) (n : Tx) : mark h (mkr 61 h n) = 3 := by unfold mark; rw [isMk_no (by decide) h hh, isMk_no (by decide) h hh, isMk_yes 61 (by decide)]; rfl
theorem mark_theirs (h : Nat) (hh : 0 < h) (n : Tx) : mark h (mkr 62 h n) = 4 := by unfold mark; rw [isMk_no (by decide) h hh, isMk_no (by decide) h hh, isMk_no (by decide) h hh, isMk_yes 62 (by decide)]; rfl

/-! Choosing. -/
def choose (h side : Nat) : Nat → List Tx → Option (List Tx)
  | at_, [] => if at_ = 0 then some [] else none
  | at_, s :: l =>
    if mark h s = 0 then (choose h side at_ l).map (fun o => if at_ = 0 ∨ at_ = side then s :: o else o)
    else if mark h s = at_ + 1 then choose h side (mark h s % 4) l else none
def Clear (h : Nat) (l : List Tx) : Prop := ∀ s ∈ l, mark h s = 0
theorem choose_clear (h side at_ : Nat) (r : List Tx) : ∀ l, Clear h l → choose h side at_ (l ++ r) = (choose h side at_ r).map (fun o => (if at_ = 0 ∨ at_ = side then l else []) ++ o)
  | [], _ => by
    rw [List.nil_append]
    cases choose h side at_ r with
    | none => rfl
    | some o => simp
  | s :: l, hc => by
    rw [List.cons_append, choose, if_pos (hc s (List.mem_cons_self ..)), choose_clear h side at_ r l (fun x hx => hc x (List.mem_cons_of_mem _ hx))]
    cases choose h side at_ r with
    | none => rfl
    | some o =>
      by_cases ha : at_ = 0 ∨ at_ = side
      · simp only [ha, if_true, Option.map_some, List.cons_append]
      · simp only [ha, if_false, Option.map_some, List.nil_append]
theorem choose_mark (h side at_ : Nat) (s : Tx) (r : List Tx) (hm : mark h s = at_ + 1) : choose h side at_ (s :: r) = choose h side ((at_ + 1) % 4) r := by
  rw [choose, if_neg (by omega), if_pos hm, hm]
def region (h : Nat) (no nb nt : Tx) (O B T : List Tx) : List Tx := mkr 60 h no :: (O ++ mkr 124 h nb :: (B ++ mkr 61 h [] :: (T ++ [mkr 62 h nt])))
def sel (side : Nat) (O B T : List Tx) : List Tx := if side = 1 then O else if side = 2 then B else T
theorem choose_region (h side : Nat) (hh : 0 < h) (hs : side = 1 ∨ side = 2 ∨ side = 3) (no nb nt : Tx) (O B T r : List Tx) (hO : Clear h O) (hB : Clear h B) (hT : Clear h T) :
    choose h side 0 (region h no nb nt O B T ++ r) = (choose h side 0 r).map (fun o => sel side O B T ++ o) := by
  have e : region h no nb nt O B T ++ r = mkr 60 h no :: (O ++ (mkr 124 h nb :: (B ++ (mkr 61 h [] :: (T ++ (mkr 62 h nt :: r)))))) := by
    unfold region
    simp
  rw [e, choose_mark h side 0 _ _ (mark_ours h hh no), choose_clear h side 1 _ O hO, choose_mark h side 1 _ _ (mark_base h hh nb), choose_clear h side 2 _ B hB, choose_mark h side 2 _ _ (mark_mid h hh []), choose_clear h side 3 _ T hT, choose_mark h side 3 _ _ (mark_theirs h hh nt)]
  cases choose h side 0 r with
  | none => rfl
  | some o =>
    rcases hs with rfl | rfl | rfl <;> simp [sel]
theorem choose_all (h side : Nat) (l : List Tx) (hc : Clear h l) : choose h side 0 l = some l := by
  have := choose_clear h side 0 [] l hc
  rw [List.append_nil] at this
  rw [this, choose]
  simp
/-- A clash is chosen back, with other lines about it. -/
theorem choose_back (h side : Nat) (hh : 0 < h) (hs : side = 1 ∨ side = 2 ∨ side = 3) (no nb nt : Tx) (O B T ahead behind : List Tx) (hO : Clear h O) (hB : Clear h B) (hT : Clear h T) (ha : Clear h ahead) (hb : Clear h behind) :
    choose h side 0 (ahead ++ (region h no nb nt O B T ++ behind)) = some (ahead ++ (sel side O B T ++ behind)) := by
  rw [choose_clear h side 0 _ ahead ha, choose_region h side hh hs no nb nt O B T behind hO hB hT, choose_all h side behind hb]
  simp

/-! Sizes. -/
def runs4 (s : Tx) : Nat := max (max (run 60 s) (run 124 s)) (max (run 61 s) (run 62 s))
def need (l : List Tx) : Nat := l.foldr (fun s n => max (runs4 s + 1) n) 0
theorem need_ge : ∀ (l : List Tx) (s : Tx), s ∈ l → runs4 s + 1 ≤ need l
  | [], s, h => by cases h
  | x :: l, s, h => by
    show _ ≤ max (runs4 x + 1) (need l)
    rcases List.mem_cons.1 h with rfl | h
    · omega
    · have := need_ge l s h; omega
theorem need_app (a b : List Tx) : need (a ++ b) = max (need a) (need b) := by
  induction a with
  | nil => show need b = max 0 (need b); omega
  | cons x a ih =>
    show max (runs4 x + 1) (need (a ++ b)) = max (max (runs4 x + 1) (need a)) (need b)
    rw [ih]; omega
def size (least : Int) (l : List Tx) : Int := min (max (max 7 least) (need l)) 1000
def hold (n : Int) : Nat := (max 1 (min n 1000)).toNat
theorem size_bounds (least : Int) (l : List Tx) : 7 ≤ size least l ∧ size least l ≤ 1000 ∧ min least 1000 ≤ size least l := by unfold size; omega
theorem hold_size (least : Int) (l : List Tx) : (hold (size least l) : Int) = size least l := by
  have := size_bounds least l
  unfold hold
  omega
theorem clear_of {h : Nat} {l : List Tx} (hn : need l ≤ h) : Clear h l := by
  intro s hs
  have h1 := need_ge l s hs
  unfold runs4 at h1
  have no : ∀ c, run c s < h → isMk h c s = false := fun c hc => by
    unfold isMk
    have : ¬ (run c s = h) := by omega
    simp [this]
  unfold mark
  rw [no 60 (by omega), no 124 (by omega), no 61 (by omega), no 62 (by omega)]
  rfl
theorem size_clear (least : Int) (l : List Tx) (h : size least l ≠ 1000) : Clear (hold (size least l)) l := by
  apply clear_of
  have h1 := hold_size least l
  unfold size at h h1 ⊢
  omega
theorem Clear.sub {h : Nat} {l m : List Tx} (hl : Clear h l) (hs : ∀ x ∈ m, x ∈ l) : Clear h m := fun s hm => hl s (hs s hm)

/-! Merging lines by chunks. -/
def partL (l : List Tx) (a b : Nat) : List Tx := (l.drop a).take (b - a)
theorem partL_mem {l : List Tx} {a b : Nat} {s : Tx} (h : s ∈ partL l a b) : s ∈ l := List.mem_of_mem_drop (List.mem_of_mem_take h)
def seg (h : Nat) (no nb nt : Tx) (B O T : List Tx) (c : Ch) : List Tx :=
  if c.out = 1 ∨ c.out = 3 then partL T c.t1 c.t2 else if c.out = 2 ∨ c.out = 4 then partL O c.o1 c.o2 else region h no nb nt (partL O c.o1 c.o2) (partL B c.b1 c.b2) (partL T c.t1 c.t2)
def mlines (h : Nat) (no nb nt : Tx) (B O T : List Tx) (l : List Ch) : List Tx := l.flatMap (seg h no nb nt B O T)
def clashes (l : List Ch) : Nat := (l.filter (fun c => !(c.out == 1 || c.out == 2 || c.out == 3 || c.out == 4))).length
/-- What a side has in a chunk. -/
def segS (side : Nat) (B O T : List Tx) (c : Ch) : List Tx :=
  if c.out = 1 ∨ c.out = 3 then partL T c.t1 c.t2 else if c.out = 2 ∨ c.out = 4 then partL O c.o1 c.o2 else sel side (partL O c.o1 c.o2) (partL B c.b1 c.b2) (partL T c.t1 c.t2)
theorem choose_mlines (h side : Nat) (hh : 0 < h) (hs : side = 1 ∨ side = 2 ∨ side = 3) (no nb nt : Tx) (B O T : List Tx) (hB : Clear h B) (hO : Clear h O) (hT : Clear h T) : ∀ l : List Ch, choose h side 0 (mlines h no nb nt B O T l) = some (l.flatMap (segS side B O T))
  | [] => by simp [mlines, choose]
  | c :: l => by
    have ih := choose_mlines h side hh hs no nb nt B O T hB hO hT l
    unfold mlines at ih ⊢
    rw [List.flatMap_cons, List.flatMap_cons]
    have pO : Clear h (partL O c.o1 c.o2) := hO.sub (fun x hx => partL_mem hx)
    have pB : Clear h (partL B c.b1 c.b2) := hB.sub (fun x hx => partL_mem hx)
    have pT : Clear h (partL T c.t1 c.t2) := hT.sub (fun x hx => partL_mem hx)
    unfold seg segS
    by_cases h1 : c.out = 1 ∨ c.out = 3
    · rw [if_pos h1, if_pos h1, choose_clear h side 0 _ _ pT]
      change (choose h side 0 (List.flatMap (seg h no nb nt B O T) l)).map _ = _
      rw [ih]; simp; rfl
    · rw [if_neg h1, if_neg h1]
      by_cases h2 : c.out = 2 ∨ c.out = 4
      · rw [if_pos h2, if_pos h2, choose_clear h side 0 _ _ pO]
        change (choose h side 0 (List.flatMap (seg h no nb nt B O T) l)).map _ = _
        rw [ih]; simp; rfl
      · rw [if_neg h2, if_neg h2, choose_region h side hh hs no nb nt _ _ _ _ pO pB pT]
        change (choose h side 0 (List.flatMap (seg h no nb nt B O T) l)).map _ = _
        rw [ih]; simp; rfl

/-! The sides exchanged. -/
theorem region_len (h : Nat) (no nb nt : Tx) (O B T : List Tx) : (region h no nb nt O B T).length = O.length + B.length + T.length + 4 := by
  unfold region
  simp
  omega
def Par (O T : List Tx) (c : Ch) : Prop := (c.out = 1 ∨ c.out = 4 → partL T c.t1 c.t2 = partL O c.o1 c.o2) ∧ 1 ≤ c.out ∧ c.out ≤ 5
theorem seg_swap_len (h : Nat) (no nb nt : Tx) (B O T : List Tx) (c : Ch) (hp : Par O T c) : (seg h nt nb no B T O (swap c)).length = (seg h no nb nt B O T c).length := by
  obtain ⟨hp, h1, h5⟩ := hp
  have : c.out = 1 ∨ c.out = 2 ∨ c.out = 3 ∨ c.out = 4 ∨ c.out = 5 := by omega
  unfold seg swap
  rcases this with e | e | e | e | e
  · simp [e, sw, hp (Or.inl e)]
  · simp [e, sw]
  · simp [e, sw]
  · simp [e, sw, hp (Or.inr e)]
  · simp [e, sw, region_len]; omega
theorem segS_swap (side : Nat) (hs : side = 1 ∨ side = 2 ∨ side = 3) (B O T : List Tx) (c : Ch) (hp : Par O T c) : segS (4 - side) B T O (swap c) = segS side B O T c := by
  obtain ⟨hp, h1, h5⟩ := hp
  have : c.out = 1 ∨ c.out = 2 ∨ c.out = 3 ∨ c.out = 4 ∨ c.out = 5 := by omega
  unfold segS swap
  rcases this with e | e | e | e | e
  · simp [e, sw, hp (Or.inl e)]
  · simp [e, sw]
  · simp [e, sw]
  · simp [e, sw, hp (Or.inr e)]
  · rcases hs with rfl | rfl | rfl <;> simp [e, sw, sel]
theorem mlines_swap_len (h : Nat) (no nb nt : Tx) (B O T : List Tx) : ∀ l : List Ch, (∀ c ∈ l, Par O T c) → (mlines h nt nb no B T O (l.map swap)).length = (mlines h no nb nt B O T l).length
  | [], _ => rfl
  | c :: l, hp => by
    have ih := mlines_swap_len h no nb nt B O T l (fun d hd => hp d (List.mem_cons_of_mem _ hd))
    have hc := seg_swap_len h no nb nt B O T c (hp c (List.mem_cons_self ..))
    unfold mlines at ih ⊢
    rw [List.map_cons, List.flatMap_cons, List.flatMap_cons, List.length_append, List.length_append, ih, hc]
theorem sides_swap (side : Nat) (hs : side = 1 ∨ side = 2 ∨ side = 3) (B O T : List Tx) : ∀ l : List Ch, (∀ c ∈ l, Par O T c) → (l.map swap).flatMap (segS (4 - side) B T O) = l.flatMap (segS side B O T)
  | [], _ => rfl
  | c :: l, hp => by
    rw [List.map_cons, List.flatMap_cons, List.flatMap_cons, sides_swap side hs B O T l (fun d hd => hp d (List.mem_cons_of_mem _ hd)), segS_swap side hs B O T c (hp c (List.mem_cons_self ..))]
theorem clashes_swap : ∀ l : List Ch, clashes (l.map swap) = clashes l
  | [] => rfl
  | c :: l => by
    have ih := clashes_swap l
    unfold clashes at ih ⊢
    rw [List.map_cons, List.filter_cons, List.filter_cons]
    have hc : (!((swap c).out == 1 || (swap c).out == 2 || (swap c).out == 3 || (swap c).out == 4)) = (!(c.out == 1 || c.out == 2 || c.out == 3 || c.out == 4)) := by
      show (!(sw c.out == 1 || sw c.out == 2 || sw c.out == 3 || sw c.out == 4)) = _
      unfold sw
      by_cases h2 : c.out = 2
      · simp [h2]
      · by_cases h3 : c.out = 3
        · simp [h3]
        · simp [h2, h3]
    rw [hc]
    split
    · rw [List.length_cons, List.length_cons, ih]
    · exact ih

/-! Lines by their numbers. -/
def nums (all l : List Tx) : List Int := l.map (fun s => (Tk.rank all s : Int))
theorem part_nums (all l : List Tx) (a b : Nat) : Wv.part (nums all l) a b = nums all (partL l a b) := by
  unfold Wv.part partL nums
  rw [List.map_take, List.map_drop]
theorem nums_inj {all : List Tx} : ∀ (l m : List Tx), (∀ s ∈ l, s ∈ all) → (∀ s ∈ m, s ∈ all) → nums all l = nums all m → l = m
  | [], [], _, _, _ => rfl
  | [], y :: m, _, _, h => by simp [nums] at h
  | x :: l, [], _, _, h => by simp [nums] at h
  | x :: l, y :: m, hl, hm, h => by
    unfold nums at h
    rw [List.map_cons, List.map_cons, List.cons.injEq] at h
    have hx := (Tk.rank_eq (hl x (List.mem_cons_self ..)) (hm y (List.mem_cons_self ..))).2 (by have := h.1; omega)
    rw [hx, nums_inj l m (fun s hs => hl s (List.mem_cons_of_mem _ hs)) (fun s hs => hm s (List.mem_cons_of_mem _ hs)) h.2]
theorem par_chunks (all B O T : List Tx) (hO : ∀ s ∈ O, s ∈ all) (hT : ∀ s ∈ T, s ∈ all) : ∀ c ∈ chunks (nums all B) (nums all O) (nums all T), Par O T c := by
  intro c hc
  refine ⟨fun h => ?_, cov_out _ _ _ _ (chunks_cov _ _ _) c hc⟩
  have := ch_parts (keeps_pairs (nums all B) (nums all O)) (keeps_pairs (nums all B) (nums all T)) _ 0 0 0 Inv.start c hc h
  rw [part_nums, part_nums] at this
  exact nums_inj _ _ (fun s hs => hT s (partL_mem hs)) (fun s hs => hO s (partL_mem hs)) this

end Go.Proofs.Ytipgofglidmffaa.Mk
