/-
  WHAT IS SHOWN, in plain words: texts escaped, spans, blocks; how long it is. No program.
-/
import Derived.Test.YtpakjdgddomdjaaDoorBtTree
namespace Go.Proofs.YtpakjdgddomdjaaDoor.Ht
open Go.Proofs.YtpakjdgddomdjaaDoor.Sp (Sp totAll totOne)
open Go.Proofs.YtpakjdgddomdjaaDoor.Bt (ttAll ttOne lnTot)
open Go.Proofs.YtpakjdgddomdjaaDoor.Bk (Bk Tx)
set_option linter.unusedVariables false

/-- A byte, escaped. -/
def nm (c : UInt8) : Tx := if c = 38 then [38, 97, 109, 112, 59] else if c = 60 then [38, 108, 116, 59] else if c = 62 then [38, 103, 116, 59] else if c = 34 then [38, 113, 117, 111, 116, 59] else [c]
def he : Tx → Tx
  | [] => []
  | c :: r => nm c ++ he r
theorem nm_len (c : UInt8) : 1 ≤ (nm c).length ∧ (nm c).length ≤ 6 := by
  unfold nm
  split
  · simp
  · split
    · simp
    · split
      · simp
      · split <;> simp
theorem he_cons (c : UInt8) (r : Tx) : he (c :: r) = nm c ++ he r := rfl
theorem he_app : ∀ a b : Tx, he (a ++ b) = he a ++ he b
  | [], _ => rfl
  | c :: a, b => by rw [List.cons_append, he_cons, he_cons, he_app a b, List.append_assoc]
theorem he_len : ∀ l : Tx, l.length ≤ (he l).length ∧ (he l).length ≤ 6 * l.length
  | [] => by simp [he]
  | c :: r => by
    have h1 := nm_len c
    have h2 := he_len r
    rw [he_cons, List.length_append, List.length_cons]
    omega
/-- What stands at a span's beginning, at its end. -/
def bg (k : Int) : Tx := if k = 2 then [60, 99, 111, 100, 101, 62] else if k = 3 then [60, 101, 109, 62] else if k = 4 then [60, 97, 32, 104, 114, 101, 102, 61, 34] else []
def en (k : Int) : Tx := if k = 2 then [60, 47, 99, 111, 100, 101, 62] else if k = 3 then [60, 47, 101, 109, 62] else if k = 4 then [60, 47, 97, 62] else []
/-- What stands between, where of its kids this is shown. -/
def mid (k : Int) (s y : Tx) : Tx := if k = 1 ∨ k = 2 then he s else if k = 3 then y else if k = 4 then he s ++ (34 :: 62 :: y) else []
mutual
def hsOne : Sp → Tx
  | .mk k s l => bg k ++ (mid k s (hsAll l) ++ en k)
def hsAll : List Sp → Tx
  | [] => []
  | x :: r => hsOne x ++ hsAll r
end
theorem hsOne_eq (x : Sp) : hsOne x = bg x.kind ++ (mid x.kind x.s (hsAll x.kids) ++ en x.kind) := by
  obtain ⟨k, s, l⟩ := x
  rw [hsOne]
  rfl
theorem hsAll_cons (x : Sp) (r : List Sp) : hsAll (x :: r) = hsOne x ++ hsAll r := by rw [hsAll]
theorem bg_len (k : Int) : (bg k).length ≤ 9 := by
  unfold bg
  split
  · simp
  · split
    · simp
    · split <;> simp
theorem en_len (k : Int) : (en k).length ≤ 7 := by
  unfold en
  split
  · simp
  · split
    · simp
    · split <;> simp
theorem mid_len (k : Int) (s y : Tx) : (mid k s y).length ≤ 6 * s.length + 2 + y.length := by
  have := (he_len s).2
  unfold mid
  split
  · omega
  · split
    · omega
    · split
      · simp only [List.length_append, List.length_cons]; omega
      · simp
mutual
theorem hsOne_len : ∀ x : Sp, (hsOne x).length ≤ 18 * totOne x
  | .mk k s l => by
    have h1 := hsAll_len l
    have h2 := bg_len k
    have h3 := en_len k
    have h4 := mid_len k s (hsAll l)
    rw [totOne, hsOne, List.length_append, List.length_append]
    omega
theorem hsAll_len : ∀ l : List Sp, (hsAll l).length ≤ 18 * totAll l
  | [] => by simp [hsAll]
  | x :: r => by
    have h1 := hsOne_len x
    have h2 := hsAll_len r
    rw [hsAll_cons, totAll, List.length_append]
    omega
end
theorem hsAll_app : ∀ a b : List Sp, hsAll (a ++ b) = hsAll a ++ hsAll b
  | [], b => by simp [hsAll]
  | x :: a, b => by rw [List.cons_append, hsAll_cons, hsAll_cons, hsAll_app a b, List.append_assoc]

/-- The first word. -/
def wd (s : Tx) : Tx := s.takeWhile (· != 32)
theorem wd_len (s : Tx) : (wd s).length ≤ s.length := by
  unfold wd
  exact (List.takeWhile_sublist _).length_le
/-- A level's digit. -/
def dg (lv : Int) : UInt8 := if 1 ≤ lv ∧ lv ≤ 9 then (48 + lv.toNat).toUInt8 else 48
/-- Lines, escaped. -/
def hl : List Tx → Tx
  | [] => []
  | s :: r => he s ++ 10 :: hl r
theorem hl_len : ∀ l : List Tx, (hl l).length ≤ 6 * lnTot l
  | [] => by simp [hl]
  | s :: r => by
    have h1 := (he_len s).2
    have h2 := hl_len r
    rw [hl, lnTot, List.length_append, List.length_cons]
    omega
/-- Between marks of a name, on a line; on lines. -/
def lnT (n c : Tx) : Tx := 60 :: (n ++ 62 :: (c ++ 60 :: 47 :: (n ++ [62, 10])))
def ctT (n c : Tx) : Tx := 60 :: (n ++ 62 :: 10 :: (c ++ 60 :: 47 :: (n ++ [62, 10])))
/-- A Fence's language. -/
def lang (i : Tx) : Tx := if i = [] then [] else [32, 99, 108, 97, 115, 115, 61, 34, 108, 97, 110, 103, 117, 97, 103, 101, 45] ++ (he (wd i) ++ [34])
def feT (i : Tx) (ls : List Tx) : Tx := [60, 112, 114, 101, 62, 60, 99, 111, 100, 101] ++ (lang i ++ (62 :: (hl ls ++ [60, 47, 99, 111, 100, 101, 62, 60, 47, 112, 114, 101, 62, 10])))
def nQ : Tx := [98, 108, 111, 99, 107, 113, 117, 111, 116, 101]
def nL : Tx := [117, 108]
def nI : Tx := [108, 105]
def hr : Tx := [60, 104, 114, 32, 47, 62, 10]
mutual
def hbOne : Bk → Tx
  | .mk k lv i ls ss l =>
    if k = 1 then lnT [112] (hsAll ss) else if k = 2 then lnT [104, dg lv] (hsAll ss) else if k = 3 then hr else if k = 4 then feT i ls
    else if k = 5 then ctT nQ (hbAll l) else if k = 6 then ctT nL (hbAll l) else if k = 7 then ctT nI (hbAll l) else []
def hbAll : List Bk → Tx
  | [] => []
  | x :: r => hbOne x ++ hbAll r
end
theorem hbOne_eq (x : Bk) : hbOne x = if x.kind = 1 then lnT [112] (hsAll x.spans) else if x.kind = 2 then lnT [104, dg x.level] (hsAll x.spans) else if x.kind = 3 then hr else if x.kind = 4 then feT x.info x.lines
    else if x.kind = 5 then ctT nQ (hbAll x.kids) else if x.kind = 6 then ctT nL (hbAll x.kids) else if x.kind = 7 then ctT nI (hbAll x.kids) else [] := by
  obtain ⟨k, lv, i, ls, ss, l⟩ := x
  rw [hbOne]
  rfl
theorem hbAll_cons (x : Bk) (r : List Bk) : hbAll (x :: r) = hbOne x ++ hbAll r := by rw [hbAll]
theorem lnT_len (n c : Tx) : (lnT n c).length = c.length + 2 * n.length + 6 := by
  unfold lnT
  simp only [List.length_append, List.length_cons, List.length_nil]
  omega
theorem ctT_len (n c : Tx) : (ctT n c).length = c.length + 2 * n.length + 7 := by
  unfold ctT
  simp only [List.length_append, List.length_cons, List.length_nil]
  omega
theorem lang_len (i : Tx) : (lang i).length ≤ 6 * i.length + 18 := by
  have h1 := wd_len i
  have h2 := (he_len (wd i)).2
  unfold lang
  split
  · simp
  · simp only [List.length_append, List.length_cons, List.length_nil]; omega
theorem feT_len (i : Tx) (ls : List Tx) : (feT i ls).length ≤ 6 * i.length + 6 * lnTot ls + 43 := by
  have h1 := lang_len i
  have h2 := hl_len ls
  unfold feT
  simp only [List.length_append, List.length_cons, List.length_nil]
  omega
mutual
theorem hbOne_len : ∀ x : Bk, (hbOne x).length ≤ 50 * ttOne x
  | .mk k lv i ls ss l => by
    have h1 := hbAll_len l
    have h2 := hsAll_len ss
    have h3 := feT_len i ls
    rw [ttOne, hbOne]
    split
    · rw [lnT_len]; simp only [List.length_cons, List.length_nil]; omega
    · split
      · rw [lnT_len]; simp only [List.length_cons, List.length_nil]; omega
      · split
        · simp [hr]; omega
        · split
          · omega
          · split
            · rw [ctT_len]; simp only [nQ, List.length_cons, List.length_nil]; omega
            · split
              · rw [ctT_len]; simp only [nL, List.length_cons, List.length_nil]; omega
              · split
                · rw [ctT_len]; simp only [nI, List.length_cons, List.length_nil]; omega
                · simp
theorem hbAll_len : ∀ l : List Bk, (hbAll l).length ≤ 50 * ttAll l
  | [] => by simp [hbAll]
  | x :: r => by
    have h1 := hbOne_len x
    have h2 := hbAll_len r
    rw [hbAll_cons, ttAll, List.length_append]
    omega
end
theorem hbAll_app : ∀ a b : List Bk, hbAll (a ++ b) = hbAll a ++ hbAll b
  | [], b => by simp [hbAll]
  | x :: a, b => by rw [List.cons_append, hbAll_cons, hbAll_cons, hbAll_app a b, List.append_assoc]
end Go.Proofs.YtpakjdgddomdjaaDoor.Ht
