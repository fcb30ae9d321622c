/-
  CONTRACT of reckon (package lcs): the columns behind the walk's place, and what each had otherwise.
-/
import Derived.Test.YtbfclmhcoelplaaLpWide
import Derived.Test.YtbfclmhcoelplaaLpLength
namespace Go.Proofs.Ytbfclmhcoelplaa.Lp
open Go.RowKit Go.Proofs.Ytbfclmhcoelplaa.Cm Go.Proofs.Ytbfclmhcoelplaa.Lc Go.Proofs.Ytbfclmhcoelplaa.Lcx
set_option linter.unusedVariables false

/-! ### Plain: all columns -/
def Xc (a : List Int) : List Int → Nat → Nat
  | [] => fun _ => 0
  | y :: b => nw (Xc a b) (msk (pls a y))
def rws (a : List Int) (W : Nat) : List Int → List (List (Nat × Nat))
  | [] => []
  | y :: b => chg (Xc a b) (msk (pls a y)) W :: rws a W b
theorem isCol_at (a B : List Int) : ∀ (n j : Nat), B.length - j = n → j ≤ B.length → IsCol a B j (Xc a (B.drop j))
  | 0, j, h, hj => by
    obtain rfl : j = B.length := by omega
    rw [List.drop_eq_nil_of_le (Nat.le_refl _)]
    exact isCol_end a B
  | n + 1, j, h, hj => by
    have hl : j < B.length := by omega
    rw [List.drop_eq_getElem_cons hl]
    exact (isCol_at a B n (j + 1) (by omega) (by omega)).step hl
theorem isCol_all {a B : List Int} {j : Nat} (hj : j ≤ B.length) : IsCol a B j (Xc a (B.drop j)) := isCol_at a B _ j rfl hj
theorem rws_len (a : List Int) (W : Nat) : ∀ b : List Int, (rws a W b).length = b.length
  | [] => rfl
  | y :: b => by show (rws a W b).length + 1 = b.length + 1; rw [rws_len a W b]
theorem rws_flat (a : List Int) (W : Nat) : ∀ b : List Int, ((rws a W b).reverse).flatten.length ≤ b.length * W
  | [] => by simp [rws]
  | y :: b => by
    show ((chg (Xc a b) (msk (pls a y)) W :: rws a W b).reverse).flatten.length ≤ (b.length + 1) * W
    rw [List.reverse_cons, List.flatten_append, List.length_append, Nat.succ_mul]
    have := rws_flat a W b
    have := chg_len (Xc a b) (msk (pls a y)) W
    rw [List.flatten_cons, List.flatten_nil, List.append_nil]
    omega
/-- What was changed, put back. -/
def back (Y : Nat → Nat) : List (Nat × Nat) → Nat → Nat
  | [] => Y
  | p :: l => back (up Y p.1 p.2) l
theorem back_snoc (Y : Nat → Nat) (l : List (Nat × Nat)) (p : Nat × Nat) : back Y (l ++ [p]) = up (back Y l) p.1 p.2 := by
  induction l generalizing Y with
  | nil => rfl
  | cons x l ih => exact ih _
theorem back_chg (X M : Nat → Nat) : ∀ k q, back (nw X M) (chg X M k) q = if q < k then X q else nw X M q
  | 0, q => by rw [if_neg (by omega)]; rfl
  | k + 1, q => by
    show back (nw X M) (chg X M k ++ (if nw X M k = X k then [] else [(k, X k)])) q = _
    have ih := back_chg X M k q
    by_cases e : nw X M k = X k
    · rw [if_pos e, List.append_nil, ih]
      by_cases h1 : q < k
      · rw [if_pos h1, if_pos (by omega)]
      · rw [if_neg h1]
        by_cases h2 : q < k + 1
        · rw [if_pos h2, show q = k by omega, e]
        · rw [if_neg h2]
    · rw [if_neg e, back_snoc]
      unfold up
      by_cases h1 : q = k
      · rw [if_pos h1, if_pos (by omega), h1]
      · rw [if_neg h1, ih]
        by_cases h2 : q < k
        · rw [if_pos h2, if_pos (by omega)]
        · rw [if_neg h2, if_neg (by omega)]
theorem back_all {X M : Nat → Nat} {W : Nat} (h : ∀ q, W ≤ q → nw X M q = X q) : back (nw X M) (chg X M W) = X := funext (fun q => by
  rw [back_chg]
  by_cases e : q < W
  · rw [if_pos e]
  · rw [if_neg e, h q (by omega)])
theorem Xc_zero (a b : List Int) (q : Nat) (h : (a.length + 63) / 64 ≤ q) : Xc a b q = 0 := by
  have := isCol_all (a := a) (B := b) (j := 0) (Nat.zero_le _)
  rw [List.drop_zero] at this
  exact this.zero h

/-- The walk, as it lies. -/
def WkAt (w : World) (Wb : Nat) (vb : Value) (n Mb wd Kt Tt : Nat) (pn : Value) (at_ : Nat) : Prop :=
  w.heap[Wb]? = some (.cells #[vb, .int .i64 n, .map (some Mb), .int .i64 wd, .pointer (some ⟨Kt, 0, none⟩), .pointer (some ⟨Tt, 0, none⟩), pn, .int .i64 at_] 92 (0, 0))
theorem ne_of_types {w : World} {k k' : Nat} {c c' : Array Value} {t t' : TypeId} {f f' : Nat × Nat} (h : w.heap[k]? = some (.cells c t f)) (h' : w.heap[k']? = some (.cells c' t' f')) (ht : t ≠ t') : k ≠ k' := by
  intro e
  subst e
  rw [h] at h'
  simp only [Option.some.injEq, Obj.cells.injEq] at h'
  exact ht h'.2.1
theorem own_ne_at' {w : World} {B e z n g : Nat} {v : Value} {xs : List Value} {c : Array Value} {t : TypeId} (h : w.ownsRow B e z v n xs) (ht : w.heap[g]? = some (.cells c t (0, 0))) (he : e ≠ t) : v.ownBlock ≠ some g := fun hg => own_ne_at h hg ht he

/-- Where the loop of reckon stands: the columns from place j of b on are told. -/
structure Rc (w0 : World) (a b : List Int) (Wb : Nat) (vb : Value) (Mb wd Kt Tt H H2 H3 C B : Nat) (vc : Value) (j : Nat) (vw vct vft : Value) (t : Nat) (wr : World) : Prop where
  wk : WkAt wr Wb vb a.length Mb wd Kt Tt (.pointer (some ⟨C, 0, none⟩)) 0
  col : Col wr C vc ((a.length + 63) / 64) B (Xc a (b.drop j)) t
  tab : TabW wr Tt vct vft (rws a ((a.length + 63) / 64) (b.drop j)).reverse
  plm : Pls wr Mb H H2 a
  bel : Below w0.heap.size w0 wr
  row : ∃ xs : List (Nat × Nat), xs.length ≤ 100000 ∧ wr.ownsRow 0 89 2 vw xs.length (xs.flatMap encW)
  vwge : ∀ g, vw.ownBlock = some g → H3 ≤ g ∧ vct.ownBlock ≠ some g
  vcge : ∀ g, vct.ownBlock = some g → H3 ≤ g
  vfge : ∀ g, vft.ownBlock = some g → H3 ≤ g
  ord : w0.heap.size ≤ H ∧ H2 ≤ H3 ∧ H3 ≤ wr.heap.size ∧ w0.heap.size ≤ Wb ∧ H2 ≤ C ∧ w0.heap.size ≤ B ∧ (B < H ∨ H2 ≤ B) ∧ (Wb < H ∨ H2 ≤ Wb) ∧ (Tt < H ∨ H2 ≤ Tt) ∧ w0.heap.size ≤ Tt ∧ H ≤ H2 ∧ C < H3 ∧ B < H3 ∧ B ≠ C ∧ Wb < H3 ∧ Tt < H3 ∧ Wb ≠ B ∧ Tt ≠ B

theorem Rc.drew {w0 : World} {a b : List Int} {Wb : Nat} {vb : Value} {Mb wd Kt Tt H H2 H3 C B : Nat} {vc : Value} {j : Nat} {vw vct vft : Value} {t : Nat} {wr : World} (h : Rc w0 a b Wb vb Mb wd Kt Tt H H2 H3 C B vc j vw vct vft t wr) (n : Nat) :
    Rc w0 a b Wb vb Mb wd Kt Tt H H2 H3 C B vc j vw vct vft t (wr.drewN n) :=
  ⟨h.wk, h.col, h.tab, h.plm, below_drewN h.bel n, h.row, h.vwge, h.vcge, h.vfge, h.ord⟩
def ReckPost (w0 : World) (a b : List Int) (Wb : Nat) (vb : Value) (Mb wd Kt Tt : Nat) (e : Ending) (w' : World) : Prop :=
  (∃ x, e = .returned x) ∧ ∃ C vc B t vct vft, WkAt w' Wb vb a.length Mb wd Kt Tt (.pointer (some ⟨C, 0, none⟩)) 0 ∧ Col w' C vc ((a.length + 63) / 64) B (Xc a b) t ∧
    TabW w' Tt vct vft (rws a ((a.length + 63) / 64) b).reverse ∧ Below w0.heap.size w0 w' ∧ w0.heap.size ≤ C ∧ w0.heap.size ≤ B ∧ B ≠ C ∧ Wb ≠ B ∧ Tt ≠ B ∧ (∀ g, vct.ownBlock = some g → g ≠ B) ∧ (∀ g, vft.ownBlock = some g → g ≠ B)

theorem Rc.post {w0 : World} {a b : List Int} {Wb : Nat} {vb : Value} {Mb wd Kt Tt H H2 H3 C B : Nat} {vc : Value} {vw vct vft x : Value} {t : Nat} {wr : World} (h : Rc w0 a b Wb vb Mb wd Kt Tt H H2 H3 C B vc 0 vw vct vft t wr) : ReckPost w0 a b Wb vb Mb wd Kt Tt (.returned x) wr := by
  have h1 := h.col
  have h2 := h.tab
  rw [List.drop_zero] at h1 h2
  obtain ⟨o1, o2, o3, o4, o5, o6, o7⟩ := h.ord
  exact ⟨⟨x, rfl⟩, C, vc, B, t, vct, vft, h.wk, h1, h2, h.bel, by omega, o6, by omega, by omega, by omega, fun g hg => by have := h.vcge g hg; omega, fun g hg => by have := h.vfge g hg; omega⟩
/-- What back leaves alone. -/
theorem Rc.half {w0 : World} {a b : List Int} {Wb : Nat} {vb : Value} {Mb wd Kt Tt H H2 H3 C B : Nat} {vc : Value} {j : Nat} {vw vw0 vct vft : Value} {t : Nat} {wr w5 : World} (h : Rc w0 a b Wb vb Mb wd Kt Tt H H2 H3 C B vc (j + 1) vw vct vft t wr) (h0 : vw0.ownBlock = vw.ownBlock)
    (hk : Keep (Sb C B vw0) wr w5) : WkAt w5 Wb vb a.length Mb wd Kt Tt (.pointer (some ⟨C, 0, none⟩)) 0 ∧ TabW w5 Tt vct vft (rws a ((a.length + 63) / 64) (b.drop (j + 1))).reverse := by
  obtain ⟨o1, o2, o3, o4, o5, o6, o7, o8, o9, o10, o11, o12, o13, o14, o15, o16, e2, e4⟩ := h.ord
  have hSbge : ∀ g, vw0.ownBlock = some g → H3 ≤ g := fun g hg => (h.vwge g (by rw [← h0]; exact hg)).1
  have hCt := h.col.1
  have hTt := h.tab.1
  have e1 : Wb ≠ C := ne_of_types h.wk hCt (by decide)
  have e3 : Tt ≠ C := ne_of_types hTt hCt (by decide)
  have e5 : Wb ≠ Tt := ne_of_types h.wk hTt (by decide)
  have wk5 : WkAt w5 Wb vb a.length Mb wd Kt Tt (.pointer (some ⟨C, 0, none⟩)) 0 := hk.at h.wk (fun hs => by
    rcases hs with e | e | e
    · exact e1 e
    · exact e2 e
    · have := hSbge _ e; omega)
  have tab5 : TabW w5 Tt vct vft (rws a ((a.length + 63) / 64) (b.drop (j + 1))).reverse := h.tab.keep hk (fun g hg hs => by
    rcases hg with rfl | hg | hg
    · rcases hs with e | e | e
      · exact e3 e
      · exact e4 e
      · have := hSbge _ e; omega
    · have := h.vcge g hg
      rcases hs with e | e | e
      · omega
      · omega
      · rw [h0] at e; exact (h.vwge g e).2 hg
    · have := h.vfge g hg
      rcases hs with e | e | e
      · omega
      · omega
      · obtain ⟨xs, _, hr⟩ := h.row
        rw [h0] at e
        exact own_ne hr h.tab.2.2 e hg (by decide))
  exact ⟨wk5, tab5⟩
/-- One more column. -/
theorem Rc.step {w0 : World} {a b : List Int} {Wb : Nat} {vb : Value} {Mb wd Kt Tt H H2 H3 C B : Nat} {vc : Value} {j : Nat} (hj : j < b.length) {vw vw0 vct vft v' vct' vft' : Value} {t t' : Nat} {wr w5 w6 : World} (h : Rc w0 a b Wb vb Mb wd Kt Tt H H2 H3 C B vc (j + 1) vw vct vft t wr) (h0 : vw0.ownBlock = vw.ownBlock)
    (hk : Keep (Sb C B vw0) wr w5) (hcol : Col w5 C vc ((a.length + 63) / 64) B (nw (Xc a (b.drop (j + 1))) (msk (pls a b[j]))) t')
    (hrow : w5.ownsRow 0 89 2 v' (chg (Xc a (b.drop (j + 1))) (msk (pls a b[j])) ((a.length + 63) / 64)).length ((chg (Xc a (b.drop (j + 1))) (msk (pls a b[j])) ((a.length + 63) / 64)).flatMap encW))
    (hloc : v'.ownBlock = vw0.ownBlock ∨ ∃ g, v'.ownBlock = some g ∧ wr.heap.size ≤ g) (hW : (a.length + 63) / 64 ≤ 100000)
    (hk6 : Keep (St Tt vct vft) w5 w6) (htab : TabW w6 Tt vct' vft' ((rws a ((a.length + 63) / 64) (b.drop (j + 1))).reverse ++ [chg (Xc a (b.drop (j + 1))) (msk (pls a b[j])) ((a.length + 63) / 64)]))
    (hl1 : vct'.ownBlock = vct.ownBlock ∨ ∃ g, vct'.ownBlock = some g ∧ w5.heap.size ≤ g) (hl2 : vft'.ownBlock = vft.ownBlock ∨ ∃ g, vft'.ownBlock = some g ∧ w5.heap.size ≤ g) :
    Rc w0 a b Wb vb Mb wd Kt Tt H H2 H3 C B vc j v' vct' vft' t' w6 := by
  obtain ⟨o1, o2, o3, o4, o5, o6, o7, o8, o9, o10, o11, o12, o13, o14, o15, o16, e2, e4⟩ := h.ord
  have hSbge : ∀ g, vw0.ownBlock = some g → H3 ≤ g := fun g hg => (h.vwge g (by rw [← h0]; exact hg)).1
  obtain ⟨wk5, tab5⟩ := h.half h0 hk
  have e1 : Wb ≠ C := ne_of_types h.wk h.col.1 (by decide)
  have e3 : Tt ≠ C := ne_of_types h.tab.1 h.col.1 (by decide)
  have e5 : Wb ≠ Tt := ne_of_types h.wk h.tab.1 (by decide)
  have hlt : ∀ (v : Value) (e z n : Nat) (xs : List Value) (w : World) (g : Nat), w.ownsRow 0 e z v n xs → v.ownBlock = some g → g < w.heap.size := fun v e z n xs w g ho hg => (ho.lt g hg).2
  have hStge : ∀ g, St Tt vct vft g → g = Tt ∨ H3 ≤ g := fun g hg => by
    rcases hg with e | e | e
    · exact Or.inl e
    · exact Or.inr (h.vcge g e)
    · exact Or.inr (h.vfge g e)
  have hv'ge : ∀ g, v'.ownBlock = some g → H3 ≤ g ∧ vct.ownBlock ≠ some g := fun g hg => by
    rcases hloc with e | ⟨g', e, hg'⟩
    · rw [e, h0] at hg; exact h.vwge g hg
    · rw [e] at hg
      cases hg
      exact ⟨by omega, fun hc => by have := hlt _ _ _ _ _ _ _ h.tab.2.1 hc; omega⟩
  have hbd := List.drop_eq_getElem_cons hj
  refine ⟨hk6.at wk5 (fun hs => by rcases hStge _ hs with e | e <;> omega), ?_, ?_, (h.plm.keep hk (fun g g1 g2 hs => ?_)).keep hk6 (fun g g1 g2 hs => ?_), ?_, ⟨_, ?_, own_keep hrow hk6 (fun g hg hs => ?_)⟩, ?_, ?_, ?_, ?_⟩
  · rw [hbd]
    exact hcol.keep hk6 (fun hs => by rcases hStge _ hs with e | e <;> omega) (fun hs => by rcases hStge _ hs with e | e <;> omega)
  · rw [hbd]
    show TabW w6 Tt vct' vft' (_ :: rws a _ (b.drop (j + 1))).reverse
    rw [List.reverse_cons]
    exact htab
  · rcases hs with e | e | e
    · omega
    · omega
    · have := hSbge _ e; omega
  · rcases hStge _ hs with e | e <;> omega
  · refine h.bel.trans ((hk.below (fun g hs => ?_) h.bel.size).trans (hk6.below (fun g hs => ?_) (Nat.le_trans h.bel.size hk.size)))
    · rcases hs with e | e | e
      · omega
      · omega
      · have := hSbge _ e; omega
    · rcases hStge _ hs with e | e <;> omega
  · have := chg_len (Xc a (b.drop (j + 1))) (msk (pls a b[j])) ((a.length + 63) / 64); omega
  · rcases hs with e | e | e
    · subst e; have := (hv'ge _ hg).1; omega
    · exact (hv'ge _ hg).2 e
    · exact own_ne hrow tab5.2.2 hg e (by decide)
  · intro g hg
    refine ⟨(hv'ge g hg).1, fun hc => ?_⟩
    rcases hl1 with e | ⟨g', e, hg'⟩
    · rw [e] at hc; exact (hv'ge g hg).2 hc
    · rw [e] at hc; cases hc
      have := hlt _ _ _ _ _ _ _ hrow hg; omega
  · intro g hg
    rcases hl1 with e | ⟨g', e, hg'⟩
    · rw [e] at hg; exact h.vcge g hg
    · rw [e] at hg; cases hg
      have := hk.size; omega
  · intro g hg
    rcases hl2 with e | ⟨g', e, hg'⟩
    · rw [e] at hg; exact h.vfge g hg
    · rw [e] at hg; cases hg
      have := hk.size; omega
  · have := hk.size
    have := hk6.size
    omega

set_option maxHeartbeats 6400000 in
set_option maxRecDepth 100000 in
theorem reckon_any (w0 : World) (a b : List Int) (Wb Mb wd Kt Tt H H2 : Nat) (vb vcu vfu : Value) (w : World) (hrb : Rz w0 vb b) (hbw : Below w0.heap.size w0 w) (hwk : WkAt w Wb vb a.length Mb wd Kt Tt (.pointer none) 0)
    (hku : TabU w Kt vcu vfu ((a.length + 63) / 64) (fun _ => 0)) (htw : TabW w Tt (.slice none 0 0) (.slice none 0 0) []) (hpl : Pls w Mb H H2 a) (hwd : b.length ≤ wd) (hwd2 : wd ≤ 8589934592) (hla : a.length ≤ 100000) (hlb : b.length ≤ 100000)
    (hord : w0.heap.size ≤ H ∧ H ≤ H2 ∧ H2 ≤ w.heap.size ∧ w0.heap.size ≤ Wb ∧ (Wb < H ∨ H2 ≤ Wb) ∧ w0.heap.size ≤ Tt ∧ (Tt < H ∨ H2 ≤ Tt) ∧ (Kt < H ∨ H2 ≤ Kt) ∧ w0.heap.size ≤ Kt ∧ (∀ g, vcu.ownBlock = some g → H2 ≤ g)) :
    Calls Try.prog 53 #[.pointer (some ⟨Wb, 0, none⟩)] w (ReckPost w0 a b Wb vb Mb wd Kt Tt) := by
  obtain ⟨i1, i2, i3, i4, i5, i6, i7, i8, i9, i10⟩ := hord
  have hWb : (a.length + 63) / 64 ≤ 100000 := by omega
  have HTK := Lib.hid (takeU_any Kt _ vcu vfu _ w hku (by omega))
  obtain ⟨aob, cb, rfl⟩ := hrb.len
  have FB := Lib.hid hrb.at
  have c4 : w.cell? ⟨Wb, 4, none⟩ = some (.pointer (some ⟨Kt, 0, none⟩)) := cell_at hwk 4
  have HWK := Lib.hid hwk
  have HKU := Lib.hid hku
  have HTW := Lib.hid htw
  have HPL := Lib.hid hpl
  have HBW := Lib.hid hbw
  have hlt := lt_of_at hwk
  obtain ⟨wm, hwm⟩ : ∃ wm, min wd b.length = wm := ⟨_, rfl⟩
  have hwmb : wm = b.length := by omega
  clear hwk hku htw hpl hbw hrb
  go_enter Try.func53, Try.ntmps53
  go_wp2_with fail
  refine HTK.out.mono ?_
  rintro e w1 ⟨v, g, rfl, hwdv, hg, hk1, cK, hcK⟩
  have K1 := Lib.hid hk1
  have hneT : Tt ≠ Kt := ne_of_types HTW.out.1 HKU.out.1 (by decide)
  have hne : Wb ≠ Kt := ne_of_types HWK.out HKU.out.1 (by decide)
  obtain ⟨B, hwdB, hB1, hB2, hB3, hBW, hBT⟩ : ∃ B, Wd w1 v ((a.length + 63) / 64) B (fun _ => 0) ∧ w0.heap.size ≤ B ∧ (B < H ∨ H2 ≤ B) ∧ B < w1.heap.size ∧ B ≠ Wb ∧ B ≠ Tt := by
    by_cases h0 : (a.length + 63) / 64 = 0
    · have hl : Kt < w1.heap.size := Nat.lt_of_lt_of_le (lt_of_at HKU.out.1) hk1.size
      refine ⟨Kt, .inl ⟨h0, ?_⟩, i9, i8, hl, fun e => hne e.symm, fun e => hneT e.symm⟩
      obtain ⟨ao, c, hv⟩ := hwdv.len
      exact ⟨ao, c, by rw [hv, h0]⟩
    · have hgv := hg (by omega)
      have h2 := i10 g hgv
      rcases hwdv with ⟨h, _⟩ | ⟨_, cap, cur, hv, j1, j2, j3, j4⟩
      · exact absurd h h0
      · exact ⟨g, .inr ⟨by omega, cap, cur, hv, j1, j2, j3, j4⟩, by omega, Or.inr h2, lt_of_at j2, fun e => by subst e; exact own_ne_at HKU.out.2.1 hgv HWK.out (by decide), fun e => by subst e; exact own_ne_at HKU.out.2.1 hgv HTW.out.1 (by decide)⟩
  have HCO := Lib.hid (columnOf_any v _ B _ w1 hwdB (fun _ _ => rfl) (by omega))
  clear hwdv hk1 hg HTK hwdB hcK
  go_wp2_with fail
  refine HCO.out.mono ?_
  rintro e w2 ⟨rfl, hcol, hk2⟩
  have hsz1 := K1.out.size
  have hK12 : Keep (fun b => b = Kt) w w2 := K1.out.trans (hk2.mono (fun _ _ h => h.elim))
  have hneTW : Tt ≠ Wb := ne_of_types HTW.out.1 HWK.out (by decide)
  have hwk2 : WkAt w2 Wb (.slice aob b.length cb) a.length Mb wd Kt Tt (.pointer none) 0 := hK12.at HWK.out hne
  have c6 : w2.cell? ⟨Wb, 6, none⟩ = some (.pointer none) := cell_at hwk2 6
  have f6 := frozen_at hwk2 6
  have hlt2 := lt_of_at hwk2
  have hlw := lt_of_at HWK.out
  have hlT := lt_of_at HTW.out.1
  have hwk3 := set_at hwk2 6 (.pointer (some ⟨w1.heap.size, 0, none⟩))
  have hk3 : Keep (fun b => b = Wb) w2 (w2.setCell ⟨Wb, 6, none⟩ (.pointer (some ⟨w1.heap.size, 0, none⟩))) := (Keep.refl (fun b => b = Wb) w2).setCell (p := ⟨Wb, 6, none⟩) (Or.inl rfl) _
  have hk13 : Keep (fun b => b = Kt ∨ b = Wb) w (w2.setCell ⟨Wb, 6, none⟩ (.pointer (some ⟨w1.heap.size, 0, none⟩))) := (hK12.mono (fun _ _ h => Or.inl h)).trans (hk3.mono (fun _ _ h => Or.inr h))
  have HR0 : Hid (Rc w0 a b Wb (.slice aob b.length cb) Mb wd Kt Tt H H2 (w2.setCell ⟨Wb, 6, none⟩ (.pointer (some ⟨w1.heap.size, 0, none⟩))).heap.size w1.heap.size B v b.length (.slice none 0 0) (.slice none 0 0) (.slice none 0 0) ((a.length + 63) / 64) (w2.setCell ⟨Wb, 6, none⟩ (.pointer (some ⟨w1.heap.size, 0, none⟩)))) := Lib.hid (by
    have hsz3 := hk3.size
    have hlc := lt_of_at hcol.1
    refine ⟨hwk3, ?_, ?_, HPL.out.keep hk13 (fun g h1 h2 hs => by rcases hs with h | h <;> omega), HBW.out.trans ((hk13.below (fun g hs => by rcases hs with h | h <;> omega) (HBW.out.size)) ), ⟨[], by simp, World.ownsRow_nil _ _ _ _⟩,
      by simp [Value.ownBlock], by simp [Value.ownBlock], by simp [Value.ownBlock], ?_⟩
    · rw [List.drop_eq_nil_of_le (Nat.le_refl _)]
      exact hcol.keep hk3 (by omega) hBW
    · rw [List.drop_eq_nil_of_le (Nat.le_refl _)]
      exact HTW.out.keep hk13 (fun g hs => by
        rcases hs with h | h | h
        · subst h; intro h; rcases h with h | h
          · exact hneT h
          · exact hneTW h
        · simp [Value.ownBlock] at h
        · simp [Value.ownBlock] at h)
    · omega)
  have c6' : w2.cell? ⟨Wb, 6, none⟩ = some (.pointer none) := c6
  clear hwk3 hk3 hk13 hcol hk2 hK12 hwk2 HTW HKU HWK HPL HBW K1
  go_upto_region 2 with fail
  generalize w2.setCell ⟨Wb, 6, none⟩ (.pointer (some ⟨w1.heap.size, 0, none⟩)) = w3 at *
  generalize hH3 : w3.heap.size = H3 at *
  generalize w1.heap.size = C at *
  clear hH3 c6 c6' f6
  have c0 : w3.cell? ⟨Wb, 0, none⟩ = some (.slice aob b.length cb) := cell_at HR0.out.wk 0
  have c3 : w3.cell? ⟨Wb, 3, none⟩ = some (.int .i64 wd) := cell_at HR0.out.wk 3
  have c7 : w3.cell? ⟨Wb, 7, none⟩ = some (.int .i64 (0 : Nat)) := cell_at HR0.out.wk 7
  have c7' : w3.cell? ⟨Wb, 7, none⟩ = some (.int .i64 0) := c7
  have ea : IntKind.i64.wrap (wd : Int) = (wd : Int) := by rw [IntKind.wrap_i64]; omega
  have ea2 : IntKind.i64.wrap ((0 : Int) + (wd : Int)) = (wd : Int) := by rw [IntKind.wrap_i64]; omega
  have emn : ∀ w, (Builtin.min_ #[3, 3] 3 #[.int .i64 (wd : Int), .int .i64 (b.length : Int)]).run Try.prog w = .ok (.int .i64 (b.length : Int)) w := fun w => by rw [min2]; congr 2; omega
  have eb : IntKind.i64.wrap ((b.length : Int) - 1) = (b.length : Int) - 1 := by rw [IntKind.wrap_i64]; omega
  go_wp2_with fail
  go_quiet (fail)
  have HR1 := Lib.hid (HR0.out.drew nq)
  clear HR0 c0 c3 c7 c7' ea ea2 emn eb
  generalize w3.drewN nq = w4 at *
  go_wp2_with fail
  go_loopw [2, 3] (fun vw s wr => ∃ (r : Nat) (vct vft : Value) (t : Nat), r ≤ b.length ∧ s = .int .i64 ((r : Int) - 1) ∧ Hid (Rc w0 a b Wb (.slice aob b.length cb) Mb wd Kt Tt H H2 H3 C B v r vw vct vft t wr)) (fun _ s _ => (intOf s + 1).toNat)
  case atStart => exact ⟨b.length, _, _, _, Nat.le_refl _, by go_num, HR1⟩
  case round =>
    clear HR1
    obtain ⟨r, vct, vft, t, hr, rfl, HF⟩ := hrel
    have c7 : wr.cell? ⟨Wb, 7, none⟩ = some (.int .i64 0) := cell_at HF.out.wk 7
    rcases r with _ | j
    · have hneg : ((0 : Nat) : Int) - 1 = -1 := by omega
      rw [hneg]
      go_wp2_with fail
      go_end0
      exact HF.out.post
    · have hjb : j < b.length := by omega
      rw [show ((j + 1 : Nat) : Int) - 1 = (j : Int) by omega]
      obtain ⟨bb, ob, rfl, hbb, cb0⟩ := FB.out j hjb
      have cb1 : wr.cell? ⟨bb, ob + j, none⟩ = some (.int .i64 b[j]) := (HF.out.bel.cell (by exact hbb)).trans cb0
      have c0 : wr.cell? ⟨Wb, 0, none⟩ = some (.slice (some ⟨bb, ob, none⟩) b.length cb) := cell_at HF.out.wk 0
      have c2 : wr.cell? ⟨Wb, 2, none⟩ = some (.map (some Mb)) := cell_at HF.out.wk 2
      have c6 : wr.cell? ⟨Wb, 6, none⟩ = some (.pointer (some ⟨C, 0, none⟩)) := cell_at HF.out.wk 6
      obtain ⟨h1, h2, f, n, hmp, hpl⟩ := HF.out.plm
      have hmp2 : Mp wr.drew Mb f n := hmp
      have hl2 := hmp2.lookup b[j]
      obtain ⟨xs, hxl, hrow⟩ := HF.out.row
      obtain ⟨vw0, hs0, hrow0, hown0⟩ := slice_none hrow (by omega)
      have hplx := hpl b[j]
      obtain ⟨vp, hvp⟩ : ∃ vp, (f b[j]).getD (.slice none 0 0) = vp := ⟨_, rfl⟩
      rw [hvp] at hl2 hplx
      obtain ⟨o1, o2, o3, o4, o5, o6, o7, o8, o9, o10, o11, o12, o13, o14, o15, o16, o17, o18⟩ := HF.out.ord
      have hB2 : B < wr.heap.size := by omega
      have his := isCol_all (a := a) (B := b) (j := j + 1) (by omega)
      have HBk := Lib.hid (back_any C B ((a.length + 63) / 64) t v vp vw0 (Xc a (b.drop (j + 1))) (msk (pls a b[j])) (pls a b[j]) [] wr.drew HF.out.col his.lt (fun _ => rfl)
        (Pl.more (S := fun b => b < H ∨ H2 ≤ b) hplx (fun b hb hs => by
          rcases hs with h | h | h
          · right; omega
          · subst h; exact o7
          · right; rw [hown0] at h; have := (HF.out.vwge b h).1; omega))
        (pls_in a _) (pls_rise a _) hrow0 (fun h => by rw [hown0] at h; have := (HF.out.vwge C h).1; omega) (fun h => by rw [hown0] at h; have := (HF.out.vwge B h).1; omega) o14 hWb (by simp) (by
          have := rpl_len (Mc a b[j]) a.length
          unfold Lcx.pls; rw [List.length_reverse]; omega) hB2)
      have HO0 := Lib.hid hown0
      have htb : (chg (Xc a (b.drop (j + 1))) (msk (pls a b[j])) ((a.length + 63) / 64)).length ≤ 100000 := by
        have := chg_len (Xc a (b.drop (j + 1))) (msk (pls a b[j])) ((a.length + 63) / 64); omega
      have hfl := rws_flat a ((a.length + 63) / 64) (b.drop (j + 1))
      have hfl2 : (b.drop (j + 1)).length * ((a.length + 63) / 64) ≤ 100000 * 1600 := Nat.mul_le_mul (by rw [List.length_drop]; omega) (by omega)
      have hrl : (rws a ((a.length + 63) / 64) (b.drop (j + 1))).reverse.length ≤ 1000000 := by rw [List.length_reverse, rws_len, List.length_drop]; omega
      have HADD : Hid (∀ (v' : Value) (w5 : World), TabW w5 Tt vct vft (rws a ((a.length + 63) / 64) (b.drop (j + 1))).reverse → w5.ownsRow 0 89 2 v' (chg (Xc a (b.drop (j + 1))) (msk (pls a b[j])) ((a.length + 63) / 64)).length ((chg (Xc a (b.drop (j + 1))) (msk (pls a b[j])) ((a.length + 63) / 64)).flatMap encW) → _) :=
        Lib.hid (fun v' w5 ht hr => addW_any Tt vct vft v' _ _ w5 ht hr hrl (by omega))
      have d1 := lit_cell cb1
      have d0 := lit_cell c0
      have d2 := lit_cell c2
      have d6 := lit_cell c6
      have hjb2 : (j : Int) < (b.length : Int) := by omega
      clear hmp hmp2 hpl hplx hvp hrow hrow0 hown0 hxl cb0 h1 h2 htb hfl hfl2 hrl his
      go_wp2_with fail
      go_still_tail 18, (by kernel_rfl)
      change wpList _ _ _ _ _ wr.drew
      go_wp2_with fail
      refine HBk.out.mono ?_
      rintro e w5 ⟨v', t', rfl, hcol, hrow, hloc, hk⟩
      have hk0 : Keep (Sb C B vw0) wr w5 := (Keep.refl _ wr).drew.trans hk
      obtain ⟨wk5, tab5⟩ := HF.out.half HO0.out hk0
      have c5 : w5.cell? ⟨Wb, 5, none⟩ = some (.pointer (some ⟨Tt, 0, none⟩)) := cell_at wk5 5
      have hlw5 := lt_of_at wk5
      have HAD := Lib.hid (HADD.out v' w5 tab5 hrow)
      have H5 := Lib.hid (And.intro hcol (And.intro hrow (And.intro hloc hk0)))
      clear hcol hrow hloc hk hk0 wk5 tab5 HBk HADD d0 d1 d2 d6 c0 c2 c6 c7 hl2 cb1
      go_wp2_with fail
      refine HAD.out.mono ?_
      rintro e w6 ⟨⟨x6, rfl⟩, vct', vft', htab, hl1, hl2', hk6⟩
      have HFn : Hid (Rc w0 a b Wb (.slice (some ⟨bb, ob, none⟩) b.length cb) Mb wd Kt Tt H H2 H3 C B v j v' vct' vft' t' w6) := Lib.hid
        (HF.out.step hjb HO0.out H5.out.2.2.2 H5.out.1 H5.out.2.1 H5.out.2.2.1 hWb hk6 htab hl1 hl2')
      clear htab hl1 hl2' hk6 HAD H5 c5
      go_wp2_with fail
      go_roundw
      case rel => exact ⟨j, _, _, t', by omega, by go_num, HFn⟩
      case measure => simp [intOf] <;> omega
end Go.Proofs.Ytbfclmhcoelplaa.Lp
