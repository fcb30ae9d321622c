/-
  Several texts in one:
  CONTRACT of the document's Right (emendationref07).
  CONTRACT of the document's one (emendationref10), by all's at its kids.
  CONTRACT of the document's Deep (emendationref10).
  CONTRACTS of the document's all and Right (emendationref10).
  CONTRACT of the document's Key (emendationref15).
  WHAT IS ASKED OF THE PROGRAM (span), over any world; a list of one span, as a literal lays it; the statements' own awake.
-/
import Derived.Test.YtldllbmbcnipoaaDoorPkNH
import Derived.Test.YtldllbmbcnipoaaDoorPkND
import Derived.Test.YtldllbmbcnipoaaDoorPkNG
import Derived.Test.YtldllbmbcnipoaaDoorPkNC
namespace Go.Proofs.YtldllbmbcnipoaaDoor.Sp
open Go.RowKit
open Go.Proofs.YtldllbmbcnipoaaDoor.Tk (S S_of S_list S_size S_toList S_app ret_int eq8 ne8 at_data len_data)
open Go.Proofs.YtldllbmbcnipoaaDoor.Cm (calls_at Keep alloc_new alloc_at cell_at lt_of_at)
set_option linter.unusedVariables false

def hdB (x : Sp) : Bool := !decide (x.kind = 1) || !edB (x.s.headD 0)
def ltB (x : Sp) : Bool := !decide (x.kind = 1) || !edB (x.s.getLastD 0)
def endB (l : List Sp) : Bool := (l.head?.elim true hdB) && (l.getLast?.elim true ltB)
/-- Spans in normal form. -/
def rtB (l : List Sp) : Bool := okAll false false 0 l && endB l
theorem okAll_mem {e k : Bool} : ∀ {l : List Sp} {p : Int}, okAll e k p l = true → ∀ x ∈ l, okOne e k x = true
  | [], _, _, x, hx => by cases hx
  | y :: r, p, h, x, hx => by
    rw [okAll_cons, Bool.and_eq_true, Bool.and_eq_true] at h
    rcases List.mem_cons.1 hx with rfl | hx
    · exact h.1.1
    · exact okAll_mem h.2 x hx
theorem okOne_text {e k : Bool} {x : Sp} (h : okOne e k x = true) (h1 : x.kind = 1) : x.s ≠ [] := by
  rw [okOne_eq, if_pos h1, Bool.and_eq_true, Bool.and_eq_true] at h
  have := h.2.2
  unfold ttB at this
  rw [Bool.and_eq_true, Bool.and_eq_true] at this
  have := this.2.1
  intro e
  rw [e] at this
  simp at this
def fstB (t : ByteArray) : UInt8 := t.data.toList.headD 0
def lstB (t : ByteArray) : UInt8 := t.data.toList.getLastD 0
theorem fstB_eq (t : ByteArray) (h : 0 < t.size) : fstB t = t[0] := by
  have := at_data t 0 h
  rw [List.drop_zero] at this
  have h2 : t.data.toList.head? = some t[0] := congrArg List.head? this
  unfold fstB
  rw [List.headD_eq_head?_getD, h2]
  rfl
theorem lstB_eq (t : ByteArray) (h : t.size - 1 < t.size) : lstB t = t[t.size - 1] := by
  have h1 := at_data t (t.size - 1) h
  have hl := len_data t
  have h2 : (t.data.toList.drop (t.size - 1)).head? = some t[t.size - 1] := congrArg List.head? h1
  unfold lstB
  rw [List.getLastD_eq_getLast?, List.getLast?_eq_getElem?, ← List.head?_drop, hl, h2]
  rfl
theorem fst_S (s : List UInt8) : fstB (S s) = s.headD 0 := by unfold fstB; rw [S_list]
theorem lst_S (s : List UInt8) : lstB (S s) = s.getLastD 0 := by unfold lstB; rw [S_list]

end Go.Proofs.YtldllbmbcnipoaaDoor.Sp

namespace Go.Proofs.YtldllbmbcnipoaaDoor.Bt
open Go.RowKit
open Go.Proofs.YtldllbmbcnipoaaDoor.Tk (S S_of S_list S_size S_toList ret_int Rd)
open Go.Proofs.YtldllbmbcnipoaaDoor.Cm (calls_at alloc_new cell_at)
open Go.Proofs.YtldllbmbcnipoaaDoor.Sp (Sp Tr hsB rtB plAll dsB ret_bool OkAns isEmpty_len)
open Go.Proofs.YtldllbmbcnipoaaDoor.Bk (Bk)
set_option linter.unusedVariables false

mutual
def oneB (list : Bool) : Bk → Bool
  | .mk k lv i ls ss l => (decide (k = 7) == list) && (
    if k = 1 then (lv == 0) && i.isEmpty && ls.isEmpty && l.isEmpty && !ss.isEmpty && rtB ss
    else if k = 2 then i.isEmpty && ls.isEmpty && l.isEmpty && decide (lv ≥ 1) && decide (lv ≤ 6) && rtB ss && !hsB 10 (plAll ss)
    else if k = 3 then (lv == 0) && i.isEmpty && ls.isEmpty && ss.isEmpty && l.isEmpty
    else if k = 4 then ls.all lineB && ((lv == 0) && ss.isEmpty && l.isEmpty && infB i)
    else if k = 5 then (lv == 0) && i.isEmpty && ls.isEmpty && ss.isEmpty && allB false 0 l
    else if k = 7 then (lv == 0) && i.isEmpty && ls.isEmpty && ss.isEmpty && allB false 0 l
    else if k = 6 then (lv == 0) && i.isEmpty && ls.isEmpty && ss.isEmpty && !l.isEmpty && allB true 0 l
    else if k = 8 then (lv == 0) && ss.isEmpty && l.isEmpty && labB i && decide (ls.length = 1) && dsB (ls.headD [])
    else false)
def allB (list : Bool) (p : Int) : List Bk → Bool
  | [] => true
  | x :: r => oneB list x && !(decide (p = 6) && decide (x.kind = 6)) && allB list x.kind r
end
theorem allB_cons (list : Bool) (p : Int) (x : Bk) (r : List Bk) : allB list p (x :: r) = (oneB list x && !(decide (p = 6) && decide (x.kind = 6)) && allB list x.kind r) := by rw [allB]
theorem ss_len {α : Type} (l : List α) : (l.length = 1) ↔ ∃ x, l = [x] := List.length_eq_one_iff

end Go.Proofs.YtldllbmbcnipoaaDoor.Bt

namespace Go.Proofs.YtldllbmbcnipoaaDoor.Bt
open Go.RowKit
open Go.Proofs.YtldllbmbcnipoaaDoor.Tk (S S_of S_list S_size ret_int)
open Go.Proofs.YtldllbmbcnipoaaDoor.Cm (calls_at)
open Go.Proofs.YtldllbmbcnipoaaDoor.Bk (Bk)
set_option linter.unusedVariables false

/-- Is it a container? -/
def boxB (k : Int) : Bool := decide (k = 5) || decide (k = 6) || decide (k = 7)
mutual
/-- As the machine counts. -/
def dpOne (n : Int) : Bk → Int
  | .mk k _ _ _ _ l => if boxB k = true then max n (IntKind.i64.wrap (1 + dpAll 0 l)) else max n (dpAll 0 l)
def dpAll (n : Int) : List Bk → Int
  | [] => n
  | x :: r => dpAll (dpOne n x) r
end
def dp (l : List Bk) : Int := dpAll 0 l
theorem dpAll_cons (n : Int) (x : Bk) (r : List Bk) : dpAll n (x :: r) = dpAll (if boxB x.kind = true then max n (IntKind.i64.wrap (1 + dp x.kids)) else max n (dp x.kids)) r := by
  obtain ⟨k, lv, i, ls, ss, l⟩ := x
  rw [dpAll, dpOne]
  rfl

end Go.Proofs.YtldllbmbcnipoaaDoor.Bt

namespace Go.Proofs.YtldllbmbcnipoaaDoor.Bt
open Go.RowKit
open Go.Proofs.YtldllbmbcnipoaaDoor.Tk (S S_of S_list S_size S_toList ret_int Rd)
open Go.Proofs.YtldllbmbcnipoaaDoor.Cm (calls_at alloc_new cell_at)
open Go.Proofs.YtldllbmbcnipoaaDoor.Sp (Sp Tr ret_bool OkAns)
open Go.Proofs.YtldllbmbcnipoaaDoor.Bk (Bk)
set_option linter.unusedVariables false

/-- The kind ahead of place j. -/
def pkAt (l : List Bk) : Nat → Int
  | 0 => 0
  | j + 1 => (l[j]?.map Bk.kind).getD 0
theorem pkAt_next (l : List Bk) (j : Nat) (h : j < l.length) : pkAt l (j + 1) = l[j].kind := by
  show (l[j]?.map Bk.kind).getD 0 = _
  rw [List.getElem?_eq_getElem h]
  rfl
theorem ttAll_mem : ∀ {l : List Bk} {x : Bk}, x ∈ l → ttOne x ≤ ttAll l
  | [], x, h => by cases h
  | y :: r, x, h => by
    rw [ttAll_cons]
    rcases List.mem_cons.1 h with rfl | h
    · omega
    · have := ttAll_mem h; omega

def rgB (l : List Bk) : Bool := allB false 0 l && decide (dp l ≤ 16)
end Go.Proofs.YtldllbmbcnipoaaDoor.Bt

namespace Go.Proofs.YtldllbmbcnipoaaDoor.Nm
open Go.RowKit
open Go.Proofs.YtldllbmbcnipoaaDoor.Tk (S S_of S_list S_size S_toList S_app Rd)
open Go.Proofs.YtldllbmbcnipoaaDoor.Cm (cell_at alloc_new)
open Go.Proofs.YtldllbmbcnipoaaDoor.Sp (Sp Tr totAll)
open Go.Proofs.YtldllbmbcnipoaaDoor.Bt (TrB ttAll ttOne lnTot szAll szOne ttAll_mem)
open Go.Proofs.YtldllbmbcnipoaaDoor.Bk (Bk Tx)
set_option linter.unusedVariables false

theorem txs_len : ∀ l : List Tx, lnTot l ≤ 9223372036854775807 → (txs l).length ≤ 21 * lnTot l
  | [], _ => by simp [txs]
  | s :: r, h => by
    rw [lnTot] at h ⊢
    have h1 := tx_len (s := s) (by omega)
    have h2 := txs_len r (by omega)
    rw [txs, List.length_append]
    omega
theorem ln_len : ∀ l : List Tx, l.length ≤ lnTot l
  | [] => Nat.zero_le _
  | s :: r => by have := ln_len r; rw [lnTot, List.length_cons]; omega
theorem tt_len : ∀ l : List Bk, l.length ≤ ttAll l
  | [] => Nat.zero_le _
  | x :: r => by
    have := tt_len r
    rw [Bt.ttAll_cons, Bt.ttOne_eq, List.length_cons]
    omega
theorem ln_memN : ∀ (l : List Tx) (s : Tx), s ∈ l → s.length < lnTot l
  | [], s, h => by cases h
  | y :: r, s, h => by
    rw [lnTot]
    rcases List.mem_cons.1 h with rfl | h
    · omega
    · have := ln_memN r s h; omega
mutual
theorem bk1_len : ∀ x : Bk, Bt.fitOne 140737488355328 x → ttOne x ≤ 9000000000 → (bk1 x).length ≤ 150 * ttOne x
  | .mk k lv i ls ss l, hf, ht => by
    rw [Bt.fitOne] at hf
    rw [ttOne] at ht ⊢
    have h1 := dgI_21 hf.1
    have h2 := dgI_21 hf.2.1
    have h3 := tx_len (s := i) (by omega)
    have h4 := txs_len ls (by omega)
    have h5 := ln_len ls
    have h6 := dgN_20 (n := ls.length) (by omega)
    have h7 := spR_len (by omega) ss hf.2.2.2.2.1 (by omega)
    have h8 := Sp.totAll_len ss
    have h9 := dgN_20 (n := ss.length) (by omega)
    have h10 := bkR_len l hf.2.2.2.2.2 (by omega)
    have h11 := tt_len l
    have h12 := dgN_20 (n := l.length) (by omega)
    rw [bk1]
    unfold spK
    simp only [List.length_append, List.length_cons]
    omega
theorem bkR_len : ∀ l : List Bk, Bt.fitAll 140737488355328 l → ttAll l ≤ 9000000000 → (bkR l).length ≤ 150 * ttAll l
  | [], _, _ => by simp [bkR]
  | x :: r, hf, ht => by
    rw [Bt.fitAll] at hf
    rw [Bt.ttAll_cons] at ht ⊢
    have h1 := bk1_len x hf.1 (by omega)
    have h2 := bkR_len r hf.2 (by omega)
    rw [bkR, List.length_append]
    omega
end
/-- How a block's key goes on, piece by piece. -/
theorem bk1_eq (q lv : Int) (i : Tx) (lns : List Tx) (ss : List Sp) (l : List Bk) : bk1 (.mk q lv i lns ss l) = (dgI q ++ [59] ++ dgI lv ++ [59] ++ tx i ++ dgN lns.length ++ [59]) ++ txs lns ++ (spK ss ++ dgN l.length ++ [59]) ++ bkR l := by
  rw [bk1]
  simp
end Go.Proofs.YtldllbmbcnipoaaDoor.Nm

namespace Go.Proofs.YtldllbmbcnipoaaDoor.Sp
open Go.RowKit
open Go.Proofs.YtldllbmbcnipoaaDoor.Tk (S S_of S_list S_size S_toList S_app ret_int)
open Go.Proofs.YtldllbmbcnipoaaDoor.Cm (calls_at)
set_option linter.unusedVariables false

def StrAns (w : World) (s : List UInt8) (e : Ending) (w' : World) : Prop := e = .returned (.string (S s)) ∧ Below w.heap.size w w'
def IntAns (w : World) (n : Int) (e : Ending) (w' : World) : Prop := e = .returned (.int .i64 n) ∧ Below w.heap.size w w'
def lnI (l : List Sp) : Int := 1 + (plAll l).count 10
mutual
theorem fitOne_mono {R R' : Nat} (h : R ≤ R') : ∀ x : Sp, fitOne R x → fitOne R' x
  | .mk k s l, hf => by
    unfold fitOne at hf ⊢
    exact ⟨hf.1, Nat.le_trans hf.2.1 h, fitAll_mono h l hf.2.2⟩
theorem fitAll_mono {R R' : Nat} (h : R ≤ R') : ∀ l : List Sp, fitAll R l → fitAll R' l
  | [], _ => by unfold fitAll; trivial
  | x :: r, hf => by
    unfold fitAll at hf ⊢
    exact ⟨fitOne_mono h x hf.1, fitAll_mono h r hf.2⟩
end
theorem fit_reach {l : List Sp} (h : fitAll reachBytes l) : fitAll 140737488355328 l := fitAll_mono (by decide) l h
theorem tr_nil (w : World) : Tr w (.slice none 0 0) [] := ⟨none, 0, rfl, ⟨Nat.le_refl _, by omega⟩, Or.inl rfl⟩
/-- A literal of one span. -/
theorem tr_one {w : World} {q : Int} {s : List UInt8} {ak : Option Addr} {n c : Nat} {l : List Sp} (h : Tr w (.slice ak n c) l) (t : TypeId) :
    Tr (w.alloc (.cells #[.int .i64 q, .string (S s), .slice ak n c] t)) (.slice (some ⟨w.heap.size, 0, none⟩) 1 1) [.mk q s l] := by
  have hb : Below w.heap.size w (w.alloc (.cells #[.int .i64 q, .string (S s), .slice ak n c] t)) := (Below.refl _ _).alloc (Nat.le_refl _) _
  have h2 := h.below hb
  have hn : n = l.length := by obtain ⟨_, _, hv, _⟩ := h; simp only [Value.slice.injEq] at hv; exact hv.2.1
  subst hn
  refine ⟨_, 1, rfl, ⟨Nat.le_refl _, by omega⟩, Or.inr ⟨w.heap.size, 0, rfl, by simp, ?_⟩⟩
  unfold trAll
  refine ⟨trOne_of (ao := ak) (cap := c) ⟨?_, ?_, ?_, h2⟩, by unfold trAll; trivial⟩
  · rw [World.cell?_alloc_new]; rfl
  · rw [World.cell?_alloc_new]; rfl
  · rw [World.cell?_alloc_new]; rfl

theorem rt_ab : rtB [.mk 1 [97, 32, 98] []] = true ∧ rtB [.mk 1 [32, 97] []] = false := by
  constructor <;> decide +kernel

end Go.Proofs.YtldllbmbcnipoaaDoor.Sp
