/-
  Several texts in one:
  CONTRACT of Ids (number).
  CONTRACTS of the program's of and used (tree): what a block has, and what its kind uses of that.
-/
import Derived.Test.YtldllbmbcnipoaaDoorPkNQ
import Derived.Test.YtldllbmbcnipoaaDoorBtTree
import Derived.Test.YtldllbmbcnipoaaDoorPkND
import Derived.Laws.StructEq
namespace Go.Proofs.YtldllbmbcnipoaaDoor.Nm
open Go.RowKit
open Go.Proofs.YtldllbmbcnipoaaDoor.Tk (S S_of S_list S_size S_toList S_app Rd RdI RdL RdLI Fill)
open Go.Proofs.YtldllbmbcnipoaaDoor.Cm (cell_at alloc_new)
open Go.Proofs.YtldllbmbcnipoaaDoor.Bt (TrB ttAll ttOne ttAll_mem)
open Go.Proofs.YtldllbmbcnipoaaDoor.Bk (Bk Tx)
set_option linter.unusedVariables false

theorem infoLS : (Tryd.prog.info? 30).map (fun i => (i.zero, i.size, i.bytes)) = some (some (.slice none 0 0), 1, 24) := by kernel_rfl
/-- The rows of keys so far. -/
def KRows (w0 : World) (B : Nat) (ls : List (List Bk)) (k : Nat) (wr : World) : Prop :=
  ∃ f, Fill w0 B ls.length 30 f k wr ∧ ∀ j x, j < k → ls[j]? = some x → RdG (B + 1) wr (f j) (keys x)
theorem KRows.step {w0 wr w' : World} {B k : Nat} {ls : List (List Bk)} {u : Value} (h : KRows w0 B ls k wr) (hk : k < ls.length) (hb : Below wr.heap.size wr w') (hu : RdG wr.heap.size w' u (keys ls[k])) :
    KRows w0 B ls (k + 1) (w'.setCell ⟨B, k, none⟩ u) := by
  obtain ⟨f, h1, h2⟩ := h
  have hBl := h1.lt
  refine ⟨_, (h1.below hb).put hk u, fun j x hj hx => ?_⟩
  by_cases e : j = k
  · subst e
    rw [if_pos rfl]
    rw [List.getElem?_eq_getElem hk, Option.some.injEq] at hx
    subst hx
    exact (hu.mono (by omega)).set (by omega)
  · rw [if_neg e]
    exact ((h2 j x (by omega) hx).below hb).set (by omega)
theorem KRows.rdl {w0 wr : World} {B : Nat} {ls : List (List Bk)} (h : KRows w0 B ls ls.length wr) : RdL wr (.slice (some ⟨B, 0, none⟩) ls.length ls.length) (ls.map keys) := by
  obtain ⟨f, h1, h2⟩ := h
  refine ⟨_, ls.length, by rw [List.length_map], Or.inr ⟨B, 0, rfl, h1.lt, fun j x hj => ?_⟩⟩
  rw [List.getElem?_map] at hj
  obtain ⟨y, hy, rfl⟩ := Option.map_eq_some_iff.1 hj
  have hjl := (List.getElem?_eq_some_iff.1 hy).1
  exact ⟨f j, by rw [Nat.zero_add]; exact h1.at (Nat.le_refl _) hjl, (h2 j y hjl hy).rd⟩
theorem rdj_of {w : World} {v : Value} {ids : List (List Int)} (h : RdLI w v ids) : RdJ w v ids := by
  obtain ⟨b, cap, hv, hlt, hcell⟩ := h
  exact ⟨_, cap, hv, Or.inr ⟨b, 0, rfl, hlt, fun j x hj => by rw [Nat.zero_add]; exact hcell j x hj⟩⟩
theorem flat_len : ∀ ls : List (List Bk), (∀ l ∈ ls, l.length ≤ 2000) → (ls.map keys).flatten.length ≤ 2000 * ls.length
  | [], _ => by simp
  | l :: r, h => by
    have h1 := h l (List.mem_cons_self ..)
    have h2 := flat_len r (fun x hx => h x (List.mem_cons_of_mem _ hx))
    rw [List.map_cons, List.flatten_cons, List.length_append, List.length_cons, keys_len]
    omega
theorem idL_eq (ls : List (List Bk)) : (ls.map keys).map (Tk.rk (ls.map keys).flatten) = idL ls := by
  unfold idL
  rw [List.map_map]
  have h : (ls.map keys).flatten = ls.flatten.map bk1 := by
    show (ls.map (List.map bk1)).flatten = _
    rw [List.map_flatten]
  rw [h]
  rfl
set_option maxHeartbeats 3200000 in
set_option maxRecDepth 100000 in
theorem idsP_any (v : Value) (ls : List (List Bk)) (w : World) (hv : LsB w v ls) (hT : Tab w) (hl : ls.length ≤ 10) (hls : ∀ l ∈ ls, ttAll l ≤ 2000 ∧ Bt.fitAll 140737488355328 l) :
    Calls Tryd.prog 9 #[v] w fun e w' => ∃ v', e = .returned v' ∧ RdJ w' v' (idL ls) ∧ Below w.heap.size w w' := by
  obtain ⟨i0, hi, hz0, hz1, hz2⟩ := info_parts infoLS
  obtain ⟨ao, ca, rfl, hca, hx⟩ := hv
  have HX := Lib.hid hx
  have hm : ls.length ≤ maxLen := by unfold maxLen; omega
  have HK := Lib.hid (fun k (hk : k < ls.length) (v : Value) (w' : World) (hb : Below w.heap.size w w') (hv : TrB w' v ls[k]) => keysP_any ls[k] v w' (hT.below hb) (hls _ (List.getElem_mem hk)).1 (hls _ (List.getElem_mem hk)).2 hv)
  have HFl := Lib.hid (flat_len ls (fun l h => Nat.le_trans (tt_len l) (hls l h).1))
  unfold RdGA at HK
  clear hx hls hT
  go_enter Tryd.func9, Tryd.ntmps9
  go_wp2_with (at_make; refine wpList_make_full _ rfl _ _ 40 rfl w.heap.size 30 i0 (.slice none 0 0) 1 Tryd.underlying40 hi hz0 hz1 _ _ _ _ ls.length rfl rfl rfl rfl (by rw [hz2]; omega) hm (Nat.le_refl _) ?_)
  intro W4 hown hgrow
  have HF : Hid (KRows w w.heap.size ls 0 W4) := Lib.hid ⟨fun _ => .slice none 0 0, Fill.start hown hgrow, fun j x hj => absurd hj (Nat.not_lt_zero _)⟩
  clear hown hgrow hi hz0 hz1 hz2
  go_wp2_with fail
  go_loopw [11] (fun i wr => ∃ k : Nat, k ≤ ls.length ∧ i = .int .i64 k ∧ Hid (KRows w w.heap.size ls k wr)) (fun i _ => ls.length - (intOf i).toNat)
  case atStart => exact ⟨0, Nat.zero_le _, rfl, HF⟩
  case round =>
    clear HF
    obtain ⟨k, hk, rfl, HF⟩ := hrel
    have HB : Hid (Below w.heap.size w wr) := Lib.hid (by obtain ⟨_, ⟨_, _, _, h⟩, _⟩ := HF.out; exact h)
    by_cases hlt : k < ls.length
    · have hi1 : (k : Int) < (ls.length : Int) := by omega
      rcases HX.out with h0 | ⟨b, o, rfl, hbl, hcell⟩
      · rw [h0] at hlt; exact absurd hlt (Nat.not_lt_zero _)
      obtain ⟨u, h1, h2⟩ := hcell k _ (List.getElem?_eq_getElem hlt)
      have k1 : wr.cell? ⟨b, o + k, none⟩ = some u := (HB.out.cell (by exact hbl)).trans h1
      have HKw := Lib.hid (HK.out k hlt u wr HB.out (h2.below HB.out))
      have HFs := Lib.hid (fun (w' : World) (v : Value) (h : Below wr.heap.size wr w') (g : RdG wr.heap.size w' v (keys ls[k])) => HF.out.step hlt h g)
      have HFc := Lib.hid (fun (w' : World) (h : Below wr.heap.size wr w') => by
        obtain ⟨f, hf, _⟩ := HF.out
        exact (hf.below h).cell hlt)
      obtain ⟨ua, uc, rfl⟩ := h2.len
      clear hcell h1 h2 HK HX HF HFl
      generalize keys ls[k] = ys at *
      generalize ls[k].length = m at *
      go_wp2_with fail
      refine HKw.out.mono ?_
      rintro e w5 ⟨v5, rfl, hri, hb5⟩
      have HR2 := Lib.hid (HFs.out w5 v5 hb5 hri)
      obtain ⟨⟨c5, hc5⟩, hf5⟩ := HFc.out w5 hb5
      have ho5 : v5.oneCell' = true := by obtain ⟨_, _, rfl⟩ := hri.len; rfl
      obtain ⟨a5, d5, rfl⟩ := hri.len
      clear hri hb5 HKw HFs HFc
      generalize ys.length = yn at *
      go_wp2_with fail
      go_roundw
      case rel => exact ⟨k + 1, by omega, by go_num, HR2⟩
      case measure => simp [intOf]; omega
    · obtain rfl : k = ls.length := by omega
      have hi1 : ¬ (ls.length : Int) < (ls.length : Int) := by omega
      have HI := Lib.hid (Tk.ids_any _ (ls.map keys) wr HF.out.rdl (by rw [List.length_map]; omega) (by have := HFl.out; omega))
      rw [idL_eq] at HI
      clear hlt HF HK HX HFl
      go_wp2_with fail
      refine HI.out.mono ?_
      rintro e w6 ⟨v6, rfl, r6, b6⟩
      have HR := Lib.hid (rdj_of r6)
      have HB6 := Lib.hid (HB.out.trans (b6.mono HB.out.size))
      clear r6 b6 HI HB
      go_wp2_with fail
      go_ret
      exact ⟨_, rfl, HR.out, HB6.out⟩
end Go.Proofs.YtldllbmbcnipoaaDoor.Nm

namespace Go.Proofs.YtldllbmbcnipoaaDoor.Bt
open Go.RowKit
open Go.Proofs.YtldllbmbcnipoaaDoor.Tk (S S_of S_list S_size ret_int)
open Go.Proofs.YtldllbmbcnipoaaDoor.Cm (calls_at alloc_new cell_at)
open Go.Proofs.YtldllbmbcnipoaaDoor.Sp (ret_bool)
open Go.Proofs.YtldllbmbcnipoaaDoor.Bk (Bk)
set_option linter.unusedVariables false

/-- What a block has, as a value. -/
def hasV (k lv : Int) (s : ByteArray) (n ns nk : Int) : Value := .agg #[.int .i64 k, .int .i64 lv, .string s, .int .i64 n, .int .i64 ns, .int .i64 nk]
def HasAns (w : World) (v : Value) (e : Ending) (w' : World) : Prop := e = .returned v ∧ Below w.heap.size w w'

theorem of_any (k lv : Int) (s : ByteArray) (al as' ak : Option Addr) (n ns nk : Nat) (cl cs ck : Nat) (w : World) :
    Calls Tryd.prog 44 #[.agg #[.int .i64 k, .int .i64 lv, .string s, .slice al n cl, .slice as' ns cs, .slice ak nk ck]] w (HasAns w (hasV k lv s n ns nk)) := by
  go_enter Tryd.func44, Tryd.ntmps44
  go_wp2_with fail
  exact bodyPost_ret (v := hasV k lv s n ns nk) (by simp [results, Tryd.results44, go_sem, hasV]) rfl ⟨rfl, ((Below.refl _ w).alloc (Nat.le_refl _) _).alloc (by simp) _⟩

/-- What a kind uses. -/
def usedV (k lv : Int) (s : ByteArray) (n ns nk : Int) : Value :=
  if k = 1 then hasV k 0 ⟨#[]⟩ 0 ns 0
  else if k = 2 then hasV k lv ⟨#[]⟩ 0 ns 0
  else if k = 4 ∨ k = 8 then hasV k 0 s n 0 0
  else if k = 5 ∨ k = 6 ∨ k = 7 then hasV k 0 ⟨#[]⟩ 0 0 nk
  else hasV k 0 ⟨#[]⟩ 0 0 0

/-- Two of them, compared. -/
def eqH (k lv : Int) (s : ByteArray) (n ns nk : Int) (k' lv' : Int) (s' : ByteArray) (n' ns' nk' : Int) : Bool := (k == k') && (lv == lv') && (s.toList == s'.toList) && (n == n') && (ns == ns') && (nk == nk')
theorem run_eq_has (k lv : Int) (s : ByteArray) (n ns nk : Int) (k' lv' : Int) (s' : ByteArray) (n' ns' nk' : Int) (w : World) :
    (binOp .eql 83 (hasV k lv s n ns nk) (hasV k' lv' s' n' ns' nk')).run Tryd.prog w = .ok (.bool (eqH k lv s n ns nk k' lv' s' n' ns' nk')) w := by
  unfold hasV
  rw [run_eql_struct, run_equalIn_agg w 9999 _ _ _ (by kernel_rfl) (by kernel_rfl)]
  simp [go_sem, Program.fieldsOf, Tryd.underlying83, Tryd.underlying3, Tryd.underlying9]
  unfold eqH
  repeat' split
  all_goals simp_all
theorem run_ne_has (k lv : Int) (s : ByteArray) (n ns nk : Int) (k' lv' : Int) (s' : ByteArray) (n' ns' nk' : Int) (w : World) :
    (binOp .neq 83 (hasV k lv s n ns nk) (hasV k' lv' s' n' ns' nk')).run Tryd.prog w = .ok (.bool (!eqH k lv s n ns nk k' lv' s' n' ns' nk')) w := by
  have h := run_eq_has k lv s n ns nk k' lv' s' n' ns' nk' w
  unfold hasV at h ⊢
  rw [run_eql_struct] at h
  rw [run_neq_struct]
  cases hr : (Op.equalIn 10000 83 (.agg #[.int .i64 k, .int .i64 lv, .string s, .int .i64 n, .int .i64 ns, .int .i64 nk]) (.agg #[.int .i64 k', .int .i64 lv', .string s', .int .i64 n', .int .i64 ns', .int .i64 nk'])).run Tryd.prog w with
  | ok b w1 =>
    rw [hr] at h
    simp only [Result.andThen, Result.ok.injEq, Value.bool.injEq] at h ⊢
    exact ⟨by rw [h.1], h.2⟩
  | halt x w1 =>
    rw [hr] at h
    simp [Result.andThen] at h
theorem guard_has (op : BinOp) (x y : Operand) (xs ys : Array Value) (w : World) : (eqGuard op 83 x y (.agg xs) (.agg ys)).run Tryd.prog w = .ok () w := run_eqGuard_agg w op _ x y xs ys (by kernel_rfl)
end Go.Proofs.YtldllbmbcnipoaaDoor.Bt
