/-
  Several texts in one:
  CONTRACT of Ids (number).
  CONTRACTS of the program's of and used (tree): what a block has, and what its kind uses of that.
  CONTRACT of the program's Same (span).
-/
import Derived.Test.YtldllbmbcnipoaaGreatDoorPkTO
import Derived.Test.YtldllbmbcnipoaaGreatDoorBtTree
import Derived.Test.YtldllbmbcnipoaaGreatDoorPkTC
import Derived.Laws.StructEq
import Derived.Test.YtldllbmbcnipoaaGreatDoorPkTI
namespace Go.Proofs.YtldllbmbcnipoaaGreatDoor.Nm
open Go.RowKit
open Go.Proofs.YtldllbmbcnipoaaGreatDoor.Tk (S S_of S_list S_size S_toList S_app Rd RdI RdL RdLI Fill)
open Go.Proofs.YtldllbmbcnipoaaGreatDoor.Cm (cell_at alloc_new)
open Go.Proofs.YtldllbmbcnipoaaGreatDoor.Bt (TrB ttAll ttOne ttAll_mem)
open Go.Proofs.YtldllbmbcnipoaaGreatDoor.Bk (Bk Tx)
set_option linter.unusedVariables false

theorem infoLS : (Tryz.prog.info? 27).map (fun i => (i.zero, i.size, i.bytes)) = some (some (.slice none 0 0), 1, 24) := by kernel_rfl
/-- The rows of keys so far. -/
def KRows (w0 : World) (B : Nat) (ls : List (List Bk)) (k : Nat) (wr : World) : Prop :=
  ∃ f, Fill w0 B ls.length 27 f k wr ∧ ∀ j x, j < k → ls[j]? = some x → RdG (B + 1) wr (f j) (keys x)
theorem KRows.step {w0 wr w' : World} {B k : Nat} {ls : List (List Bk)} {u : Value} (h : KRows w0 B ls k wr) (hk : k < ls.length) (hb : Below wr.heap.size wr w') (hu : RdG wr.heap.size w' u (keys ls[k])) :
    KRows w0 B ls (k + 1) (w'.setCell ⟨B, k, none⟩ u) := by
  obtain ⟨f, h1, h2⟩ := h
  have hBl := h1.lt
  refine ⟨_, (h1.below hb).put hk u, fun j x hj hx => ?_⟩
  by_cases e : j = k
  · subst e
    rw [if_pos rfl]
    rw [List.getElem?_eq_getElem hk, Option.some.injEq] at hx
    subst hx
    exact (hu.mono (by omega)).set (by omega)
  · rw [if_neg e]
    exact ((h2 j x (by omega) hx).below hb).set (by omega)
theorem KRows.rdl {w0 wr : World} {B : Nat} {ls : List (List Bk)} (h : KRows w0 B ls ls.length wr) : RdL wr (.slice (some ⟨B, 0, none⟩) ls.length ls.length) (ls.map keys) := by
  obtain ⟨f, h1, h2⟩ := h
  refine ⟨_, ls.length, by rw [List.length_map], Or.inr ⟨B, 0, rfl, h1.lt, fun j x hj => ?_⟩⟩
  rw [List.getElem?_map] at hj
  obtain ⟨y, hy, rfl⟩ := Option.map_eq_some_iff.1 hj
  have hjl := (List.getElem?_eq_some_iff.1 hy).1
  exact ⟨f j, by rw [Nat.zero_add]; exact h1.at (Nat.le_refl _) hjl, (h2 j y hjl hy).rd⟩
theorem rdj_of {w : World} {v : Value} {ids : List (List Int)} (h : RdLI w v ids) : RdJ w v ids := by
  obtain ⟨b, cap, hv, hlt, hcell⟩ := h
  exact ⟨_, cap, hv, Or.inr ⟨b, 0, rfl, hlt, fun j x hj => by rw [Nat.zero_add]; exact hcell j x hj⟩⟩
theorem flat_len : ∀ ls : List (List Bk), (∀ l ∈ ls, l.length ≤ 2000) → (ls.map keys).flatten.length ≤ 2000 * ls.length
  | [], _ => by simp
  | l :: r, h => by
    have h1 := h l (List.mem_cons_self ..)
    have h2 := flat_len r (fun x hx => h x (List.mem_cons_of_mem _ hx))
    rw [List.map_cons, List.flatten_cons, List.length_append, List.length_cons, keys_len]
    omega
theorem idL_eq (ls : List (List Bk)) : (ls.map keys).map (Tk.rk (ls.map keys).flatten) = idL ls := by
  unfold idL
  rw [List.map_map]
  have h : (ls.map keys).flatten = ls.flatten.map bk1 := by
    show (ls.map (List.map bk1)).flatten = _
    rw [List.map_flatten]
  rw [h]
  rfl
set_option maxHeartbeats 3200000 in
set_option maxRecDepth 100000 in
theorem idsP_any (v : Value) (ls : List (List Bk)) (w : World) (hv : LsB w v ls) (hT : Tab w) (hl : ls.length ≤ 10) (hls : ∀ l ∈ ls, ttAll l ≤ 2000 ∧ Bt.fitAll 140737488355328 l) :
    Calls Tryz.prog 6 #[v] w fun e w' => ∃ v', e = .returned v' ∧ RdJ w' v' (idL ls) ∧ Below w.heap.size w w' := by
  obtain ⟨i0, hi, hz0, hz1, hz2⟩ := info_parts infoLS
  obtain ⟨ao, ca, rfl, hca, hx⟩ := hv
  have HX := Lib.hid hx
  have hm : ls.length ≤ maxLen := by unfold maxLen; omega
  have HK := Lib.hid (fun k (hk : k < ls.length) (v : Value) (w' : World) (hb : Below w.heap.size w w') (hv : TrB w' v ls[k]) => keysP_any ls[k] v w' (hT.below hb) (hls _ (List.getElem_mem hk)).1 (hls _ (List.getElem_mem hk)).2 hv)
  have HFl := Lib.hid (flat_len ls (fun l h => Nat.le_trans (tt_len l) (hls l h).1))
  unfold RdGA at HK
  clear hx hls hT
  go_enter Tryz.func6, Tryz.ntmps6
  go_wp2_with (at_make; refine wpList_make_full _ rfl _ _ 40 rfl w.heap.size 27 i0 (.slice none 0 0) 1 Tryz.underlying40 hi hz0 hz1 _ _ _ _ ls.length rfl rfl rfl rfl (by rw [hz2]; omega) hm (Nat.le_refl _) ?_)
  intro W4 hown hgrow
  have HF : Hid (KRows w w.heap.size ls 0 W4) := Lib.hid ⟨fun _ => .slice none 0 0, Fill.start hown hgrow, fun j x hj => absurd hj (Nat.not_lt_zero _)⟩
  clear hown hgrow hi hz0 hz1 hz2
  go_wp2_with fail
  go_loopw [11] (fun i wr => ∃ k : Nat, k ≤ ls.length ∧ i = .int .i64 k ∧ Hid (KRows w w.heap.size ls k wr)) (fun i _ => ls.length - (intOf i).toNat)
  case atStart => exact ⟨0, Nat.zero_le _, rfl, HF⟩
  case round =>
    clear HF
    obtain ⟨k, hk, rfl, HF⟩ := hrel
    have HB : Hid (Below w.heap.size w wr) := Lib.hid (by obtain ⟨_, ⟨_, _, _, h⟩, _⟩ := HF.out; exact h)
    by_cases hlt : k < ls.length
    · have hi1 : (k : Int) < (ls.length : Int) := by omega
      rcases HX.out with h0 | ⟨b, o, rfl, hbl, hcell⟩
      · rw [h0] at hlt; exact absurd hlt (Nat.not_lt_zero _)
      obtain ⟨u, h1, h2⟩ := hcell k _ (List.getElem?_eq_getElem hlt)
      have k1 : wr.cell? ⟨b, o + k, none⟩ = some u := (HB.out.cell (by exact hbl)).trans h1
      have HKw := Lib.hid (HK.out k hlt u wr HB.out (h2.below HB.out))
      have HFs := Lib.hid (fun (w' : World) (v : Value) (h : Below wr.heap.size wr w') (g : RdG wr.heap.size w' v (keys ls[k])) => HF.out.step hlt h g)
      have HFc := Lib.hid (fun (w' : World) (h : Below wr.heap.size wr w') => by
        obtain ⟨f, hf, _⟩ := HF.out
        exact (hf.below h).cell hlt)
      obtain ⟨ua, uc, rfl⟩ := h2.len
      clear hcell h1 h2 HK HX HF HFl
      generalize keys ls[k] = ys at *
      generalize ls[k].length = m at *
      go_wp2_with fail
      refine HKw.out.mono ?_
      rintro e w5 ⟨v5, rfl, hri, hb5⟩
      have HR2 := Lib.hid (HFs.out w5 v5 hb5 hri)
      obtain ⟨⟨c5, hc5⟩, hf5⟩ := HFc.out w5 hb5
      have ho5 : v5.oneCell' = true := by obtain ⟨_, _, rfl⟩ := hri.len; rfl
      obtain ⟨a5, d5, rfl⟩ := hri.len
      clear hri hb5 HKw HFs HFc
      generalize ys.length = yn at *
      go_wp2_with fail
      go_roundw
      case rel => exact ⟨k + 1, by omega, by go_num, HR2⟩
      case measure => simp [intOf]; omega
    · obtain rfl : k = ls.length := by omega
      have hi1 : ¬ (ls.length : Int) < (ls.length : Int) := by omega
      have HI := Lib.hid (Tk.ids_any _ (ls.map keys) wr HF.out.rdl (by rw [List.length_map]; omega) (by have := HFl.out; omega))
      rw [idL_eq] at HI
      clear hlt HF HK HX HFl
      go_wp2_with fail
      refine HI.out.mono ?_
      rintro e w6 ⟨v6, rfl, r6, b6⟩
      have HR := Lib.hid (rdj_of r6)
      have HB6 := Lib.hid (HB.out.trans (b6.mono HB.out.size))
      clear r6 b6 HI HB
      go_wp2_with fail
      go_ret
      exact ⟨_, rfl, HR.out, HB6.out⟩
end Go.Proofs.YtldllbmbcnipoaaGreatDoor.Nm

namespace Go.Proofs.YtldllbmbcnipoaaGreatDoor.Bt
open Go.RowKit
open Go.Proofs.YtldllbmbcnipoaaGreatDoor.Tk (S S_of S_list S_size ret_int)
open Go.Proofs.YtldllbmbcnipoaaGreatDoor.Cm (calls_at alloc_new cell_at)
open Go.Proofs.YtldllbmbcnipoaaGreatDoor.Sp (ret_bool)
open Go.Proofs.YtldllbmbcnipoaaGreatDoor.Bk (Bk)
set_option linter.unusedVariables false

/-- What a block has, as a value. -/
def hasV (k lv : Int) (s : ByteArray) (n ns nk : Int) : Value := .agg #[.int .i64 k, .int .i64 lv, .string s, .int .i64 n, .int .i64 ns, .int .i64 nk]
def HasAns (w : World) (v : Value) (e : Ending) (w' : World) : Prop := e = .returned v ∧ Below w.heap.size w w'

theorem of_any (k lv : Int) (s : ByteArray) (al as' ak : Option Addr) (n ns nk : Nat) (cl cs ck : Nat) (w : World) :
    Calls Tryz.prog 55 #[.agg #[.int .i64 k, .int .i64 lv, .string s, .slice al n cl, .slice as' ns cs, .slice ak nk ck]] w (HasAns w (hasV k lv s n ns nk)) := by
  go_enter Tryz.func55, Tryz.ntmps55
  go_wp2_with fail
  exact bodyPost_ret (v := hasV k lv s n ns nk) (by simp [results, Tryz.results55, go_sem, hasV]) rfl ⟨rfl, ((Below.refl _ w).alloc (Nat.le_refl _) _).alloc (by simp) _⟩

/-- What a kind uses. -/
def usedV (k lv : Int) (s : ByteArray) (n ns nk : Int) : Value :=
  if k = 1 then hasV k 0 ⟨#[]⟩ 0 ns 0
  else if k = 2 then hasV k lv ⟨#[]⟩ 0 ns 0
  else if k = 4 ∨ k = 8 then hasV k 0 s n 0 0
  else if k = 5 ∨ k = 6 ∨ k = 7 then hasV k 0 ⟨#[]⟩ 0 0 nk
  else hasV k 0 ⟨#[]⟩ 0 0 0

/-- Two of them, compared. -/
def eqH (k lv : Int) (s : ByteArray) (n ns nk : Int) (k' lv' : Int) (s' : ByteArray) (n' ns' nk' : Int) : Bool := (k == k') && (lv == lv') && (s.toList == s'.toList) && (n == n') && (ns == ns') && (nk == nk')
theorem run_eq_has (k lv : Int) (s : ByteArray) (n ns nk : Int) (k' lv' : Int) (s' : ByteArray) (n' ns' nk' : Int) (w : World) :
    (binOp .eql 85 (hasV k lv s n ns nk) (hasV k' lv' s' n' ns' nk')).run Tryz.prog w = .ok (.bool (eqH k lv s n ns nk k' lv' s' n' ns' nk')) w := by
  unfold hasV
  rw [run_eql_struct, run_equalIn_agg w 9999 _ _ _ (by kernel_rfl) (by kernel_rfl)]
  simp [go_sem, Program.fieldsOf, Tryz.underlying85, Tryz.underlying3, Tryz.underlying9]
  unfold eqH
  repeat' split
  all_goals simp_all
theorem run_ne_has (k lv : Int) (s : ByteArray) (n ns nk : Int) (k' lv' : Int) (s' : ByteArray) (n' ns' nk' : Int) (w : World) :
    (binOp .neq 85 (hasV k lv s n ns nk) (hasV k' lv' s' n' ns' nk')).run Tryz.prog w = .ok (.bool (!eqH k lv s n ns nk k' lv' s' n' ns' nk')) w := by
  have h := run_eq_has k lv s n ns nk k' lv' s' n' ns' nk' w
  unfold hasV at h ⊢
  rw [run_eql_struct] at h
  rw [run_neq_struct]
  cases hr : (Op.equalIn 10000 85 (.agg #[.int .i64 k, .int .i64 lv, .string s, .int .i64 n, .int .i64 ns, .int .i64 nk]) (.agg #[.int .i64 k', .int .i64 lv', .string s', .int .i64 n', .int .i64 ns', .int .i64 nk'])).run Tryz.prog w with
  | ok b w1 =>
    rw [hr] at h
    simp only [Result.andThen, Result.ok.injEq, Value.bool.injEq] at h ⊢
    exact ⟨by rw [h.1], h.2⟩
  | halt x w1 =>
    rw [hr] at h
    simp [Result.andThen] at h
theorem guard_has (op : BinOp) (x y : Operand) (xs ys : Array Value) (w : World) : (eqGuard op 85 x y (.agg xs) (.agg ys)).run Tryz.prog w = .ok () w := run_eqGuard_agg w op _ x y xs ys (by kernel_rfl)
end Go.Proofs.YtldllbmbcnipoaaGreatDoor.Bt

namespace Go.Proofs.YtldllbmbcnipoaaGreatDoor.Sp
open Go.RowKit
open Go.Proofs.YtldllbmbcnipoaaGreatDoor.Tk (S S_of S_list S_size S_toList S_app ret_int)
open Go.Proofs.YtldllbmbcnipoaaGreatDoor.Cm (calls_at)
set_option linter.unusedVariables false

set_option maxHeartbeats 6400000 in
set_option maxRecDepth 100000 in
theorem sameP_any (m : Nat) : ∀ (a b : List Sp) (va vb : Value) (w : World), totAll a ≤ m → Tr w va a → Tr w vb b →
    Calls Tryz.prog 57 #[va, vb] w (OkAns w (smAll a b)) := by
  induction m using Nat.strongRecOn with
  | ind m ih =>
    intro a b va vb w hm ta tb
    have TA := Lib.hid ta
    have TB := Lib.hid tb
    obtain ⟨ao, ca, rfl⟩ := ta.len
    obtain ⟨bo, cb, rfl⟩ := tb.len
    have hla := ta.short
    have hlb := tb.short
    by_cases hl : a.length = b.length
    · have e0 : ((a.length : Int) != (b.length : Int)) = false := by simp [hl]
      have HIH : Hid (∀ k (hk : k < a.length) (l2 : List Sp) (v1 v2 : Value) (w' : World), Tr w' v1 a[k].kids → Tr w' v2 l2 → Calls Tryz.prog 57 #[v1, v2] w' (OkAns w' (smAll a[k].kids l2))) := Lib.hid (fun k hk l2 v1 v2 w' t1 t2 =>
        ih (totAll a[k].kids) (Nat.lt_of_lt_of_le (totAll_kids (List.getElem_mem hk)) hm) a[k].kids l2 v1 v2 w' (Nat.le_refl _) t1 t2)
      have H0 : Hid (smAll a b = smAll (a.drop 0) (b.drop 0)) := Lib.hid (by rw [List.drop_zero, List.drop_zero])
      obtain ⟨X, hX⟩ : ∃ X, smAll a b = X := ⟨_, rfl⟩
      rw [hX] at H0
      rw [hX]
      have HL := Lib.hid hl
      clear ih ta tb hm hX hl
      go_enter Tryz.func57, Tryz.ntmps57
      go_wp2_with fail
      go_loopw [15] (fun i wr => ∃ k : Nat, k ≤ a.length ∧ i = .int .i64 k ∧ Below w.heap.size w wr ∧ Hid (X = smAll (a.drop k) (b.drop k))) (fun i _ => a.length - (intOf i).toNat)
      case atStart => exact ⟨0, Nat.zero_le _, rfl, Below.refl _ _, H0⟩
      case round =>
        clear H0
        obtain ⟨k, hk, rfl, hb, HN⟩ := hrel
        have Hb := Lib.hid hb
        by_cases hlt : k < a.length
        · have hlt2 : k < b.length := by have := HL.out; omega
          have hnx := HN.out
          rw [drop_cons a k hlt, drop_cons b k hlt2, smAll_cons, smOne_eq] at hnx
          have hi1 : (k : Int) < (a.length : Int) := by omega
          have hi2 : (k : Int) < (b.length : Int) := by omega
          obtain ⟨b1, o1, ak1, ck1, rfl, hb1, hC1⟩ := (TA.out.below hb).at k hlt
          obtain ⟨b2, o2, ak2, ck2, rfl, hb2, hC2⟩ := (TB.out.below hb).at k hlt2
          have c0 := hC1.kind
          have c1 := hC1.s
          have c2 := hC1.kids
          have d0 := hC2.kind
          have d1 := hC2.s
          have d2 := hC2.kids
          have HC := Lib.hid (fun w' (h : Below wr.heap.size wr w') => HIH.out k hlt b[k].kids _ _ w' (hC1.tr.below h) (hC2.tr.below h))
          have HQ := Lib.hid hnx
          have hs1 := S_toList a[k].s
          have hs2 := S_toList b[k].s
          clear hnx HN hC1 hC2 hb
          generalize smAll a[k].kids b[k].kids = y at *
          generalize a[k].kids.length = kn1 at *
          generalize b[k].kids.length = kn2 at *
          generalize a[k].kind = z1 at *
          generalize b[k].kind = z2 at *
          generalize a[k].s = s1 at *
          generalize b[k].s = s2 at *
          have B1 : Below wr.heap.size wr (wr.alloc (.cells #[.int .i64 z1, .string (S s1), .slice ak1 kn1 ck1] 78)) := (Below.refl _ _).alloc (Nat.le_refl _) _
          have B2 : Below wr.heap.size wr ((wr.alloc (.cells #[.int .i64 z1, .string (S s1), .slice ak1 kn1 ck1] 78)).alloc (.cells #[.int .i64 z2, .string (S s2), .slice ak2 kn2 ck2] 78)) := B1.alloc B1.size _
          have d0' := (B1.cell (p := ⟨b2, o2 + k * 3, none⟩) hb2).trans d0
          have d1' := (B1.cell (p := ⟨b2, o2 + k * 3 + 1, none⟩) hb2).trans d1
          have d2' := (B1.cell (p := ⟨b2, o2 + k * 3 + 2, none⟩) hb2).trans d2
          have HB2 := Lib.hid B2
          have HBb := Lib.hid (Hb.out.trans (B2.mono Hb.out.size))
          clear B1 B2 d0 d1 d2
          by_cases hz : z1 = z2
          · have e1 : (z1 != z2) = false := by simp [hz]
            by_cases hs : s1 = s2
            · have e2 : ((S s1).toList == (S s2).toList) = true := by rw [hs]; simp
              have e2' : ((S s1).toList != (S s2).toList) = false := by rw [hs]; simp
              have HQ2 : Hid (X = (y && smAll (a.drop (k + 1)) (b.drop (k + 1)))) := Lib.hid (by rw [HQ.out, decide_eq_true hz, decide_eq_true hs]; simp)
              clear HQ hz hs hs1 hs2
              generalize S s1 = t1 at *
              generalize S s2 = t2 at *
              go_wp2_with fail
              refine (HC.out _ HB2.out).mono ?_
              rintro e w3 ⟨rfl, b3⟩
              have HB3 := Lib.hid (HBb.out.trans (b3.mono HBb.out.size))
              clear b3 HC
              cases y with
              | true =>
                have HR : Hid (X = smAll (a.drop (k + 1)) (b.drop (k + 1))) := Lib.hid (by rw [HQ2.out]; rfl)
                go_wp2_with fail
                go_roundw
                case rel => exact ⟨k + 1, by omega, by go_num, HB3.out, HR⟩
                case measure => simp [intOf] <;> omega
              | false =>
                have HR : Hid (X = false) := Lib.hid (by rw [HQ2.out]; rfl)
                go_wp2_with fail
                go_ret
                exact ⟨ret_bool HR.out.symm, HB3.out⟩
            · have e2 : ((S s1).toList == (S s2).toList) = false := by rw [hs1, hs2]; simpa using hs
              have e2' : ((S s1).toList != (S s2).toList) = true := by rw [hs1, hs2]; simpa using hs
              have HR : Hid (X = false) := Lib.hid (by rw [HQ.out, decide_eq_false hs]; simp)
              clear HQ hz hs HC hs1 hs2
              generalize S s1 = t1 at *
              generalize S s2 = t2 at *
              go_wp2_with fail
              go_ret
              exact ⟨ret_bool HR.out.symm, HBb.out⟩
          · have e1 : (z1 != z2) = true := by rw [bne_iff_ne]; exact hz
            have HR : Hid (X = false) := Lib.hid (by rw [HQ.out, decide_eq_false hz]; simp)
            clear HQ hz HC hs1 hs2
            generalize S s1 = t1 at *
            generalize S s2 = t2 at *
            go_wp2_with fail
            go_ret
            exact ⟨ret_bool HR.out.symm, HBb.out⟩
        · obtain rfl : k = a.length := by omega
          have hnx := HN.out
          rw [List.drop_length, List.drop_eq_nil_of_le (by have := HL.out; omega)] at hnx
          have HR : Hid (X = true) := Lib.hid (by rw [hnx]; unfold smAll; rfl)
          clear hnx HN hlt hb
          go_wp2_with fail
          go_ret
          exact ⟨ret_bool HR.out.symm, Hb.out⟩
    · have e0 : ((a.length : Int) != (b.length : Int)) = true := by simp; omega
      have HR := Lib.hid (smAll_len a b hl)
      clear ih ta tb hm hl TA TB
      go_enter Tryz.func57, Tryz.ntmps57
      go_wp2_with fail
      go_ret
      exact ⟨ret_bool HR.out.symm, Below.refl _ _⟩

end Go.Proofs.YtldllbmbcnipoaaGreatDoor.Sp
