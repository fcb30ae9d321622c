/-
  Several texts in one:
  CONTRACT of token.Cut: a text's tokens, in memory of the call's own.
  CONTRACT of the document's Cut (emendationref03): the same tokens.
  CONTRACTS of the document's Keys and parts (emendationref15).
-/
import Derived.Test.YtldllbmbcnipoaaDoorPkNJ
import Derived.StillTailTactics
import Derived.Test.YtldllbmbcnipoaaDoorPkNI
import Derived.Test.YtldllbmbcnipoaaDoorPaRow
import Derived.Lib.AppendZeros
namespace Go.Proofs.YtldllbmbcnipoaaDoor.Tk
open Go.RowKit
set_option linter.unusedVariables false

/-- The tokens so far, and what is left, behind the byte at k. -/
def Rel (s : ByteArray) (f k : Nat) (o : List (List UInt8)) : Prop :=
  toks s.data.toList = o ++ (if k < s.size then tc (cur s f (k + 1)) (s.data.toList.drop (k + 1)) else [])
theorem cur_one (s : ByteArray) (k : Nat) (hk : k < s.size) : cur s k (k + 1) = [s[k]] := by
  rw [cur_snoc s k k (Nat.le_refl _) hk, cur_same]; rfl
theorem Rel.start (s : ByteArray) : Rel s 0 0 [] := by
  unfold Rel
  by_cases h : 0 < s.size
  · rw [if_pos h, cur_one s 0 h, List.nil_append]
    conv => lhs; rw [← List.drop_zero (l := s.data.toList), at_data s 0 h]
    rfl
  · rw [if_neg h]
    have := drop_all s 0 h
    rw [List.drop_zero] at this
    rw [this]; rfl
theorem Rel.on {s : ByteArray} {f k : Nat} {o : List (List UInt8)} (h : Rel s f k o) (hf : f ≤ k) (hk : k + 1 < s.size) (hj : joins (s[k]'(by omega)) s[k + 1] = true) : Rel s f (k + 1) o := by
  unfold Rel at h ⊢
  rw [if_pos (by omega), at_data s (k + 1) hk, cur_snoc s f k hf (by omega), tc_on _ _ _ _ hj, ← cur_snoc s f k hf (by omega), ← cur_snoc s f (k + 1) (by omega) hk] at h
  rw [if_pos hk]
  exact h
theorem Rel.cut {s : ByteArray} {f k : Nat} {o : List (List UInt8)} (h : Rel s f k o) (hf : f ≤ k) (hk : k + 1 < s.size) (hj : joins (s[k]'(by omega)) s[k + 1] = false) : Rel s (k + 1) (k + 1) (o ++ [(s.extract f (k + 1)).data.toList]) := by
  unfold Rel at h ⊢
  rw [if_pos (by omega), at_data s (k + 1) hk, cur_snoc s f k hf (by omega), tc_cut _ _ _ _ hj, ← cur_snoc s f k hf (by omega)] at h
  rw [if_pos hk, cur_one s (k + 1) hk, h]
  simp [cur]
theorem Rel.last {s : ByteArray} {f k : Nat} {o : List (List UInt8)} (h : Rel s f k o) (hf : f ≤ k) (hk : k + 1 = s.size) : Rel s (k + 1) (k + 1) (o ++ [(s.extract f (k + 1)).data.toList]) := by
  unfold Rel at h ⊢
  rw [if_pos (by omega), drop_all s (k + 1) (by omega), tc_end _ (by rw [cur_snoc s f k hf (by omega)]; simp)] at h
  rw [if_neg (by omega), h]
  simp [cur]
theorem Rel.stop {s : ByteArray} {f k : Nat} {o : List (List UInt8)} (h : Rel s f k o) (hk : ¬ k < s.size) : toks s.data.toList = o := by
  unfold Rel at h
  rw [if_neg hk, List.append_nil] at h
  exact h

theorem Rel.on' {s : ByteArray} {f k q : Nat} {o : List (List UInt8)} (h : Rel s f k o) (hf : f ≤ k) (hq : k + 1 = q) (hk : q < s.size) (hj : joins (s[k]'(by omega)) s[q] = true) : Rel s f q o := by subst hq; exact h.on hf hk hj
theorem Rel.cut' {s : ByteArray} {f k q : Nat} {o : List (List UInt8)} (h : Rel s f k o) (hf : f ≤ k) (hq : k + 1 = q) (hk : q < s.size) (hj : joins (s[k]'(by omega)) s[q] = false) : Rel s q q (o ++ [(s.extract f q).data.toList]) := by subst hq; exact h.cut hf hk hj
theorem Rel.last' {s : ByteArray} {f k q : Nat} {o : List (List UInt8)} (h : Rel s f k o) (hf : f ≤ k) (hq : k + 1 = q) (hk : q = s.size) : Rel s q q (o ++ [(s.extract f q).data.toList]) := by subst hq; exact h.last hf hk
theorem sym_of {P : Program} {f : FuncId} {args : Array Value} {w : World} {v : Value} (h : Calls P f args w fun e w' => e = .returned v ∧ w = w') : Calls P f args w fun e w' => e = .returned v ∧ w' = w := h.mono fun _ _ ⟨a, b⟩ => ⟨a, b.symm⟩
theorem own_drewN {w : World} {B : Nat} {e : TypeId} {z n : Nat} {v : Value} {xs : List Value} (h : w.ownsRow B e z v n xs) (m : Nat) : (w.drewN m).ownsRow B e z v n xs := h

set_option maxHeartbeats 1600000 in
set_option maxRecDepth 100000 in
theorem cut_any (s : ByteArray) (hs : s.size ≤ 1000000) (w : World) :
    Calls Tryd.prog 33 #[.string s] w fun e w' => ∃ v, e = .returned v ∧
      w'.ownsRow w.heap.size 9 1 v (toks s.data.toList).length ((toks s.data.toList).map encStr) ∧ Below w.heap.size w w' := by
  obtain ⟨i0, hi, hz0, hz1, hz2⟩ := info_parts infoS
  have H0 := Lib.hid (Rel.start s)
  go_enter Tryd.func33, Tryd.ntmps33
  go_wp2_with fail
  go_loopw [3, 4, 8] (fun v f i wr => ∃ (k fr : Nat) (o : List (List UInt8)), fr ≤ k ∧ k ≤ s.size ∧ o.length ≤ k ∧ i = .int .i64 k ∧ f = .int .i64 fr ∧ wr.ownsRow w.heap.size 9 1 v o.length (o.map encStr) ∧ Below w.heap.size w wr ∧ Hid (Rel s fr k o)) (fun _ _ i _ => s.size - (intOf i).toNat)
  case atStart => exact ⟨0, 0, [], Nat.le_refl _, Nat.zero_le _, Nat.le_refl _, rfl, rfl, World.ownsRow_nil _ _ _ _, Below.refl _ _, H0⟩
  case round =>
    clear H0
    obtain ⟨k, f, o, hf, hk, ho, rfl, rfl, hown, hb, HR⟩ := hrel
    have hB := hb.size
    by_cases hlt : k < s.size
    · obtain ⟨q, hq⟩ : ∃ q, k + 1 = q := ⟨_, rfl⟩
      have hwr : IntKind.i64.wrap ((k : Int) + 1) = (q : Int) := by rw [IntKind.wrap_i64]; omega
      by_cases hk1 : q < s.size
      · have e0 : ((q : Int) == (s.size : Int)) = false := by rw [beq_eq_false_iff_ne]; omega
        have C := Lib.hid (fun w => sym_of (st_any s[k] s[q] w))
        cases hj : joins s[k] s[q] with
        | true =>
          rw [hj] at C
          have HR2 := Lib.hid (HR.out.on' hf hq hk1 hj)
          have Hb := Lib.hid hb
          have Ho := Lib.hid hown
          clear hj hb hown HR
          go_wp2_with fail
          go_quiet (first | (go_at_call 47; refine Calls.quiet_of_same (C.out _)))
          go_wp2_with fail
          go_roundw
          case rel => exact ⟨q, f, o, by omega, by omega, by omega, by go_num, rfl, own_drewN Ho.out _, below_drewN Hb.out _, HR2⟩
          case measure => simp [intOf]; omega
        | false =>
          rw [hj] at C
          have HR2 := Lib.hid (HR.out.cut' hf hq hk1 hj)
          have Hb := Lib.hid hb
          have Ho := Lib.hid hown
          clear hj hb hown HR
          go_wp2_with fail
          go_quiet (first | (go_at_call 47; refine Calls.quiet_of_same (C.out _)))
          go_wp2_with (at_builtin; refine wpList_append_own _ rfl _ _ 30 rfl w.heap.size 9 i0 (.string ⟨#[]⟩) 1 16 Tryd.underlying30 hi hz0 hz1 hz2 rfl (by decide) _ _ _ rfl ((own_drewN Ho.out _).alloc _) ⟨wr.heap.size, 0, none⟩ 1 1 [.string (s.extract f q)] rfl rfl news1 news2 (by unfold maxLen; omega) (by omega) (by simp; omega) ?_)
          intro v' w1 hown' hgrow _
          have R := own_push (own_drewN Ho.out _) (below_drewN Hb.out _) hB hown' hgrow
          have R1 := Lib.hid R.1
          have R2 := Lib.hid R.2
          clear R hown' hgrow
          go_wp2_with fail
          go_roundw
          case rel => exact ⟨q, q, _, by omega, by omega, by simp; omega, by go_num, by go_num, R1.out, R2.out, HR2⟩
          case measure => simp [intOf]; omega
      · have e0 : ((q : Int) == (s.size : Int)) = true := by rw [beq_iff_eq]; omega
        have HR2 := Lib.hid (HR.out.last' hf hq (by omega))
        have Hb := Lib.hid hb
        have Ho := Lib.hid hown
        clear hb hown HR
        go_wp2_with fail
        go_quiet (fail)
        go_wp2_with (at_builtin; refine wpList_append_own _ rfl _ _ 30 rfl w.heap.size 9 i0 (.string ⟨#[]⟩) 1 16 Tryd.underlying30 hi hz0 hz1 hz2 rfl (by decide) _ _ _ rfl ((own_drewN Ho.out _).alloc _) ⟨wr.heap.size, 0, none⟩ 1 1 [.string (s.extract f q)] rfl rfl news1 news2 (by unfold maxLen; omega) (by omega) (by simp; omega) ?_)
        intro v' w1 hown' hgrow _
        have R := own_push (own_drewN Ho.out _) (below_drewN Hb.out _) hB hown' hgrow
        have R1 := Lib.hid R.1
        have R2 := Lib.hid R.2
        clear R hown' hgrow
        go_wp2_with fail
        go_roundw
        case rel => exact ⟨q, q, _, by omega, by omega, by simp; omega, by go_num, by go_num, R1.out, R2.out, HR2⟩
        case measure => simp [intOf]; omega
    · have HS := Lib.hid (HR.out.stop hlt)
      have Hb := Lib.hid hb
      have Ho := Lib.hid hown
      clear hb hown HR
      go_wp2_with fail
      go_ret
      rw [HS.out]
      exact ⟨_, rfl, Ho.out, Hb.out⟩

end Go.Proofs.YtldllbmbcnipoaaDoor.Tk

namespace Go.Proofs.YtldllbmbcnipoaaDoor.Tk
open Go.RowKit
set_option linter.unusedVariables false

/-- The tokens so far: the last one is open. -/
def RelR (s : ByteArray) (k : Nat) (la : Int) (o : List (List UInt8)) : Prop :=
  (o = [] ∧ k = 0) ∨ ∃ o' c a, o = o' ++ [c ++ [a]] ∧ la = (cls a : Int) ∧ toks s.data.toList = o' ++ tc (c ++ [a]) (s.data.toList.drop k)
theorem RelR.first {s : ByteArray} {k q : Nat} (h0 : k = 0) (hq : k + 1 = q) (hk : k < s.size) : RelR s q (cls s[k]) ([] ++ [(s.extract k q).data.toList]) := by
  subst hq
  subst h0
  refine Or.inr ⟨[], [], s[0], ?_, rfl, ?_⟩
  · show [] ++ [cur s 0 1] = _
    rw [cur_one s 0 hk]
    rfl
  · conv => lhs; rw [← List.drop_zero (l := s.data.toList), at_data s 0 hk]
    rfl
theorem RelR.on {s : ByteArray} {k q : Nat} {o' : List (List UInt8)} {c : List UInt8} {a : UInt8} (h : toks s.data.toList = o' ++ tc (c ++ [a]) (s.data.toList.drop k)) (hq : k + 1 = q) (hk : k < s.size) (hj : joins a s[k] = true) :
    RelR s q (cls s[k]) (o' ++ [(c ++ [a]) ++ [s[k]]]) := by
  subst hq
  refine Or.inr ⟨o', c ++ [a], s[k], rfl, rfl, ?_⟩
  rw [at_data s k hk, tc_on _ _ _ _ hj] at h
  exact h
theorem RelR.cut {s : ByteArray} {k q : Nat} {o' : List (List UInt8)} {c : List UInt8} {a : UInt8} (h : toks s.data.toList = o' ++ tc (c ++ [a]) (s.data.toList.drop k)) (hq : k + 1 = q) (hk : k < s.size) (hj : joins a s[k] = false) :
    RelR s q (cls s[k]) ((o' ++ [c ++ [a]]) ++ [(s.extract k q).data.toList]) := by
  subst hq
  refine Or.inr ⟨o' ++ [c ++ [a]], [], s[k], ?_, rfl, ?_⟩
  · show _ ++ [cur s k (k + 1)] = _
    rw [cur_one s k hk]
    rfl
  · rw [at_data s k hk, tc_cut _ _ _ _ hj] at h
    rw [h]
    simp
theorem RelR.stop {s : ByteArray} {k : Nat} {la : Int} {o : List (List UInt8)} (h : RelR s k la o) (hk : ¬ k < s.size) : toks s.data.toList = o := by
  rcases h with ⟨rfl, rfl⟩ | ⟨o', c, a, rfl, _, h⟩
  · have := drop_all s 0 hk
    rw [List.drop_zero] at this
    rw [this]; rfl
  · rw [h, drop_all s k hk, tc_end _ (by simp)]
theorem joins_int (a b : UInt8) : joins a b = (((cls b : Int) == (cls a : Int)) && decide ((cls b : Int) < 3)) := by
  unfold joins
  congr 1
  · rw [Bool.eq_iff_iff]; simp only [beq_iff_eq]; omega
  · rw [decide_eq_decide]; omega
theorem slice1 (s : ByteArray) (k q : Nat) (hq : k + 1 = q) (hk : k < s.size) : s.extract k q = S [s[k]] := by
  subst hq
  have := cur_one s k hk
  unfold cur at this
  rw [← this, S_of]
theorem tok_len {s : ByteArray} {o' : List (List UInt8)} {x r : List UInt8} (h : toks s.data.toList = o' ++ tc x r) : x.length ≤ s.size := by
  have h2 := congrArg List.flatten h
  rw [toks_flat, List.flatten_append, tc_flat] at h2
  have h3 := congrArg List.length h2
  rw [List.length_append, List.length_append, len_data] at h3
  omega
theorem set_last (o' : List (List UInt8)) (x y : List UInt8) : ((o' ++ [x]).map encStr).set o'.length (encStr y) = (o' ++ [y]).map encStr := by
  rw [List.map_append, List.map_append, List.set_append_right _ _ (by simp)]
  simp

end Go.Proofs.YtldllbmbcnipoaaDoor.Tk

namespace Go.Proofs.YtldllbmbcnipoaaDoor.Nm
open Go.RowKit
open Go.Proofs.YtldllbmbcnipoaaDoor.Tk (S S_of S_list S_size S_toList S_app Rd)
open Go.Proofs.YtldllbmbcnipoaaDoor.Cm (cell_at alloc_new Keep Keep.of_below)
open Go.Proofs.YtldllbmbcnipoaaDoor.Sp (Sp Tr totAll plAll)
open Go.Proofs.YtldllbmbcnipoaaDoor.Bt (TrB ttAll ttOne lnTot szAll szOne ttAll_mem)
open Go.Proofs.YtldllbmbcnipoaaDoor.Bk (Bk Tx)
open Go.Proofs.YtldllbmbcnipoaaDoor.Pa (OutG OutS encX encX_map)
set_option linter.unusedVariables false

theorem n_one {B : Nat} {w : World} (h : B ≤ w.heap.size) (x : Tx) : OutS B (w.alloc (.cells #[.string (S x)] 9)) (.slice (some ⟨w.heap.size, 0, none⟩) 1 1) [x] :=
  ⟨by simp; omega, ⟨rfl, .inr ⟨w.heap.size, 1, _, rfl, h, alloc_new w _, Nat.le_refl _, by unfold maxLen; omega, rfl, rfl⟩⟩, fun _ _ _ _ => trivial⟩
theorem n_of {B : Nat} {w : World} {u : Value} {xs : List Tx} (hB : B ≤ w.heap.size) (h : w.ownsRow B 9 1 u xs.length (xs.map encStr)) : OutS B w u xs :=
  ⟨hB, by rw [encX_map]; exact h, fun _ _ _ _ => trivial⟩
theorem n_low {B B' : Nat} {w : World} {v : Value} {l : List Tx} (h : OutS B' w v l) (hB : B ≤ B') : OutS B w v l :=
  ⟨Nat.le_trans hB (OutG.size h), ⟨(OutG.own h).1, (OutG.own h).2.elim Or.inl (fun ⟨g, cap, cur, hv, hg, rest⟩ => Or.inr ⟨g, cap, cur, hv, Nat.le_trans hB hg, rest⟩)⟩, fun _ _ _ _ => trivial⟩
theorem n_empty {w : World} {B : Nat} {v : Value} {n : Nat} {xs : List Value} {i0 : TypeInfo} (hi : Tryd.prog.info? 9 = some i0) (h : w.ownsRow B 9 1 v n xs) (ty : TypeId) (ao : Option Addr) (c : Nat) :
    (Builtin.append_ #[30, 30] ty #[v, .slice ao 0 c]).run Tryd.prog w = .ok v w := by
  rcases h.2 with ⟨rfl, rfl⟩ | ⟨g, cap, cur, rfl, _, _, hnc, _⟩
  · cases ao <;> simp [Builtin.append_, run_underlying Tryd.underlying30, sizeOf, typeInfo, hi, Builtin.lenOf, Builtin.firstCells, loadCells, loadCellsFrom]
  · cases ao <;> simp [Builtin.append_, run_underlying Tryd.underlying30, sizeOf, typeInfo, hi, Builtin.lenOf, Builtin.firstCells, hnc, storeCells, loadCells, loadCellsFrom]
theorem n_cells {w : World} {b o : Nat} {xs : List Tx} (h : ∀ j x, xs[j]? = some x → w.cell? ⟨b, o + j, none⟩ = some (.string (S x))) :
    ∀ j u, (xs.map encStr)[j]? = some u → w.cell? (Addr.add ⟨b, o, none⟩ j) = some u := by
  intro j u hj
  rw [List.getElem?_map] at hj
  cases hx : xs[j]? with
  | none => rw [hx] at hj; simp at hj
  | some x =>
    rw [hx] at hj
    simp only [Option.map_some, Option.some.injEq] at hj
    subst hj
    rw [show (Addr.add ⟨b, o, none⟩ j) = ⟨b, o + j, none⟩ by simp [Addr.add]]
    exact h j x hx
theorem n_ones (xs : List Tx) : ∀ u ∈ xs.map encStr, u.oneCell' = true := by
  intro u hu
  obtain ⟨x, _, rfl⟩ := List.mem_map.1 hu
  rfl
/-- append(v, u...) of strings. -/
theorem n_app {w : World} {B : Nat} {v u : Value} {os ys : List Tx} (h : OutS B w v os) (hu : Rd w u ys) (hs : os.length + ys.length ≤ 1000000) :
    ∃ v' w', (∀ ty, (Builtin.append_ #[30, 30] ty #[v, u]).run Tryd.prog w = .ok v' w') ∧ OutS B w' v' (os ++ ys) ∧ Below B w w' := by
  have ho := OutG.own h
  rw [encX_map] at ho
  obtain ⟨i0, hi, hz0, hz1, hz2⟩ := info_parts Tk.infoS
  obtain ⟨ao, c, rfl, hc, hx⟩ := hu
  by_cases h0 : ys = []
  · subst h0
    refine ⟨v, w, fun ty => n_empty hi ho ty ao c, by rw [List.append_nil]; exact h, Below.refl _ _⟩
  · rcases hx with hx | ⟨b, o, rfl, hlt, hcell⟩
    · exact absurd hx h0
    obtain ⟨v', w', h1, h2, h3, _⟩ := run_append_own (P := Tryd.prog) w B 30 0 9 i0 (.string ⟨#[]⟩) 1 16 Tryd.underlying30 hi hz0 hz1 hz2 rfl (by decide) v os.length (os.map encStr) ho ⟨b, o, none⟩ ys.length c (ys.map encStr) (by simp) (n_cells hcell) (n_ones ys) (by unfold maxLen; omega) (by omega) (OutG.size h)
    have hb : Below B w w' := (Below.refl B w).grown h3 (OutG.size h) (fun k hk => (ho.lt k hk).1)
    refine ⟨v', w', fun ty => h1, n_of (Nat.le_trans (OutG.size h) hb.size) ?_, hb⟩
    rw [List.length_append, List.map_append]
    exact h2
/-- A call that answers strings in a row of its own. -/
def StrsA (w : World) (l : List Tx) (e : Ending) (w' : World) : Prop := ∃ v, e = .returned v ∧ OutS w.heap.size w' v l ∧ Below w.heap.size w w'
/-! Parts. -/
def RdA (w : World) (l : List Tx) (e : Ending) (w' : World) : Prop := ∃ v, e = .returned v ∧ Rd w' v l ∧ Below w.heap.size w w'
theorem plAll_tot : ∀ l : List Sp, (plAll l).length ≤ totAll l := Sp.plAll_len
end Go.Proofs.YtldllbmbcnipoaaDoor.Nm
