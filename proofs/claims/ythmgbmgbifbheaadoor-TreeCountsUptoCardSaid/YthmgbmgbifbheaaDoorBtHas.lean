/-
  CONTRACTS of the program's of and used (tree): what a block has, and what its kind uses of that.
-/
import Derived.Test.YthmgbmgbifbheaaDoorBtTree
import Derived.Test.YthmgbmgbifbheaaDoorPkB
import Derived.Laws.StructEq
namespace Go.Proofs.YthmgbmgbifbheaaDoor.Bt
open Go.RowKit
open Go.Proofs.YthmgbmgbifbheaaDoor.Tk (S S_of S_list S_size ret_int)
open Go.Proofs.YthmgbmgbifbheaaDoor.Cm (calls_at alloc_new cell_at)
open Go.Proofs.YthmgbmgbifbheaaDoor.Sp (ret_bool)
open Go.Proofs.YthmgbmgbifbheaaDoor.Bk (Bk)
set_option linter.unusedVariables false

/-- What a block has, as a value. -/
def hasV (k lv : Int) (s : ByteArray) (n ns nk : Int) : Value := .agg #[.int .i64 k, .int .i64 lv, .string s, .int .i64 n, .int .i64 ns, .int .i64 nk]
def HasAns (w : World) (v : Value) (e : Ending) (w' : World) : Prop := e = .returned v ∧ Below w.heap.size w w'

theorem of_any (k lv : Int) (s : ByteArray) (al as' ak : Option Addr) (n ns nk : Nat) (cl cs ck : Nat) (w : World) :
    Calls Tryd.prog 42 #[.agg #[.int .i64 k, .int .i64 lv, .string s, .slice al n cl, .slice as' ns cs, .slice ak nk ck]] w (HasAns w (hasV k lv s n ns nk)) := by
  go_enter Tryd.func42, Tryd.ntmps42
  go_wp2_with fail
  exact bodyPost_ret (v := hasV k lv s n ns nk) (by simp [results, Tryd.results42, go_sem, hasV]) rfl ⟨rfl, ((Below.refl _ w).alloc (Nat.le_refl _) _).alloc (by simp) _⟩

/-- What a kind uses. -/
def usedV (k lv : Int) (s : ByteArray) (n ns nk : Int) : Value :=
  if k = 1 then hasV k 0 ⟨#[]⟩ 0 ns 0
  else if k = 2 then hasV k lv ⟨#[]⟩ 0 ns 0
  else if k = 4 ∨ k = 8 then hasV k 0 s n 0 0
  else if k = 5 ∨ k = 6 ∨ k = 7 then hasV k 0 ⟨#[]⟩ 0 0 nk
  else hasV k 0 ⟨#[]⟩ 0 0 0

theorem used_any (k lv : Int) (s : ByteArray) (n ns nk : Int) (w : World) :
    Calls Tryd.prog 46 #[hasV k lv s n ns nk] w (HasAns w (usedV k lv s n ns nk)) := by
  have hv : hasV k lv s n ns nk = .agg #[.int .i64 k, .int .i64 lv, .string s, .int .i64 n, .int .i64 ns, .int .i64 nk] := rfl
  by_cases q1 : k = 1
  · have q := q1
    have f1 : (k == 1) = true := by rw [q]; rfl
    have f2 : (k == 2) = false := beq_eq_false_iff_ne.2 (by omega)
    have f4 : (k == 4) = false := beq_eq_false_iff_ne.2 (by omega)
    have f5 : (k == 5) = false := beq_eq_false_iff_ne.2 (by omega)
    have f6 : (k == 6) = false := beq_eq_false_iff_ne.2 (by omega)
    have f7 : (k == 7) = false := beq_eq_false_iff_ne.2 (by omega)
    have f8 : (k == 8) = false := beq_eq_false_iff_ne.2 (by omega)
    have HU : Hid (usedV k lv s n ns nk = hasV k 0 ⟨#[]⟩ 0 ns 0) := Lib.hid (by unfold usedV; rw [if_pos q1])
    rw [HU.out, hv]
    clear hv
    clear q1 q
    go_enter Tryd.func46, Tryd.ntmps46
    go_wp2_with fail
    exact bodyPost_ret (v := hasV k 0 ⟨#[]⟩ 0 ns 0) (by simp [results, Tryd.results46, go_sem, hasV]) rfl ⟨rfl, ((Below.refl _ w).alloc (Nat.le_refl _) _).alloc (by simp) _⟩
  ·
    by_cases q2 : k = 2
    · have q := q2
      have f1 : (k == 1) = false := beq_eq_false_iff_ne.2 (by omega)
      have f2 : (k == 2) = true := by rw [q]; rfl
      have f4 : (k == 4) = false := beq_eq_false_iff_ne.2 (by omega)
      have f5 : (k == 5) = false := beq_eq_false_iff_ne.2 (by omega)
      have f6 : (k == 6) = false := beq_eq_false_iff_ne.2 (by omega)
      have f7 : (k == 7) = false := beq_eq_false_iff_ne.2 (by omega)
      have f8 : (k == 8) = false := beq_eq_false_iff_ne.2 (by omega)
      have HU : Hid (usedV k lv s n ns nk = hasV k lv ⟨#[]⟩ 0 ns 0) := Lib.hid (by unfold usedV; rw [if_neg q1, if_pos q2])
      rw [HU.out, hv]
      clear hv
      clear q1 q2 q
      go_enter Tryd.func46, Tryd.ntmps46
      go_wp2_with fail
      exact bodyPost_ret (v := hasV k lv ⟨#[]⟩ 0 ns 0) (by simp [results, Tryd.results46, go_sem, hasV]) rfl ⟨rfl, ((Below.refl _ w).alloc (Nat.le_refl _) _).alloc (by simp) _⟩
    ·
      by_cases q4 : k = 4
      · have q := q4
        have f1 : (k == 1) = false := beq_eq_false_iff_ne.2 (by omega)
        have f2 : (k == 2) = false := beq_eq_false_iff_ne.2 (by omega)
        have f4 : (k == 4) = true := by rw [q]; rfl
        have f5 : (k == 5) = false := beq_eq_false_iff_ne.2 (by omega)
        have f6 : (k == 6) = false := beq_eq_false_iff_ne.2 (by omega)
        have f7 : (k == 7) = false := beq_eq_false_iff_ne.2 (by omega)
        have f8 : (k == 8) = false := beq_eq_false_iff_ne.2 (by omega)
        have HU : Hid (usedV k lv s n ns nk = hasV k 0 s n 0 0) := Lib.hid (by unfold usedV; rw [if_neg q1, if_neg q2, if_pos (Or.inl q4)])
        rw [HU.out, hv]
        clear hv
        clear q1 q2 q4 q
        go_enter Tryd.func46, Tryd.ntmps46
        go_wp2_with fail
        exact bodyPost_ret (v := hasV k 0 s n 0 0) (by simp [results, Tryd.results46, go_sem, hasV]) rfl ⟨rfl, ((Below.refl _ w).alloc (Nat.le_refl _) _).alloc (by simp) _⟩
      ·
        by_cases q8 : k = 8
        · have q := q8
          have f1 : (k == 1) = false := beq_eq_false_iff_ne.2 (by omega)
          have f2 : (k == 2) = false := beq_eq_false_iff_ne.2 (by omega)
          have f4 : (k == 4) = false := beq_eq_false_iff_ne.2 (by omega)
          have f5 : (k == 5) = false := beq_eq_false_iff_ne.2 (by omega)
          have f6 : (k == 6) = false := beq_eq_false_iff_ne.2 (by omega)
          have f7 : (k == 7) = false := beq_eq_false_iff_ne.2 (by omega)
          have f8 : (k == 8) = true := by rw [q]; rfl
          have HU : Hid (usedV k lv s n ns nk = hasV k 0 s n 0 0) := Lib.hid (by unfold usedV; rw [if_neg q1, if_neg q2, if_pos (Or.inr q8)])
          rw [HU.out, hv]
          clear hv
          clear q1 q2 q4 q8 q
          go_enter Tryd.func46, Tryd.ntmps46
          go_wp2_with fail
          exact bodyPost_ret (v := hasV k 0 s n 0 0) (by simp [results, Tryd.results46, go_sem, hasV]) rfl ⟨rfl, ((Below.refl _ w).alloc (Nat.le_refl _) _).alloc (by simp) _⟩
        ·
          by_cases q5 : k = 5
          · have q := q5
            have f1 : (k == 1) = false := beq_eq_false_iff_ne.2 (by omega)
            have f2 : (k == 2) = false := beq_eq_false_iff_ne.2 (by omega)
            have f4 : (k == 4) = false := beq_eq_false_iff_ne.2 (by omega)
            have f5 : (k == 5) = true := by rw [q]; rfl
            have f6 : (k == 6) = false := beq_eq_false_iff_ne.2 (by omega)
            have f7 : (k == 7) = false := beq_eq_false_iff_ne.2 (by omega)
            have f8 : (k == 8) = false := beq_eq_false_iff_ne.2 (by omega)
            have HU : Hid (usedV k lv s n ns nk = hasV k 0 ⟨#[]⟩ 0 0 nk) := Lib.hid (by unfold usedV; rw [if_neg q1, if_neg q2, if_neg (by omega), if_pos (by omega)])
            rw [HU.out, hv]
            clear hv
            clear q1 q2 q4 q8 q5 q
            go_enter Tryd.func46, Tryd.ntmps46
            go_wp2_with fail
            exact bodyPost_ret (v := hasV k 0 ⟨#[]⟩ 0 0 nk) (by simp [results, Tryd.results46, go_sem, hasV]) rfl ⟨rfl, ((Below.refl _ w).alloc (Nat.le_refl _) _).alloc (by simp) _⟩
          ·
            by_cases q6 : k = 6
            · have q := q6
              have f1 : (k == 1) = false := beq_eq_false_iff_ne.2 (by omega)
              have f2 : (k == 2) = false := beq_eq_false_iff_ne.2 (by omega)
              have f4 : (k == 4) = false := beq_eq_false_iff_ne.2 (by omega)
              have f5 : (k == 5) = false := beq_eq_false_iff_ne.2 (by omega)
              have f6 : (k == 6) = true := by rw [q]; rfl
              have f7 : (k == 7) = false := beq_eq_false_iff_ne.2 (by omega)
              have f8 : (k == 8) = false := beq_eq_false_iff_ne.2 (by omega)
              have HU : Hid (usedV k lv s n ns nk = hasV k 0 ⟨#[]⟩ 0 0 nk) := Lib.hid (by unfold usedV; rw [if_neg q1, if_neg q2, if_neg (by omega), if_pos (by omega)])
              rw [HU.out, hv]
              clear hv
              clear q1 q2 q4 q8 q5 q6 q
              go_enter Tryd.func46, Tryd.ntmps46
              go_wp2_with fail
              exact bodyPost_ret (v := hasV k 0 ⟨#[]⟩ 0 0 nk) (by simp [results, Tryd.results46, go_sem, hasV]) rfl ⟨rfl, ((Below.refl _ w).alloc (Nat.le_refl _) _).alloc (by simp) _⟩
            ·
              by_cases q7 : k = 7
              · have q := q7
                have f1 : (k == 1) = false := beq_eq_false_iff_ne.2 (by omega)
                have f2 : (k == 2) = false := beq_eq_false_iff_ne.2 (by omega)
                have f4 : (k == 4) = false := beq_eq_false_iff_ne.2 (by omega)
                have f5 : (k == 5) = false := beq_eq_false_iff_ne.2 (by omega)
                have f6 : (k == 6) = false := beq_eq_false_iff_ne.2 (by omega)
                have f7 : (k == 7) = true := by rw [q]; rfl
                have f8 : (k == 8) = false := beq_eq_false_iff_ne.2 (by omega)
                have HU : Hid (usedV k lv s n ns nk = hasV k 0 ⟨#[]⟩ 0 0 nk) := Lib.hid (by unfold usedV; rw [if_neg q1, if_neg q2, if_neg (by omega), if_pos (by omega)])
                rw [HU.out, hv]
                clear hv
                clear q1 q2 q4 q8 q5 q6 q7 q
                go_enter Tryd.func46, Tryd.ntmps46
                go_wp2_with fail
                exact bodyPost_ret (v := hasV k 0 ⟨#[]⟩ 0 0 nk) (by simp [results, Tryd.results46, go_sem, hasV]) rfl ⟨rfl, ((Below.refl _ w).alloc (Nat.le_refl _) _).alloc (by simp) _⟩
              ·
                have f1 : (k == 1) = false := beq_eq_false_iff_ne.2 (by omega)
                have f2 : (k == 2) = false := beq_eq_false_iff_ne.2 (by omega)
                have f4 : (k == 4) = false := beq_eq_false_iff_ne.2 (by omega)
                have f5 : (k == 5) = false := beq_eq_false_iff_ne.2 (by omega)
                have f6 : (k == 6) = false := beq_eq_false_iff_ne.2 (by omega)
                have f7 : (k == 7) = false := beq_eq_false_iff_ne.2 (by omega)
                have f8 : (k == 8) = false := beq_eq_false_iff_ne.2 (by omega)
                have HU : Hid (usedV k lv s n ns nk = hasV k 0 ⟨#[]⟩ 0 0 0) := Lib.hid (by unfold usedV; rw [if_neg q1, if_neg q2, if_neg (by omega), if_neg (by omega)])
                rw [HU.out, hv]
                clear hv
                clear q1 q2 q4 q8 q5 q6 q7
                go_enter Tryd.func46, Tryd.ntmps46
                go_wp2_with fail
                exact bodyPost_ret (v := hasV k 0 ⟨#[]⟩ 0 0 0) (by simp [results, Tryd.results46, go_sem, hasV]) rfl ⟨rfl, ((Below.refl _ w).alloc (Nat.le_refl _) _).alloc (by simp) _⟩

/-- Two of them, compared. -/
def eqH (k lv : Int) (s : ByteArray) (n ns nk : Int) (k' lv' : Int) (s' : ByteArray) (n' ns' nk' : Int) : Bool := (k == k') && (lv == lv') && (s.toList == s'.toList) && (n == n') && (ns == ns') && (nk == nk')
theorem run_eq_has (k lv : Int) (s : ByteArray) (n ns nk : Int) (k' lv' : Int) (s' : ByteArray) (n' ns' nk' : Int) (w : World) :
    (binOp .eql 56 (hasV k lv s n ns nk) (hasV k' lv' s' n' ns' nk')).run Tryd.prog w = .ok (.bool (eqH k lv s n ns nk k' lv' s' n' ns' nk')) w := by
  unfold hasV
  rw [run_eql_struct, run_equalIn_agg w 9999 _ _ _ (by kernel_rfl) (by kernel_rfl)]
  simp [go_sem, Program.fieldsOf, Tryd.underlying56, Tryd.underlying3, Tryd.underlying9]
  unfold eqH
  repeat' split
  all_goals simp_all
theorem run_ne_has (k lv : Int) (s : ByteArray) (n ns nk : Int) (k' lv' : Int) (s' : ByteArray) (n' ns' nk' : Int) (w : World) :
    (binOp .neq 56 (hasV k lv s n ns nk) (hasV k' lv' s' n' ns' nk')).run Tryd.prog w = .ok (.bool (!eqH k lv s n ns nk k' lv' s' n' ns' nk')) w := by
  have h := run_eq_has k lv s n ns nk k' lv' s' n' ns' nk' w
  unfold hasV at h ⊢
  rw [run_eql_struct] at h
  rw [run_neq_struct]
  cases hr : (Op.equalIn 10000 56 (.agg #[.int .i64 k, .int .i64 lv, .string s, .int .i64 n, .int .i64 ns, .int .i64 nk]) (.agg #[.int .i64 k', .int .i64 lv', .string s', .int .i64 n', .int .i64 ns', .int .i64 nk'])).run Tryd.prog w with
  | ok b w1 =>
    rw [hr] at h
    simp only [Result.andThen, Result.ok.injEq, Value.bool.injEq] at h ⊢
    exact ⟨by rw [h.1], h.2⟩
  | halt x w1 =>
    rw [hr] at h
    simp [Result.andThen] at h
theorem guard_has (op : BinOp) (x y : Operand) (xs ys : Array Value) (w : World) : (eqGuard op 56 x y (.agg xs) (.agg ys)).run Tryd.prog w = .ok () w := run_eqGuard_agg w op _ x y xs ys (by kernel_rfl)
end Go.Proofs.YthmgbmgbifbheaaDoor.Bt
