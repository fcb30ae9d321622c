/-
  CONTRACT of marks.part; append of a slice of strings of whatever address; merged lines, part by part, in plain words.
-/
import Derived.Test.YtipgofglidmffaaMkAround
import Derived.Test.YtipgofglidmffaaWvHelp
namespace Go.Proofs.Ytipgofglidmffaa.Mk
open Go.RowKit Go.Proofs.Ytipgofglidmffaa.Tk Go.Proofs.Ytipgofglidmffaa.Cm
open Go.Proofs.Ytipgofglidmffaa.Wv (Ch chunks)
set_option linter.unusedVariables false

/-- append(v, u...), u of whatever address: its run. -/
theorem run_append_rd {w : World} {B : Nat} {v u : Value} {os ys : List Tx} (h : w.ownsRow B 9 1 v os.length (os.map encStr)) (hu : Rd w u ys) (hB : B ≤ w.heap.size) (hs : os.length + ys.length ≤ 1000000) :
    ∃ v' w', (∀ ty, (Builtin.append_ #[24, 24] ty #[v, u]).run Try.prog w = .ok v' w') ∧ w'.ownsRow B 9 1 v' (os ++ ys).length ((os ++ ys).map encStr) ∧ w.grownBy w' v.ownBlock := by
  obtain ⟨i0, hi, hz0, hz1, hz2⟩ := info_parts infoS
  obtain ⟨ao, c, rfl, hc, hx⟩ := hu
  by_cases h0 : ys = []
  · subst h0
    refine ⟨v, w, fun ty => run_append_empty hi h ty ao c, by rw [List.append_nil]; exact h, ⟨rfl, rfl, rfl, Nat.le_refl _, fun k _ _ => rfl⟩⟩
  · rcases hx with hx | ⟨b, o, rfl, hlt, hcell⟩
    · exact absurd hx h0
    obtain ⟨v', w', h1, h2, h3, _⟩ := run_append_own (P := Try.prog) w B 24 0 9 i0 (.string ⟨#[]⟩) 1 16 Try.underlying24 hi hz0 hz1 hz2 rfl (by decide) v os.length (os.map encStr) h ⟨b, o, none⟩ ys.length c (ys.map encStr) (by simp) (enc_cells hcell) (enc_one ys) (by unfold maxLen; omega) (by omega) hB
    refine ⟨v', w', fun ty => h1, ?_, h3⟩
    rw [List.length_append, List.map_append]
    exact h2

theorem partL_len (l : List Tx) {a b : Nat} (h : b ≤ l.length) : (partL l a b).length = b - a := by
  unfold partL
  rw [List.length_take, List.length_drop]
  omega
theorem partL_get (l : List Tx) (i j q : Nat) (hq : q < j - i) : (partL l i j)[q]? = l[i + q]? := by
  unfold partL
  rw [List.getElem?_take, if_pos hq, List.getElem?_drop]
def PartSOk (w : World) (l : List Tx) (e : Ending) (w' : World) : Prop := ∃ v, e = .returned v ∧ Rd w' v l ∧ Below w.heap.size w w'

set_option maxHeartbeats 1600000 in
theorem mpart_any (v : Value) (l : List Tx) (i j : Nat) (w : World) (h : Rd w v l) (hij : i ≤ j) (hj : j ≤ l.length) (hl : l.length ≤ 1000000) :
    Calls Try.prog 24 #[v, .agg #[.int .i64 i, .int .i64 j]] w (PartSOk w (partL l i j)) := by
  have hpl := partL_len l (a := i) hj
  have H := Lib.hid h
  obtain ⟨ao, ca, rfl, hca, hx⟩ := h
  by_cases h0 : l = []
  · have hz : l.length = 0 := by rw [h0]; rfl
    obtain rfl : j = 0 := by omega
    obtain rfl : i = 0 := by omega
    have HP : Hid (partL l 0 0 = []) := Lib.hid (by rw [h0]; rfl)
    clear hx h0 hpl H
    rw [hz]
    have main : ∀ ao : Option Addr, (ao = none ∨ ∃ b o p, ao = some ⟨b, o, p⟩) → Calls Try.prog 24 #[.slice ao 0 ca, .agg #[.int .i64 ((0 : Nat) : Int), .int .i64 ((0 : Nat) : Int)]] w (PartSOk w (partL l 0 0)) := by
      intro ao hao
      rw [HP.out]
      rcases hao with rfl | ⟨b, o, p, rfl⟩
      all_goals (
        go_enter Try.func24, Try.ntmps24
        go_wp2_with fail
        go_ret
        exact ⟨_, rfl, ⟨_, _, rfl, Nat.zero_le _, Or.inl rfl⟩, (Below.refl _ _).alloc (Nat.le_refl _) _⟩)
    refine main ao ?_
    cases ao with
    | none => exact Or.inl rfl
    | some a => exact Or.inr ⟨a.block, a.off, a.spot, rfl⟩
  · rcases hx with hx | ⟨b, o, rfl, hb, hcell⟩
    · exact absurd hx h0
    have HC := Lib.hid hcell
    clear hcell h0 H
    by_cases hic : i < ca
    · have HR : Hid (∀ w', Below w.heap.size w w' → Rd w' (.slice (some ⟨b, o + i, none⟩) (j - i) (ca - i)) (partL l i j)) := Lib.hid (fun w' hb' => by
        refine ⟨_, ca - i, by rw [hpl], by omega, Or.inr ⟨b, o + i, rfl, Nat.lt_of_lt_of_le hb hb'.size, fun q x hq => ?_⟩⟩
        have hql : q < j - i := by
          have := (List.getElem?_eq_some_iff.1 hq).1
          omega
        rw [partL_get l i j q hql] at hq
        rw [Nat.add_assoc]
        exact (hb'.cell (by exact hb)).trans (HC.out _ x hq))
      have ha := Lib.hid ((Below.refl w.heap.size w).alloc (Nat.le_refl _) (.cells #[.int .i64 (i : Int), .int .i64 (j : Int)] 58))
      have hicn : ¬ ca ≤ i := by omega
      go_enter Try.func24, Try.ntmps24
      go_wp2_with fail
      go_ret
      exact ⟨_, rfl, HR.out _ ha.out, ha.out⟩
    · obtain rfl : i = ca := by omega
      obtain rfl : j = i := by omega
      have HP : Hid (partL l j j = []) := Lib.hid (List.eq_nil_of_length_eq_zero (by omega))
      have hlj : l.length = j := by omega
      have ha := Lib.hid ((Below.refl w.heap.size w).alloc (Nat.le_refl _) (.cells #[.int .i64 (j : Int), .int .i64 (j : Int)] 58))
      rw [HP.out]
      clear hic
      go_enter Try.func24, Try.ntmps24
      go_wp2_with fail
      go_ret
      exact ⟨_, rfl, ⟨_, _, rfl, Nat.zero_le _, Or.inl rfl⟩, ha.out⟩

/-! Merged lines, part by part. -/
theorem mlines_next (h : Nat) (no nb nt : Tx) (B O T : List Tx) (l : List Ch) (i : Nat) (hi : i < l.length) : mlines h no nb nt B O T (l.take (i + 1)) = mlines h no nb nt B O T (l.take i) ++ seg h no nb nt B O T l[i] := by
  unfold mlines
  rw [List.take_succ_eq_append_getElem hi, List.flatMap_append]
  simp
theorem clashes_next (l : List Ch) (i : Nat) (hi : i < l.length) : clashes (l.take (i + 1)) = clashes (l.take i) + (if l[i].out = 1 ∨ l[i].out = 2 ∨ l[i].out = 3 ∨ l[i].out = 4 then 0 else 1) := by
  unfold clashes
  rw [List.take_succ_eq_append_getElem hi, List.filter_append, List.length_append]
  congr 1
  by_cases h1 : l[i].out = 1 ∨ l[i].out = 2 ∨ l[i].out = 3 ∨ l[i].out = 4
  · rw [if_pos h1]
    have : (!(l[i].out == 1 || l[i].out == 2 || l[i].out == 3 || l[i].out == 4)) = false := by
      rcases h1 with h | h | h | h <;> rw [h] <;> rfl
    rw [List.filter_cons, this]
    rfl
  · rw [if_neg h1]
    have : (!(l[i].out == 1 || l[i].out == 2 || l[i].out == 3 || l[i].out == 4)) = true := by
      simp only [not_or] at h1
      simp [h1]
    rw [List.filter_cons, this]
    rfl
theorem seg_len (h : Nat) (no nb nt : Tx) (B O T : List Tx) (c : Ch) : (seg h no nb nt B O T c).length ≤ B.length + O.length + T.length + 4 := by
  have p : ∀ (l : List Tx) a b, (partL l a b).length ≤ l.length := fun l a b => by
    unfold partL
    rw [List.length_take, List.length_drop]
    omega
  have p1 := p B c.b1 c.b2
  have p2 := p O c.o1 c.o2
  have p3 := p T c.t1 c.t2
  unfold seg
  split
  · omega
  · split
    · omega
    · rw [region_len]; omega
theorem mlines_len (h : Nat) (no nb nt : Tx) (B O T : List Tx) : ∀ l : List Ch, (mlines h no nb nt B O T l).length ≤ l.length * (B.length + O.length + T.length + 4)
  | [] => by simp [mlines]
  | c :: l => by
    have h1 := mlines_len h no nb nt B O T l
    have h2 := seg_len h no nb nt B O T c
    unfold mlines at h1 ⊢
    rw [List.flatMap_cons, List.length_append, List.length_cons, Nat.add_mul]
    omega

end Go.Proofs.Ytipgofglidmffaa.Mk
