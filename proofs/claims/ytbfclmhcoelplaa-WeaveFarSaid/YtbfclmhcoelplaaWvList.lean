/-
  CONTRACT of the statements' own 'list' over chunks (emendationlaw05).
-/
import Derived.Test.YtbfclmhcoelplaaWvHelp
namespace Go.Proofs.Ytbfclmhcoelplaa.Wv
open Go.RowKit Go.Proofs.Ytbfclmhcoelplaa.Cm Go.Proofs.Ytbfclmhcoelplaa.Lc
set_option linter.unusedVariables false

theorem newsK2 {wr : World} {o : Obj} {us : List Value} {t : TypeId} : ∀ (j : Nat) (u : Value), us[j]? = some u → ((wr.alloc o).alloc (.cells us.toArray t)).cell? (Addr.add ⟨wr.heap.size + 1, 0, none⟩ j) = some u := by
  have h := @newsK (wr.alloc o) us t
  have e : (wr.alloc o).heap.size = wr.heap.size + 1 := by simp
  rw [e] at h
  exact h

set_option maxHeartbeats 3200000 in
theorem list5_any (v : Value) (xs : List Ch) (w : World) (h : Rk 7 encC w v xs) (hx : xs.length ≤ 100000) :
    Calls Try.prog 17 #[v] w fun e w' => ∃ v', e = .returned v' ∧ Rk 7 encC w' v' xs ∧ Below w.heap.size w w' := by
  obtain ⟨i0, hi, hz0, hz1, hz2⟩ := info_parts infoC
  obtain ⟨ao, ca, rfl⟩ := h.len
  have FA := Lib.hid (Rk.seven h)
  clear h
  go_enter Try.func17, Try.ntmps17
  go_wp2_with fail
  go_loopw [3, 8] (fun v' i wr => ∃ k : Nat, k ≤ xs.length ∧ i = .int .i64 k ∧ wr.ownsRow w.heap.size 62 7 v' (xs.take k).length ((xs.take k).flatMap encC) ∧ Below w.heap.size w wr) (fun _ i _ => xs.length - (intOf i).toNat)
  case atStart => exact ⟨0, Nat.zero_le _, rfl, World.ownsRow_nil _ _ _ _, Below.refl _ _⟩
  case round =>
    obtain ⟨k, hk, rfl, hown, hbe⟩ := hrel
    have hB := hbe.size
    by_cases hlt : k < xs.length
    · obtain ⟨b1, o1, rfl, hb1, c0, c1, c2, c3, c4, c5, c6⟩ := FA.out k hlt
      have p0 : wr.cell? ⟨b1, o1 + k * 7, none⟩ = some (.int .i64 xs[k].b1) := (hbe.cell (by exact hb1)).trans c0
      have p1 : wr.cell? ⟨b1, o1 + k * 7 + 1, none⟩ = some (.int .i64 xs[k].b2) := (hbe.cell (by exact hb1)).trans c1
      have p2 : wr.cell? ⟨b1, o1 + k * 7 + 2, none⟩ = some (.int .i64 xs[k].o1) := (hbe.cell (by exact hb1)).trans c2
      have p3 : wr.cell? ⟨b1, o1 + k * 7 + 3, none⟩ = some (.int .i64 xs[k].o2) := (hbe.cell (by exact hb1)).trans c3
      have p4 : wr.cell? ⟨b1, o1 + k * 7 + 4, none⟩ = some (.int .i64 xs[k].t1) := (hbe.cell (by exact hb1)).trans c4
      have p5 : wr.cell? ⟨b1, o1 + k * 7 + 5, none⟩ = some (.int .i64 xs[k].t2) := (hbe.cell (by exact hb1)).trans c5
      have p6 : wr.cell? ⟨b1, o1 + k * 7 + 6, none⟩ = some (.int .i64 xs[k].out) := (hbe.cell (by exact hb1)).trans c6
      have HN : Hid (xs.take (k + 1) = xs.take k ++ [xs[k]]) := Lib.hid (by rw [List.take_add_one, getc hlt]; rfl)
      have hlk : (xs.take k).length = k := by rw [List.length_take]; omega
      have HLK := Lib.hid hlk
      have hi1 : (k : Int) < (xs.length : Int) := by omega
      have Ho := Lib.hid hown
      have Hb := Lib.hid hbe
      clear c0 c1 c2 c3 c4 c5 c6 hown hbe hlk
      generalize xs[k] = p at *
      generalize xs.take k = os at *
      obtain ⟨x0, x1, x2, x3, x4, x5, x6⟩ := p
      simp only at p0 p1 p2 p3 p4 p5 p6
      go_wp2_with (at_builtin; refine wpList_append_own _ rfl _ _ 27 rfl w.heap.size 62 i0 (.agg #[.int .i64 0, .int .i64 0, .int .i64 0, .int .i64 0, .int .i64 0, .int .i64 0, .int .i64 0]) 7 56 Try.underlying27 hi hz0 hz1 hz2 rfl (by decide) _ _ _ rfl ((Ho.out.alloc _).alloc _) ⟨wr.heap.size + 1, 0, none⟩ 1 1 (encC ⟨x0, x1, x2, x3, x4, x5, x6⟩) rfl rfl newsK2 (encC_one _) (by unfold maxLen; have := HLK.out; omega) (by have := HLK.out; omega) (by simp; omega) ?_)
      intro v' w2 hown' hgrow _
      have R := own_pushK (Ho.out.alloc _) (Hb.out.alloc hB _) (by simp; omega) hown' hgrow
      rw [← HN.out] at R
      have R1 := Lib.hid R.1
      have R2 := Lib.hid R.2
      clear R hown' hgrow
      go_wp2_with fail
      go_roundw
      case rel => exact ⟨k + 1, by omega, by go_num, R1.out, R2.out⟩
      case measure => simp [intOf] <;> omega
    · have hx2 : xs.take k = xs := List.take_of_length_le (by omega)
      rw [hx2] at hown
      have HR := Lib.hid (Rk.of_own encC_len hown)
      have Hb := Lib.hid hbe
      obtain rfl : k = xs.length := by omega
      clear hown hbe hx2
      go_wp2_with fail
      go_ret
      exact ⟨_, rfl, HR.out, Hb.out⟩

end Go.Proofs.Ytbfclmhcoelplaa.Wv
