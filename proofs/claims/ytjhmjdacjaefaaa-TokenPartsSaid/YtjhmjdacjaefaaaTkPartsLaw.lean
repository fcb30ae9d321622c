/-
  The statement about TokenParts: for every input the law returns true, and each argument reads afterwards as it read before. No condition.
-/
import Derived.Test.YtjhmjdacjaefaaaRows
import Derived.Test.YtjhmjdacjaefaaaTkFrame
import Derived.WalkKit
import Derived.ProofKit
import Derived.OpenShut
import Derived.ShutString
import Derived.SizedLaws
import Derived.Laws.AppendOwnNone
namespace Go.Proofs.Ytjhmjdacjaefaaa.tokenParts
open Go.ChangeShapes Go.WideShapes Go.ChangeAt Go.RowKit
open Go.ChangeMaps (open_string shut_string)
open Go.Proofs.Ytjhmjdacjaefaaa.Tk
set_option linter.unusedVariables false

theorem own : ownKnob Try.prog.godebug = none := by kernel_rfl

theorem data_two (a b : ByteArray) : (a ++ b).data.toList = a.data.toList ++ b.data.toList := by
  rw [ByteArray.data_append, Array.toList_append]
theorem cell_mid {w : World} {B g cap : Nat} {ts us : List (List UInt8)} {t : List UInt8} {n : Nat} (h : w.ownsRow B 9 1 (.slice (some ⟨g, 0, none⟩) n cap) n ((ts ++ t :: us).map encStr)) (hn : n = (ts ++ t :: us).length) :
    w.cell? ⟨g, ts.length, none⟩ = some (.string (S t)) := by
  rw [h.cellAt ts.length (by rw [hn]; simp), List.getElem?_map]
  simp
  rfl

set_option maxHeartbeats 3200000 in
theorem walk (w : World) (a0 : ByteArray) (w0 : a0.size ≤ maxLen) (r0 : a0.size ≤ reachBytes) (a1 : ByteArray) (w1 : a1.size ≤ maxLen) (r1 : a1.size ≤ reachBytes) :
    Calls Try.prog 7 #[.string a0, .string a1] w fun e w' => e = .returned (.bool true) ∧ Below w.heap.size w w' := by
  have r0' : a0.size ≤ 140737488355328 := by unfold reachBytes at r0; omega
  have r1' : a1.size ≤ 140737488355328 := by unfold reachBytes at r1; omega
  by_cases hl : 2000 < (a0.size : Int) + (a1.size : Int)
  · go_enter Try.func7, Try.ntmps7
    go_wp2_with fail
    refine (awake_any _).mono ?_
    rintro e w1 ⟨rfl, hb⟩
    go_wp2_with fail
    refine (awake_any _).mono ?_
    rintro e w2 ⟨rfl, hb2⟩
    go_wp2_with fail
    go_ret
    exact ⟨rfl, hb.trans (hb2.mono hb.size)⟩
  have el : decide (2000 < (a0.size : Int) + (a1.size : Int)) = false := decide_eq_false hl
  have z0 : a0.size ≤ 2000 := by omega
  have z1 : a1.size ≤ 2000 := by omega
  have z2 : (a0 ++ a1).size = a0.size + a1.size := ByteArray.size_append
  have hx := cut_any a0 (by omega)
  have hy := cut_any a1 (by omega)
  have hz := cut_any (a0 ++ a1) (by omega)
  have hp := toks_parts a0.data.toList a1.data.toList
  rw [data_two] at hz
  have lx : (toks a0.data.toList).length ≤ 2000 := by have := toks_len a0.data.toList; rw [len_data] at this; omega
  have ly : (toks a1.data.toList).length ≤ 2000 := by have := toks_len a1.data.toList; rw [len_data] at this; omega
  have lz : (toks (a0.data.toList ++ a1.data.toList)).length ≤ 4000 := by have := toks_len (a0.data.toList ++ a1.data.toList); rw [List.length_append, len_data, len_data] at this; omega
  have Hflat : Hid (S (toks (a0.data.toList ++ a1.data.toList)).flatten = a0 ++ a1) := Lib.hid (by rw [toks_flat, ← data_two, S_of])
  have hfz : (toks (a0.data.toList ++ a1.data.toList)).flatten.length ≤ 4000 := by rw [toks_flat, List.length_append, len_data, len_data]; omega
  have e1 : ((a0 ++ a1).toList == (a0 ++ a1).toList) = true := by simp
  have Hx := Lib.hid hx
  have Hy := Lib.hid hy
  have Hz := Lib.hid hz
  have HP := Lib.hid hp
  have Htx : Hid (∀ t ∈ toks a0.data.toList, t.length ≤ 2000) := Lib.hid (fun t ht => by
    have := tc_mem_len a0.data.toList [] t ht
    rw [len_data] at this; simp at this; omega)
  have Hty : Hid (∀ t ∈ toks a1.data.toList, t.length ≤ 2000) := Lib.hid (fun t ht => by
    have := tc_mem_len a1.data.toList [] t ht
    rw [len_data] at this; simp at this; omega)
  clear hx hy hz hp
  generalize toks a0.data.toList = xs at *
  generalize toks a1.data.toList = ys at *
  generalize toks (a0.data.toList ++ a1.data.toList) = zs at *
  go_enter Try.func7, Try.ntmps7
  go_wp2_with fail
  refine (awake_any _).mono ?_
  rintro e w1 ⟨rfl, hb⟩
  have B1 := Lib.hid hb
  clear hb
  go_wp2_with fail
  refine (Hx.out _).mono ?_
  rintro e w2 ⟨vx, rfl, ownx, hb2⟩
  have B2 := Lib.hid (B1.out.trans (hb2.mono B1.out.size))
  have OX := Lib.hid ownx
  obtain ⟨ax, cx, rfl⟩ := own_len ownx
  clear ownx hb2
  go_wp2_with fail
  refine (Hy.out _).mono ?_
  rintro e w3 ⟨vy, rfl, owny, hb3⟩
  have B3 := Lib.hid (B2.out.trans (hb3.mono B2.out.size))
  have X3 := Lib.hid hb3
  have OY := Lib.hid owny
  obtain ⟨ay, cy, rfl⟩ := own_len owny
  clear owny hb3
  go_wp2_with fail
  refine (Hz.out _).mono ?_
  rintro e w4 ⟨vz, rfl, ownz, hb4⟩
  have B4 := Lib.hid (B3.out.trans (hb4.mono B3.out.size))
  have X4 := Lib.hid hb4
  have OZ := Lib.hid ownz
  have RZ := Lib.hid (Rd.of_own ownz)
  obtain ⟨az, cz, rfl⟩ := own_len ownz
  clear ownz hb4
  rcases HP.out with hA | ⟨ts, t, u, us, hX, hY, hZ⟩
  · have e2 : ((zs.length : Int) != (xs.length : Int) + (ys.length : Int)) = false := by
      rw [hA, List.length_append]; simp
    clear hA HP
    go_wp2_with fail
    go_quiet (fail)
    have HJ := Lib.hid (join_any _ zs (w4.drewN nq) (RZ.out.below (below_drewN (Below.refl _ _) _)) (by omega) (by omega))
    rw [Hflat.out] at HJ
    go_wp2_with fail
    refine HJ.out.mono ?_
    rintro e w5 ⟨rfl, hb⟩
    have B5 := Lib.hid ((below_drewN B4.out _).trans (hb.mono B4.out.size))
    clear hb
    go_wp2_with fail
    go_ret
    exact ⟨rfl, B5.out⟩
  · have hxl : xs.length = ts.length + 1 := by rw [hX]; simp
    have hyl : ys.length = us.length + 1 := by rw [hY]; simp
    have hzl : zs.length = ts.length + us.length + 1 := by rw [hZ]; simp; omega
    have st : t.length ≤ 2000 := Htx.out t (by rw [hX]; simp)
    have su : u.length ≤ 2000 := Hty.out u (by rw [hY]; simp)
    rcases OX.out.2 with ⟨_, h0⟩ | ⟨gx, cx', ux, hvx, hgx, hgx2, _, _, _, _⟩
    · omega
    rcases OY.out.2 with ⟨_, h0⟩ | ⟨gy, cy', uy, hvy, hgy, hgy2, _, _, _, _⟩
    · omega
    rcases OZ.out.2 with ⟨_, h0⟩ | ⟨gz, cz', uz, hvz, hgz, hgz2, _, _, _, _⟩
    · omega
    simp only [Value.slice.injEq, true_and] at hvx hvy hvz
    obtain ⟨rfl, rfl⟩ := hvx
    obtain ⟨rfl, rfl⟩ := hvy
    obtain ⟨rfl, rfl⟩ := hvz
    have kx2 : w2.cell? ⟨gx, ts.length, none⟩ = some (.string (S t)) := cell_mid (us := []) (by have := OX.out; rw [show ts ++ t :: [] = xs from hX.symm]; exact this) (by rw [hxl]; simp)
    have ky3 : w3.cell? ⟨gy, 0, none⟩ = some (.string (S u)) := cell_mid (ts := []) (us := us) (by have := OY.out; rw [show [] ++ u :: us = ys from hY.symm]; exact this) (by rw [hyl]; simp)
    have kz : w4.cell? ⟨gz, ts.length, none⟩ = some (.string (S (t ++ u))) := cell_mid (us := us) (by have := OZ.out; rw [show ts ++ (t ++ u) :: us = zs from hZ.symm]; exact this) (by rw [hzl]; simp; omega)
    have kx3 : w3.cell? ⟨gx, ts.length, none⟩ = some (.string (S t)) := (X3.out.cell (by exact (Array.getElem?_eq_some_iff.1 hgx2).1)).trans kx2
    have kx : w4.cell? ⟨gx, ts.length, none⟩ = some (.string (S t)) := (X4.out.cell (by exact Nat.lt_of_lt_of_le (Array.getElem?_eq_some_iff.1 hgx2).1 X3.out.size)).trans kx3
    have ky : w4.cell? ⟨gy, 0, none⟩ = some (.string (S u)) := (X4.out.cell (by exact (Array.getElem?_eq_some_iff.1 hgy2).1)).trans ky3
    have e2 : ((zs.length : Int) != (xs.length : Int) + (ys.length : Int)) = true := by rw [bne_iff_ne]; omega
    have h1 : IntKind.i64.wrap ((xs.length : Int) + (ys.length : Int) - 1) = (zs.length : Int) := by rw [IntKind.wrap_i64]; omega
    have h2 : IntKind.i64.wrap ((xs.length : Int) - 1) = (ts.length : Int) := by rw [IntKind.wrap_i64]; omega
    have e3 : ((zs.length : Int) != (zs.length : Int)) = false := by simp
    have e4 : ((xs.length : Int) == 0) = false := by rw [beq_eq_false_iff_ne]; omega
    have i1 : (ts.length : Int) < (zs.length : Int) := by omega
    have i2 : (ts.length : Int) < (xs.length : Int) := by omega
    have i3 : ts.length < zs.length := by omega
    have i4 : ts.length < xs.length := by omega
    have i5 : 0 < ys.length := by omega
    have s1 : (S t).size ≤ 2000 := by rw [S_size]; exact st
    have s2 : (S u).size ≤ 2000 := by rw [S_size]; exact su
    have s3 : ¬ (9223372036854775807 < (S t).size + (S u).size) := by omega
    have e5 : ((S (t ++ u)).toList != (S t ++ S u).toList) = false := by rw [S_app]; simp
    have e6 : ((S (t ++ u)).toList == (S t ++ S u).toList) = true := by rw [S_app]; simp
    clear hxl hyl hzl kx2 ky3 kx3 hgx hgy hgz hgx2 hgy2 hgz2 hX hY hZ HP OX OY OZ
    generalize S (t ++ u) = stu at *
    generalize S t = tt at *
    generalize S u = uu at *
    go_wp2_with fail
    go_quiet (fail)
    have HJ := Lib.hid (join_any _ zs (w4.drewN nq) (RZ.out.below (below_drewN (Below.refl _ _) _)) (by omega) (by omega))
    rw [Hflat.out] at HJ
    go_wp2_with fail
    refine HJ.out.mono ?_
    rintro e w5 ⟨rfl, hb⟩
    have B5 := Lib.hid ((below_drewN B4.out _).trans (hb.mono B4.out.size))
    clear hb
    go_wp2_with fail
    go_ret
    exact ⟨rfl, B5.out⟩

set_option maxRecDepth 100000 in
theorem lifted (os : Os) (started : os.Started) (H : Type) (enc : TypeId × Value → H) :
    ReturnsInHanded {} Try.checked os 7 .any (Rows.tokenPartsSpec.pre6 enc Try.prog Try.f7 Rows.tokenPartsRow.domain false) (Rows.tokenPartsSpec.post enc Try.prog Try.f7 false true false false) := by
  refine returnsInHanded_of_change_sized (C := Try.checked) own started (by kernel_rfl) Try.func7
    (ChangeSpec.witness6 (enc := enc) (C := Try.checked) false ⟨#[], #[.string ByteArray.empty, .string ByteArray.empty], []⟩ 8 (by kernel_rfl) (by kernel_rfl) (by kernel_rfl) (by kernel_rfl)) ?_
  intro W base args ds gs before hval0 hW hcnd hsz0 _
  have hval : ∀ (j : Nat) t v, Try.f7.params[j]? = some t → args[j]? = some v → Value.okWide Try.prog W .any base t v := hval0
  have hsz : (DataW.weightsEach Try.prog (Try.f7.params.toList ++ Rows.tokenPartsSpec.plain.varTypes Try.prog) (ds ++ gs)).all (· ≤ reachBytes) = true := hsz0
  have hW' := hW
  obtain ⟨p, q, hA0, hV, rfl, hfz, hnd⟩ := hW
  have hA : DataW.TrodAll enc Try.prog W 0 (fun _ => true) true Try.f7.params.toList args.toList ds p := hA0
  rw [Try.params7] at hA hval hsz
  obtain ⟨v0, vs0, d0, ds0, p0, q0, hargs, rfl, rfl, h0, r0⟩ := trodAll_cons hA
  obtain ⟨v1, vs1, d1, ds1, p1, q1, rfl, rfl, rfl, h1, r1⟩ := trodAll_cons r0
  obtain ⟨rfl, rfl, rfl⟩ := trodAll_nil r1
  obtain rfl : args = #[v0, v1] := by cases args; simp_all
  obtain ⟨rfl, rfl⟩ := trodVars_none hV

  obtain ⟨a0, rfl, rfl, rfl, w0⟩ := open_string Try.underlying9 (hval 0 9 v0 rfl rfl) h0
  obtain ⟨a1, rfl, rfl, rfl, w1⟩ := open_string Try.underlying9 (hval 1 9 v1 rfl rfl) h1
  clear hA0 hval0 hsz0
  simp only [List.append_nil] at hW'
  refine (walk W a0 w0 (by have := sized_string hsz (j := 0) (t := 9) rfl rfl; simpa using this) a1 w1 (by have := sized_string hsz (j := 1) (t := 9) rfl rfl; simpa using this)).mono fun e W' ⟨he, bel⟩ => ?_
  subst he
  exact ⟨_, rfl, _, _, _, [], _, [], hW', trodAll_mk1 (shut_bool Try.underlying4 _), (trodAll_cons_mk (shut_string Try.underlying9 w0) (trodAll_cons_mk (shut_string Try.underlying9 w1) trodAll_mk0)), rfl, bel.frame _, fun h => by cases h⟩

theorem over : Rows.tokenPartsRow.holds Try.pinned (OpenSpec.ofChange Rows.tokenPartsSpec) :=
  OpenClaim.holds_of_wide 7 Try.f7 rfl rfl rfl rfl rfl rfl rfl ⟨rfl, rfl, rfl, rfl, rfl⟩ rfl rfl rfl rfl rfl (by kernel_rfl) Try.func7 (by kernel_rfl)
    (of_decide_eq_true (by kernel_rfl)) (by unfold Func.isWrapper; first | (rw [if_pos (by decide +kernel)]; kernel_rfl) | (rw [if_neg (by decide +kernel)]; exact ⟨rfl, rfl⟩))
    (fun os started H enc _ => lifted os started H enc)

theorem proved : Rows.TokenPartsSaid :=
  over
end Go.Proofs.Ytjhmjdacjaefaaa.tokenParts
