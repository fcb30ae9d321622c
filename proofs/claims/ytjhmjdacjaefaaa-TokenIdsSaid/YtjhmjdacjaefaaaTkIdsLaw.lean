/-
  The statement about TokenIds: for every input the law returns true, and each argument reads afterwards as it read before. No condition.
-/
import Derived.Test.YtjhmjdacjaefaaaRows
import Derived.Test.YtjhmjdacjaefaaaTkLists
import Derived.WalkKit
import Derived.ProofKit
import Derived.OpenShut
import Derived.ShutString
import Derived.SizedLaws
import Derived.Laws.AppendOwnNone
namespace Go.Proofs.Ytjhmjdacjaefaaa.tokenIds
open Go.ChangeShapes Go.WideShapes Go.ChangeAt Go.RowKit
open Go.ChangeMaps (open_string shut_string)
open Go.Proofs.Ytjhmjdacjaefaaa.Tk
set_option linter.unusedVariables false

theorem own : ownKnob Try.prog.godebug = none := by kernel_rfl

set_option maxHeartbeats 3200000 in
theorem walk (w : World) (a0 : Value) (x0 : List (List UInt8)) (w0 : Rd w a0 x0) (n0 : x0.length ≤ 9223372036854775807) (a1 : Value) (x1 : List (List UInt8)) (w1 : Rd w a1 x1) (n1 : x1.length ≤ 9223372036854775807) :
    Calls Try.prog 4 #[a0, a1] w fun e w' => e = .returned (.bool true) ∧ Below w.heap.size w w' := by
  have Hfa : Hid (∀ w', Below w.heap.size w w' → Calls Try.prog 14 #[a0] w' fun e w'' => e = .returned (.bool (fewB x0)) ∧ w' = w'') := Lib.hid (fun w' h => few_any a0 x0 w' (w0.below h) n0)
  have Hfb : Hid (∀ w', Below w.heap.size w w' → Calls Try.prog 14 #[a1] w' fun e w'' => e = .returned (.bool (fewB x1)) ∧ w' = w'') := Lib.hid (fun w' h => few_any a1 x1 w' (w1.below h) n1)
  cases hfa : fewB x0 with
  | false =>
    rw [hfa] at Hfa
    go_enter Try.func4, Try.ntmps4
    go_wp2_with fail
    refine (awake_any _).mono ?_
    rintro e w1 ⟨rfl, hb⟩
    go_wp2_with fail
    refine (Hfa.out _ hb).mono ?_
    rintro e w2 ⟨rfl, rfl⟩
    go_wp2_with fail
    refine (awake_any _).mono ?_
    rintro e w2 ⟨rfl, hb2⟩
    go_wp2_with fail
    go_ret
    exact ⟨rfl, hb.trans (hb2.mono hb.size)⟩
  | true =>
    rw [hfa] at Hfa
    cases hfb : fewB x1 with
    | false =>
      rw [hfb] at Hfb
      go_enter Try.func4, Try.ntmps4
      go_wp2_with fail
      refine (awake_any _).mono ?_
      rintro e w1 ⟨rfl, hb⟩
      go_wp2_with fail
      refine (Hfa.out _ hb).mono ?_
      rintro e w2 ⟨rfl, rfl⟩
      go_wp2_with fail
      refine (Hfb.out _ hb).mono ?_
      rintro e w2 ⟨rfl, rfl⟩
      go_wp2_with fail
      refine (awake_any _).mono ?_
      rintro e w2 ⟨rfl, hb2⟩
      go_wp2_with fail
      go_ret
      exact ⟨rfl, hb.trans (hb2.mono hb.size)⟩
    | true =>
      rw [hfb] at Hfb
      have l0 : x0.length ≤ 60 := (few_of hfa).1
      have l1 : x1.length ≤ 60 := (few_of hfb).1
      have W0 := Lib.hid w0
      have W1 := Lib.hid w1
      clear hfa hfb w0 w1
      obtain ⟨ao0, c0, rfl⟩ := W0.out.len
      obtain ⟨ao1, c1, rfl⟩ := W1.out.len
      have Hab : Hid (∀ w', Below w.heap.size w w' → Calls Try.prog 17 #[.slice ao0 x0.length c0, .slice ao1 x1.length c1] w' fun e w'' => ∃ v, e = .returned v ∧ RdI 0 w'' v (rk (x0 ++ x1) x0) ∧ Below w'.heap.size w' w'') := Lib.hid (fun w' h => rids_any _ _ x0 x1 w' (W0.out.below h) (W1.out.below h) (by omega) (by omega))
      have Hba : Hid (∀ w', Below w.heap.size w w' → Calls Try.prog 17 #[.slice ao1 x1.length c1, .slice ao0 x0.length c0] w' fun e w'' => ∃ v, e = .returned v ∧ RdI 0 w'' v (rk (x0 ++ x1) x1) ∧ Below w'.heap.size w' w'') := Lib.hid (fun w' h => by
        have := rids_any _ _ x1 x0 w' (W1.out.below h) (W0.out.below h) (by omega) (by omega)
        rwa [rk_same (all' := x0 ++ x1) (fun y => by rw [List.mem_append, List.mem_append]; exact Or.comm)] at this)
      go_enter Try.func4, Try.ntmps4
      go_wp2_with fail
      refine (awake_any _).mono ?_
      rintro e w1 ⟨rfl, hb⟩
      have B1 := Lib.hid hb
      clear hb
      go_wp2_with fail
      refine (Hfa.out _ B1.out).mono ?_
      rintro e w2 ⟨rfl, rfl⟩
      go_wp2_with fail
      refine (Hfb.out _ B1.out).mono ?_
      rintro e w2 ⟨rfl, rfl⟩
      have hi := ids_any _ [x0, x1] _ (rdl2 (t := 24) (W0.out.below B1.out) (W1.out.below B1.out)) (by simp) (by simp; omega)
      rw [show ([x0, x1] : List (List Tx)).flatten = x0 ++ x1 by simp] at hi
      have HI := Lib.hid hi
      clear hi
      go_wp2_with fail
      refine HI.out.mono ?_
      rintro e w3 ⟨v3, rfl, hli, hb3⟩
      have B3 := Lib.hid ((B1.out.alloc B1.out.size _).trans (hb3.mono (by simp; have := B1.out.size; omega)))
      obtain ⟨b3, cap3, rfl, hlt3, hcell3⟩ := hli
      obtain ⟨u0, k0, r0⟩ := hcell3 0 _ rfl
      obtain ⟨u1, k1, r1⟩ := hcell3 1 _ rfl
      have R0 := Lib.hid r0
      have R1 := Lib.hid r1
      obtain ⟨au0, cu0, hu0⟩ := r0.len
      obtain ⟨au1, cu1, hu1⟩ := r1.len
      subst hu0
      subst hu1
      rw [rk_len] at k0 k1 R0 R1
      have K0 := k0
      clear r0 r1 hcell3 hb3 HI
      go_wp2_with fail
      have hdec : decide (rk (x0 ++ x1) x0 = rk (x0 ++ x1) x0) = true := decide_eq_true rfl
      have hdec1 : decide (rk (x0 ++ x1) x1 = rk (x0 ++ x1) x1) = true := decide_eq_true rfl
      have L0 : Hid ((rk (x0 ++ x1) x0).length ≤ 1000000) := Lib.hid (by rw [rk_len]; omega)
      have L1 : Hid ((rk (x0 ++ x1) x1).length ≤ 1000000) := Lib.hid (by rw [rk_len]; omega)
      go_region_held3 (fun w' => w'.cell? ⟨b3, 0, none⟩ = some (.slice au0 x0.length cu0) ∧ w'.cell? ⟨b3, 1, none⟩ = some (.slice au1 x1.length cu1))
        (first | exact ⟨k0, k1⟩ | exact ⟨k50, k51⟩ | exact ⟨k70, k71⟩)
        (first
          | (go_at_call 17
             refine calls_at (args := #[.slice ao0 x0.length c0, .slice ao1 x1.length c1]) rfl (Hab.out _ ?_) ?_
             (first | exact B3.out | exact B3.out.drew)
             rintro e w5 ⟨v5, rfl, r5, hb5q⟩
             have hb5 := of_drew hb5q
             have k50 := (hb5.cell (by exact hlt3)).trans k0
             have k51 := (hb5.cell (by exact hlt3)).trans k1
             have R50 := Lib.hid (R0.out.below hb5)
             have R51 := Lib.hid (R1.out.below hb5)
             have R5 := Lib.hid r5
             have B5 := Lib.hid (B3.out.trans (hb5.mono B3.out.size))
             have hlt5 := Nat.lt_of_lt_of_le hlt3 hb5.size
             clear r5 hb5 hb5q)
          | (go_at_call 17
             refine calls_at (args := #[.slice ao1 x1.length c1, .slice ao0 x0.length c0]) rfl (Hba.out _ ?_) ?_
             (first | exact B5.out | exact B5.out.drew | exact below_drewN B5.out _)
             rintro e w7 ⟨v7, rfl, r7, hb7q⟩
             have hb7 := of_drewN hb7q
             have k70 := (hb7.cell (by exact hlt5)).trans k50
             have k71 := (hb7.cell (by exact hlt5)).trans k51
             have R71 := Lib.hid (R51.out.below hb7)
             have R7 := Lib.hid r7
             have B7 := Lib.hid (B5.out.trans (hb7.mono B5.out.size))
             clear r7 hb7 hb7q)
          | (go_at_call 16
             refine calls_at (args := #[.slice au0 x0.length cu0, v5]) rfl (rsame_any 0 0 _ _ (rk (x0 ++ x1) x0) (rk (x0 ++ x1) x0) w5 R50.out R5.out L0.out L0.out) ?_
             rintro e w6 ⟨rfl, n6, rfl⟩)
          | (go_at_call 16
             refine calls_at (args := #[.slice au1 x1.length cu1, v7]) rfl (rsame_any 0 0 _ _ (rk (x0 ++ x1) x1) (rk (x0 ++ x1) x1) w7 R71.out R7.out L1.out L1.out) ?_
             rintro e w8 ⟨rfl, n8, rfl⟩))
      go_wp2_with fail
      go_ret
      exact ⟨rfl, below_drewN B7.out _⟩

set_option maxRecDepth 100000 in
theorem lifted (os : Os) (started : os.Started) (H : Type) (enc : TypeId × Value → H) :
    ReturnsInHanded {} Try.checked os 4 .any (Rows.tokenIdsSpec.pre6 enc Try.prog Try.f4 Rows.tokenIdsRow.domain false) (Rows.tokenIdsSpec.post enc Try.prog Try.f4 false true false false) := by
  refine returnsInHanded_of_change_sized (C := Try.checked) own started (by kernel_rfl) Try.func4
    (ChangeSpec.witness6 (enc := enc) (C := Try.checked) false ⟨#[], #[.slice none 0 0, .slice none 0 0], []⟩ 8 (by kernel_rfl) (by kernel_rfl) (by kernel_rfl) (by kernel_rfl)) ?_
  intro W base args ds gs before hval0 hW hcnd hsz0 _
  have hval : ∀ (j : Nat) t v, Try.f4.params[j]? = some t → args[j]? = some v → Value.okWide Try.prog W .any base t v := hval0
  have hsz : (DataW.weightsEach Try.prog (Try.f4.params.toList ++ Rows.tokenIdsSpec.plain.varTypes Try.prog) (ds ++ gs)).all (· ≤ reachBytes) = true := hsz0
  have hW' := hW
  obtain ⟨p, q, hA0, hV, rfl, hfz, hnd⟩ := hW
  have hA : DataW.TrodAll enc Try.prog W 0 (fun _ => true) true Try.f4.params.toList args.toList ds p := hA0
  rw [Try.params4] at hA hval hsz
  obtain ⟨v0, vs0, d0, ds0, p0, q0, hargs, rfl, rfl, h0, r0⟩ := trodAll_cons hA
  obtain ⟨v1, vs1, d1, ds1, p1, q1, rfl, rfl, rfl, h1, r1⟩ := trodAll_cons r0
  obtain ⟨rfl, rfl, rfl⟩ := trodAll_nil r1
  obtain rfl : args = #[v0, v1] := by cases args; simp_all
  obtain ⟨rfl, rfl⟩ := trodVars_none hV
  obtain ⟨s0, l0, c0, rfl⟩ := okWide_slice Try.underlying24 (hval 0 24 v0 rfl rfl)
  obtain ⟨s1, l1, c1, rfl⟩ := okWide_slice Try.underlying24 (hval 1 24 v1 rfl rfl)
  have hlt0 : ∀ x ∈ p0, x.block < W.heap.size := fun x hx => hW'.lt x (by simp [hx])
  obtain ⟨x0, w0, n0⟩ := rd_of h0 hlt0
  have hlt1 : ∀ x ∈ p1, x.block < W.heap.size := fun x hx => hW'.lt x (by simp [hx])
  obtain ⟨x1, w1, n1⟩ := rd_of h1 hlt1
  clear hA0 hval0 hsz0
  simp only [List.append_nil] at hW'
  refine (walk W _ x0 w0 n0 _ x1 w1 n1).mono fun e W' ⟨he, bel⟩ => ?_
  subst he
  exact ⟨_, rfl, _, _, _, [], _, [], hW', trodAll_mk1 (shut_bool Try.underlying4 _), (trodAll_cons_mk (Below.trod laidOut (by kernel_rfl) (of_decide_eq_true (by kernel_rfl)) h0 bel hlt0) (trodAll_cons_mk (Below.trod laidOut (by kernel_rfl) (of_decide_eq_true (by kernel_rfl)) h1 bel hlt1) trodAll_mk0)), rfl, bel.frame _, fun h => by cases h⟩

theorem over : Rows.tokenIdsRow.holds Try.pinned (OpenSpec.ofChange Rows.tokenIdsSpec) :=
  OpenClaim.holds_of_wide 4 Try.f4 rfl rfl rfl rfl rfl rfl rfl ⟨rfl, rfl, rfl, rfl, rfl⟩ rfl rfl rfl rfl rfl (by kernel_rfl) Try.func4 (by kernel_rfl)
    (of_decide_eq_true (by kernel_rfl)) (by unfold Func.isWrapper; first | (rw [if_pos (by decide +kernel)]; kernel_rfl) | (rw [if_neg (by decide +kernel)]; exact ⟨rfl, rfl⟩))
    (fun os started H enc _ => lifted os started H enc)

theorem proved : Rows.TokenIdsSaid :=
  over
end Go.Proofs.Ytjhmjdacjaefaaa.tokenIds
