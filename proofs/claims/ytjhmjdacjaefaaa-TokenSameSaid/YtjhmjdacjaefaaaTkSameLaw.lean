/-
  The statement about TokenSame: for every input the law returns true, and each argument reads afterwards as it read before. No condition.
-/
import Derived.Test.YtjhmjdacjaefaaaRows
import Derived.Test.YtjhmjdacjaefaaaTkLists
import Derived.WalkKit
import Derived.ProofKit
import Derived.OpenShut
import Derived.ShutString
import Derived.SizedLaws
import Derived.Laws.AppendOwnNone
namespace Go.Proofs.Ytjhmjdacjaefaaa.tokenSame
open Go.ChangeShapes Go.WideShapes Go.ChangeAt Go.RowKit
open Go.ChangeMaps (open_string shut_string)
open Go.Proofs.Ytjhmjdacjaefaaa.Tk
set_option linter.unusedVariables false

theorem own : ownKnob Try.prog.godebug = none := by kernel_rfl

theorem cmp_eq {all : List Tx} {x y : Tx} (hx : x ∈ all) (hy : y ∈ all) : ((rank all x : Int) == (rank all y : Int)) = ((S x).toList == (S y).toList) := by
  rw [S_toList, S_toList, Bool.eq_iff_iff, beq_iff_eq, beq_iff_eq]
  have := rank_eq hx hy
  constructor
  · intro h; exact this.2 (by omega)
  · intro h; have := this.1 h; omega
theorem cmp_lt {all : List Tx} {x y : Tx} (hx : x ∈ all) (hy : y ∈ all) : decide ((rank all x : Int) < (rank all y : Int)) = Op.bytesLess (S x).toList (S y).toList := by
  rw [S_less, decide_eq_decide]
  have := rank_lt hx hy
  constructor
  · intro h; exact this.2 (by omega)
  · intro h; have := this.1 h; omega
theorem fa_of {w : World} {ao : Option Addr} {n c : Nat} {x : List Tx} (h : Rd w (.slice ao n c) x) : ∀ i (hi : i < x.length), ∃ b o, ao = some ⟨b, o, none⟩ ∧ b < w.heap.size ∧ w.cell? ⟨b, o + i, none⟩ = some (.string (S x[i])) := by
  intro i hi
  obtain ⟨ao', c', hv, _, hx⟩ := h
  simp only [Value.slice.injEq] at hv
  obtain ⟨rfl, _, _⟩ := hv
  rcases hx with hx | ⟨b, o, rfl, hlt, hcell⟩
  · rw [hx] at hi; exact absurd hi (Nat.not_lt_zero _)
  · exact ⟨b, o, rfl, hlt, hcell i _ (get_lt hi)⟩
theorem ga_of {w : World} {lo : Nat} {ao : Option Addr} {n c : Nat} {all x : List Tx} (h : RdI lo w (.slice ao n c) (rk all x)) : ∀ i (hi : i < x.length), ∃ b, ao = some ⟨b, 0, none⟩ ∧ b < w.heap.size ∧ w.cell? ⟨b, i, none⟩ = some (.int .i64 (rank all x[i])) := by
  intro i hi
  obtain ⟨ao', c', hv, hx⟩ := h
  simp only [Value.slice.injEq] at hv
  obtain ⟨rfl, _, _⟩ := hv
  rcases hx with hx | ⟨b, rfl, _, hlt, hcell⟩
  · have := congrArg List.length hx; rw [rk_len] at this; simp at this; rw [this] at hi; exact absurd hi (Nat.not_lt_zero _)
  · exact ⟨b, rfl, hlt, hcell i _ (by unfold rk; rw [List.getElem?_map, get_lt hi]; rfl)⟩

set_option maxHeartbeats 6400000 in
set_option maxRecDepth 100000 in
theorem walk (w : World) (a0 : Value) (x0 : List (List UInt8)) (w0 : Rd w a0 x0) (n0 : x0.length ≤ 9223372036854775807) (a1 : Value) (x1 : List (List UInt8)) (w1 : Rd w a1 x1) (n1 : x1.length ≤ 9223372036854775807) (a2 : Value) (x2 : List (List UInt8)) (w2 : Rd w a2 x2) (n2 : x2.length ≤ 9223372036854775807) :
    Calls Try.prog 6 #[a0, a1, a2] w fun e w' => e = .returned (.bool true) ∧ Below w.heap.size w w' := by
  have Hf0 : Hid (∀ w', Below w.heap.size w w' → Calls Try.prog 14 #[a0] w' fun e w'' => e = .returned (.bool (fewB x0)) ∧ w' = w'') := Lib.hid (fun w' h => few_any a0 x0 w' (w0.below h) n0)
  have Hf1 : Hid (∀ w', Below w.heap.size w w' → Calls Try.prog 14 #[a1] w' fun e w'' => e = .returned (.bool (fewB x1)) ∧ w' = w'') := Lib.hid (fun w' h => few_any a1 x1 w' (w1.below h) n1)
  have Hf2 : Hid (∀ w', Below w.heap.size w w' → Calls Try.prog 14 #[a2] w' fun e w'' => e = .returned (.bool (fewB x2)) ∧ w' = w'') := Lib.hid (fun w' h => few_any a2 x2 w' (w2.below h) n2)
  cases hf0 : fewB x0 with
  | false =>
    rw [hf0] at Hf0
    go_enter Try.func6, Try.ntmps6
    go_wp2_with fail
    refine (awake_any _).mono ?_
    rintro e w1 ⟨rfl, hb⟩
    go_wp2_with fail
    refine (Hf0.out _ hb).mono ?_
    rintro e w2 ⟨rfl, rfl⟩
    go_wp2_with fail
    refine (awake_any _).mono ?_
    rintro e w2 ⟨rfl, hb2⟩
    go_wp2_with fail
    go_ret
    exact ⟨rfl, hb.trans (hb2.mono hb.size)⟩
  | true =>
    rw [hf0] at Hf0
    cases hf1 : fewB x1 with
    | false =>
      rw [hf1] at Hf1
      go_enter Try.func6, Try.ntmps6
      go_wp2_with fail
      refine (awake_any _).mono ?_
      rintro e w1 ⟨rfl, hb⟩
      go_wp2_with fail
      refine (Hf0.out _ hb).mono ?_
      rintro e w2 ⟨rfl, rfl⟩
      go_wp2_with fail
      refine (Hf1.out _ hb).mono ?_
      rintro e w2 ⟨rfl, rfl⟩
      go_wp2_with fail
      refine (awake_any _).mono ?_
      rintro e w2 ⟨rfl, hb2⟩
      go_wp2_with fail
      go_ret
      exact ⟨rfl, hb.trans (hb2.mono hb.size)⟩
    | true =>
      rw [hf1] at Hf1
      cases hf2 : fewB x2 with
      | false =>
        rw [hf2] at Hf2
        go_enter Try.func6, Try.ntmps6
        go_wp2_with fail
        refine (awake_any _).mono ?_
        rintro e w1 ⟨rfl, hb⟩
        go_wp2_with fail
        refine (Hf0.out _ hb).mono ?_
        rintro e w2 ⟨rfl, rfl⟩
        go_wp2_with fail
        refine (Hf1.out _ hb).mono ?_
        rintro e w2 ⟨rfl, rfl⟩
        go_wp2_with fail
        refine (Hf2.out _ hb).mono ?_
        rintro e w2 ⟨rfl, rfl⟩
        go_wp2_with fail
        refine (awake_any _).mono ?_
        rintro e w2 ⟨rfl, hb2⟩
        go_wp2_with fail
        go_ret
        exact ⟨rfl, hb.trans (hb2.mono hb.size)⟩
      | true =>
        rw [hf2] at Hf2
        have l0 : x0.length ≤ 60 := (few_of hf0).1
        have l1 : x1.length ≤ 60 := (few_of hf1).1
        have l2 : x2.length ≤ 60 := (few_of hf2).1
        have W0 := Lib.hid w0
        have W1 := Lib.hid w1
        have W2 := Lib.hid w2
        clear hf0 hf1 hf2 w0 w1 w2
        obtain ⟨ao0, c0, rfl⟩ := W0.out.len
        obtain ⟨ao1, c1, rfl⟩ := W1.out.len
        obtain ⟨ao2, c2, rfl⟩ := W2.out.len
        obtain ⟨all, hall⟩ : ∃ all, x0 ++ (x1 ++ x2) = all := ⟨_, rfl⟩
        have M0 : Hid (∀ x ∈ x0, x ∈ all) := Lib.hid (fun x hx => by rw [← hall]; simp [hx])
        have M1 : Hid (∀ x ∈ x1, x ∈ all) := Lib.hid (fun x hx => by rw [← hall]; simp [hx])
        have M2 : Hid (∀ x ∈ x2, x ∈ all) := Lib.hid (fun x hx => by rw [← hall]; simp [hx])
        have HALL := Lib.hid (show ([x0, x1, x2] : List (List Tx)).flatten = all by rw [← hall]; simp)
        clear hall
        go_enter Try.func6, Try.ntmps6
        go_wp2_with fail
        refine (awake_any _).mono ?_
        rintro e w1 ⟨rfl, hb⟩
        have B1 := Lib.hid hb
        clear hb
        go_wp2_with fail
        refine (Hf0.out _ B1.out).mono ?_
        rintro e w2 ⟨rfl, rfl⟩
        go_wp2_with fail
        refine (Hf1.out _ B1.out).mono ?_
        rintro e w2 ⟨rfl, rfl⟩
        go_wp2_with fail
        refine (Hf2.out _ B1.out).mono ?_
        rintro e w2 ⟨rfl, rfl⟩
        have hi := ids_any _ [x0, x1, x2] _ (rdl3 (t := 24) (W0.out.below B1.out) (W1.out.below B1.out) (W2.out.below B1.out)) (by simp) (by simp; omega)
        rw [HALL.out] at hi
        have HI := Lib.hid hi
        clear hi
        go_wp2_with fail
        refine HI.out.mono ?_
        rintro e w3 ⟨v3, rfl, hli, hb3⟩
        have B3 := Lib.hid ((B1.out.alloc B1.out.size _).trans (hb3.mono (by simp; have := B1.out.size; omega)))
        obtain ⟨b3, cap3, rfl, hlt3, hcell3⟩ := hli
        obtain ⟨u0, k0, r0⟩ := hcell3 0 _ rfl
        obtain ⟨u1, k1, r1⟩ := hcell3 1 _ rfl
        obtain ⟨u2, k2, r2⟩ := hcell3 2 _ rfl
        have R0 := Lib.hid r0
        have R1 := Lib.hid r1
        have R2 := Lib.hid r2
        obtain ⟨au0, cu0, hu0⟩ := r0.len
        obtain ⟨au1, cu1, hu1⟩ := r1.len
        obtain ⟨au2, cu2, hu2⟩ := r2.len
        subst hu0
        subst hu1
        subst hu2
        rw [rk_len] at k0 k1 k2 R0 R1 R2
        clear r0 r1 r2 hcell3 hb3 HI
        have e0 : ((x0.length : Int) != (x0.length : Int)) = false := by simp
        have e1 : ((x1.length : Int) != (x1.length : Int)) = false := by simp
        have e2 : ((x2.length : Int) != (x2.length : Int)) = false := by simp
        have HN := Lib.hid (ids_any (.slice none 0 0) [] w3 ⟨none, 0, rfl, Or.inl rfl⟩ (by simp) (by simp))
        go_wp2_with fail
        refine HN.out.mono ?_
        rintro e w4 ⟨v4, rfl, hli, hb4⟩
        obtain ⟨b4, cap4, rfl, _, _⟩ := hli
        have B4 := Lib.hid (B3.out.trans (hb4.mono B3.out.size))
        have k40 := (hb4.cell (by exact hlt3)).trans k0
        have k41 := (hb4.cell (by exact hlt3)).trans k1
        have k42 := (hb4.cell (by exact hlt3)).trans k2
        have hlt4 := Nat.lt_of_lt_of_le hlt3 hb4.size
        have FA := Lib.hid (fa_of (W0.out.below B4.out))
        have FB := Lib.hid (fa_of (W1.out.below B4.out))
        have FC := Lib.hid (fa_of (W2.out.below B4.out))
        have GA := Lib.hid (ga_of (R0.out.below hb4))
        have GB := Lib.hid (ga_of (R1.out.below hb4))
        have GC := Lib.hid (ga_of (R2.out.below hb4))
        have K0 := Lib.hid k40
        have K1 := Lib.hid k41
        have K2 := Lib.hid k42
        clear k0 k1 k2 k40 k41 k42 hb4 HN R0 R1 R2 W0 W1 W2 Hf0 Hf1 Hf2 B1 B3 e0 e1 e2 HALL
        go_wp2_with fail
        go_loopw [71] (fun i wr => ∃ k : Nat, k ≤ x0.length ∧ i = .int .i64 k ∧ Hid (Below w4.heap.size w4 wr)) (fun i _ => x0.length - (intOf i).toNat)
        case atStart => exact ⟨0, Nat.zero_le _, rfl, Lib.hid (Below.refl _ _)⟩
        case round =>
          obtain ⟨i, hi, rfl, HB⟩ := hrel
          by_cases hil : i < x0.length
          · obtain ⟨ba, oa, rfl, hba, ca⟩ := FA.out i hil
            obtain ⟨ga, rfl, hga, da⟩ := GA.out i hil
            have Ca := Lib.hid ca
            have Da := Lib.hid da
            have Ma := Lib.hid (M0.out _ (List.getElem_mem hil))
            clear ca da
            generalize x0[i] = x at *
            go_wp2_with fail
            go_loopw [76] (fun j wr => ∃ k : Nat, k ≤ x2.length ∧ j = .int .i64 k ∧ Hid (Below w4.heap.size w4 wr)) (fun j _ => x2.length - (intOf j).toNat)
            case atStart => exact ⟨0, Nat.zero_le _, rfl, HB⟩
            case round =>
              clear HB
              obtain ⟨j, hj, rfl, HB⟩ := hrel
              by_cases hjl : j < x2.length
              · obtain ⟨bc, oc, rfl, hbc, cc⟩ := FC.out j hjl
                obtain ⟨gc, rfl, hgc, dc⟩ := GC.out j hjl
                have My := M2.out _ (List.getElem_mem hjl)
                have q1 : wr.cell? ⟨ba, oa + i, none⟩ = some (.string (S x)) := (HB.out.cell (by exact hba)).trans Ca.out
                have q2 : wr.cell? ⟨bc, oc + j, none⟩ = some (.string (S x2[j])) := (HB.out.cell (by exact hbc)).trans cc
                have q3 : wr.cell? ⟨b3, 0, none⟩ = some (.slice (some ⟨ga, 0, none⟩) x0.length cu0) := (HB.out.cell (by exact hlt4)).trans K0.out
                have q4 : wr.cell? ⟨b3, 2, none⟩ = some (.slice (some ⟨gc, 0, none⟩) x2.length cu2) := (HB.out.cell (by exact hlt4)).trans K2.out
                have q5 : wr.cell? ⟨ga, i, none⟩ = some (.int .i64 (rank all x)) := (HB.out.cell (by exact hga)).trans Da.out
                have q6 : wr.cell? ⟨gc, j, none⟩ = some (.int .i64 (rank all x2[j])) := (HB.out.cell (by exact hgc)).trans dc
                have t1 := cmp_eq Ma.out My
                have t2 := cmp_lt Ma.out My
                have i1 : (i : Int) < (x0.length : Int) := by omega
                have i2 : (j : Int) < (x2.length : Int) := by omega
                clear cc dc My
                generalize S x2[j] = sy at *
                generalize S x = sx at *
                generalize (rank all x2[j] : Int) = q at *
                generalize (rank all x : Int) = p at *
                obtain ⟨f1, hf1⟩ : ∃ f, (sx.toList == sy.toList) = f := ⟨_, rfl⟩
                obtain ⟨f2, hf2⟩ : ∃ f, Op.bytesLess sx.toList sy.toList = f := ⟨_, rfl⟩
                rw [hf1] at t1
                rw [hf2] at t2
                go_wp2_with fail
                go_quiet (fail)
                go_wp2_with fail
                go_roundw
                case rel => exact ⟨j + 1, by omega, by go_num, Lib.hid (below_drewN HB.out _)⟩
                case measure => simp [intOf]; omega
              · obtain rfl : j = x2.length := by omega
                clear hjl
                go_wp2_with fail
                go_loopw [130] (fun j wr => ∃ k : Nat, k ≤ x1.length ∧ j = .int .i64 k ∧ Hid (Below w4.heap.size w4 wr)) (fun j _ => x1.length - (intOf j).toNat)
                case atStart => exact ⟨0, Nat.zero_le _, rfl, HB⟩
                case round =>
                  clear HB
                  obtain ⟨j, hj, rfl, HB⟩ := hrel
                  by_cases hjl : j < x1.length
                  · obtain ⟨bc, oc, rfl, hbc, cc⟩ := FB.out j hjl
                    obtain ⟨gc, rfl, hgc, dc⟩ := GB.out j hjl
                    have My := M1.out _ (List.getElem_mem hjl)
                    have q1 : wr.cell? ⟨ba, oa + i, none⟩ = some (.string (S x)) := (HB.out.cell (by exact hba)).trans Ca.out
                    have q2 : wr.cell? ⟨bc, oc + j, none⟩ = some (.string (S x1[j])) := (HB.out.cell (by exact hbc)).trans cc
                    have q3 : wr.cell? ⟨b3, 0, none⟩ = some (.slice (some ⟨ga, 0, none⟩) x0.length cu0) := (HB.out.cell (by exact hlt4)).trans K0.out
                    have q4 : wr.cell? ⟨b3, 1, none⟩ = some (.slice (some ⟨gc, 0, none⟩) x1.length cu1) := (HB.out.cell (by exact hlt4)).trans K1.out
                    have q5 : wr.cell? ⟨ga, i, none⟩ = some (.int .i64 (rank all x)) := (HB.out.cell (by exact hga)).trans Da.out
                    have q6 : wr.cell? ⟨gc, j, none⟩ = some (.int .i64 (rank all x1[j])) := (HB.out.cell (by exact hgc)).trans dc
                    have t1 := cmp_eq Ma.out My
                    have i1 : (i : Int) < (x0.length : Int) := by omega
                    have i2 : (j : Int) < (x1.length : Int) := by omega
                    clear cc dc My
                    generalize S x1[j] = sy at *
                    generalize S x = sx at *
                    generalize (rank all x1[j] : Int) = q at *
                    generalize (rank all x : Int) = p at *
                    obtain ⟨f1, hf1⟩ : ∃ f, (sx.toList == sy.toList) = f := ⟨_, rfl⟩
                    rw [hf1] at t1
                    go_wp2_with fail
                    go_quiet (fail)
                    go_wp2_with fail
                    go_roundw
                    case rel => exact ⟨j + 1, by omega, by go_num, Lib.hid (below_drewN HB.out _)⟩
                    case measure => simp [intOf]; omega
                  · obtain rfl : j = x1.length := by omega
                    clear hjl
                    go_wp2_with fail
                    go_roundw
                    case rel => exact ⟨i + 1, by omega, by go_num, HB⟩
                    case measure => simp [intOf]; omega
          · obtain rfl : i = x0.length := by omega
            clear hil
            have BB := Lib.hid (B4.out.trans (HB.out.mono B4.out.size))
            go_wp2_with fail
            go_ret
            exact ⟨rfl, BB.out⟩

set_option maxRecDepth 100000 in
theorem lifted (os : Os) (started : os.Started) (H : Type) (enc : TypeId × Value → H) :
    ReturnsInHanded {} Try.checked os 6 .any (Rows.tokenSameSpec.pre6 enc Try.prog Try.f6 Rows.tokenSameRow.domain false) (Rows.tokenSameSpec.post enc Try.prog Try.f6 false true false false) := by
  refine returnsInHanded_of_change_sized (C := Try.checked) own started (by kernel_rfl) Try.func6
    (ChangeSpec.witness6 (enc := enc) (C := Try.checked) false ⟨#[], #[.slice none 0 0, .slice none 0 0, .slice none 0 0], []⟩ 8 (by kernel_rfl) (by kernel_rfl) (by kernel_rfl) (by kernel_rfl)) ?_
  intro W base args ds gs before hval0 hW hcnd hsz0 _
  have hval : ∀ (j : Nat) t v, Try.f6.params[j]? = some t → args[j]? = some v → Value.okWide Try.prog W .any base t v := hval0
  have hsz : (DataW.weightsEach Try.prog (Try.f6.params.toList ++ Rows.tokenSameSpec.plain.varTypes Try.prog) (ds ++ gs)).all (· ≤ reachBytes) = true := hsz0
  have hW' := hW
  obtain ⟨p, q, hA0, hV, rfl, hfz, hnd⟩ := hW
  have hA : DataW.TrodAll enc Try.prog W 0 (fun _ => true) true Try.f6.params.toList args.toList ds p := hA0
  rw [Try.params6] at hA hval hsz
  obtain ⟨v0, vs0, d0, ds0, p0, q0, hargs, rfl, rfl, h0, r0⟩ := trodAll_cons hA
  obtain ⟨v1, vs1, d1, ds1, p1, q1, rfl, rfl, rfl, h1, r1⟩ := trodAll_cons r0
  obtain ⟨v2, vs2, d2, ds2, p2, q2, rfl, rfl, rfl, h2, r2⟩ := trodAll_cons r1
  obtain ⟨rfl, rfl, rfl⟩ := trodAll_nil r2
  obtain rfl : args = #[v0, v1, v2] := by cases args; simp_all
  obtain ⟨rfl, rfl⟩ := trodVars_none hV
  obtain ⟨s0, l0, c0, rfl⟩ := okWide_slice Try.underlying24 (hval 0 24 v0 rfl rfl)
  obtain ⟨s1, l1, c1, rfl⟩ := okWide_slice Try.underlying24 (hval 1 24 v1 rfl rfl)
  obtain ⟨s2, l2, c2, rfl⟩ := okWide_slice Try.underlying24 (hval 2 24 v2 rfl rfl)
  have hlt0 : ∀ x ∈ p0, x.block < W.heap.size := fun x hx => hW'.lt x (by simp [hx])
  obtain ⟨x0, w0, n0⟩ := rd_of h0 hlt0
  have hlt1 : ∀ x ∈ p1, x.block < W.heap.size := fun x hx => hW'.lt x (by simp [hx])
  obtain ⟨x1, w1, n1⟩ := rd_of h1 hlt1
  have hlt2 : ∀ x ∈ p2, x.block < W.heap.size := fun x hx => hW'.lt x (by simp [hx])
  obtain ⟨x2, w2, n2⟩ := rd_of h2 hlt2
  clear hA0 hval0 hsz0
  simp only [List.append_nil] at hW'
  refine (walk W _ x0 w0 n0 _ x1 w1 n1 _ x2 w2 n2).mono fun e W' ⟨he, bel⟩ => ?_
  subst he
  exact ⟨_, rfl, _, _, _, [], _, [], hW', trodAll_mk1 (shut_bool Try.underlying4 _), (trodAll_cons_mk (Below.trod laidOut (by kernel_rfl) (of_decide_eq_true (by kernel_rfl)) h0 bel hlt0) (trodAll_cons_mk (Below.trod laidOut (by kernel_rfl) (of_decide_eq_true (by kernel_rfl)) h1 bel hlt1) (trodAll_cons_mk (Below.trod laidOut (by kernel_rfl) (of_decide_eq_true (by kernel_rfl)) h2 bel hlt2) trodAll_mk0))), rfl, bel.frame _, fun h => by cases h⟩

theorem over : Rows.tokenSameRow.holds Try.pinned (OpenSpec.ofChange Rows.tokenSameSpec) :=
  OpenClaim.holds_of_wide 6 Try.f6 rfl rfl rfl rfl rfl rfl rfl ⟨rfl, rfl, rfl, rfl, rfl⟩ rfl rfl rfl rfl rfl (by kernel_rfl) Try.func6 (by kernel_rfl)
    (of_decide_eq_true (by kernel_rfl)) (by unfold Func.isWrapper; first | (rw [if_pos (by decide +kernel)]; kernel_rfl) | (rw [if_neg (by decide +kernel)]; exact ⟨rfl, rfl⟩))
    (fun os started H enc _ => lifted os started H enc)

theorem proved : Rows.TokenSameSaid :=
  over
end Go.Proofs.Ytjhmjdacjaefaaa.tokenSame
