/-
  The card of LinesBack: for every input the law returns true, and each argument reads afterwards as it read before; the package-level variables that the row lists are tied to the program's text (the walk reads none of them). No other condition.
-/
import Derived.Test.YtkldndmmjgodbaaDoorRows
import Derived.Test.YtkldndmmjgodbaaDoorCards
import Derived.Test.YtkldndmmjgodbaaDoorTie
import Derived.Test.YtkldndmmjgodbaaDoorLnMore
import Derived.Test.YtkldndmmjgodbaaDoorLnFrame
import Derived.WalkKit
import Derived.ProofKit
import Derived.OpenShut
import Derived.ShutString
import Derived.SizedLaws
import Derived.Lay
import Derived.SevenTiedAt
namespace Go.Proofs.YtkldndmmjgodbaaDoor.linesBack
open Go.ChangeShapes Go.WideShapes Go.ChangeAt Go.RowKit
open Go.ChangeMaps (open_string shut_string)
open Go.Proofs.YtkldndmmjgodbaaDoor.Ln
set_option linter.unusedVariables false

theorem own : ownKnob Tryd.prog.godebug = none := by kernel_rfl

/-- lines.Longest, its byte as an integer. -/
def mxI (c : Int) (l : List UInt8) : Nat := mx (UInt8.ofNat c.toNat) l
theorem longestI (x : ByteArray) (hs : x.size ≤ 1000000) (c : Int) (hc : 0 ≤ c ∧ c < 256) (w : World) : Calls Tryd.prog 22 #[.string x, .int .u8 c] w fun e w' => e = .returned (.int .i64 (mxI c x.data.toList)) ∧ w' = w := by
  have h := longest_any x (by omega) (UInt8.ofNat c.toNat) w
  rw [show ((UInt8.ofNat c.toNat).toNat : Int) = c by rw [UInt8.toNat_ofNat']; omega] at h
  exact h.mono fun e w' ⟨h1, h2⟩ => ⟨h1, h2.symm⟩
theorem jn_few {xs : List (List UInt8)} (e : Bool) (h : fewB xs = true) : (S (jn xs e)).size ≤ 1000000 := by
  have hf := few_of h
  have := jn_len 1000 xs e hf.2
  rw [S_size]
  have := hf.1
  omega
theorem Rd.front {w : World} {b o n c : Nat} {xs : List (List UInt8)} (h : Rd w (.slice (some ⟨b, o, none⟩) xs.length c) xs) (h0 : xs ≠ []) : Rd w (.slice (some ⟨b, o, none⟩) (xs.length - 1) c) xs.dropLast := by
  obtain ⟨ao, cap, hv, hc, hx⟩ := h
  simp only [Value.slice.injEq, true_and] at hv
  obtain ⟨rfl, rfl⟩ := hv
  refine ⟨_, c, by rw [List.length_dropLast], by rw [List.length_dropLast]; omega, ?_⟩
  rcases hx with hx | ⟨b', o', hao, hlt, hcell⟩
  · exact absurd hx h0
  · refine Or.inr ⟨b', o', hao, hlt, fun j x hj => hcell j x ?_⟩
    rw [List.getElem?_dropLast] at hj
    split at hj
    · exact hj
    · simp at hj

set_option maxHeartbeats 1600000 in
theorem walk (w : World) (a0 : Value) (x0 : List (List UInt8)) (w0 : Rd w a0 x0) (n0 : x0.length ≤ 9223372036854775807) (a1 : Bool) :
    Calls Tryd.prog 5 #[a0, .bool a1] w fun e w' => e = .returned (.bool true) ∧ Below w.heap.size w w' := by
  have Hrd := Lib.hid w0
  have hfew := fun (w' : World) (h : Below w.heap.size w w') => few_any a0 x0 w' (Rd.below Hrd.out h) n0
  obtain ⟨ao, cap, hva, hcap, hax⟩ := w0
  subst hva
  have Hf := Lib.hid hfew
  clear hfew
  cases hfe : fewB x0 with
  | false =>
    rw [hfe] at Hf
    clear hax
    go_enter Tryd.func5, Tryd.ntmps5
    go_wp2_with fail
    refine (awake_any _).mono ?_
    rintro e w1 ⟨rfl, hb⟩
    have B1 := Lib.hid hb
    clear hb
    go_wp2_with fail
    refine (Hf.out _ B1.out).mono ?_
    rintro e w2 ⟨rfl, rfl⟩
    go_wp2_with fail
    refine (awake_any _).mono ?_
    rintro e w2 ⟨rfl, hb2⟩
    have B2 := Lib.hid (B1.out.trans (hb2.mono B1.out.size))
    clear hb2
    go_wp2_with fail
    go_ret
    exact ⟨rfl, B2.out⟩
  | true =>
    rw [hfe] at Hf
    have Hfe := Lib.hid hfe
    have hx200 := (few_of hfe).1
    have H1000 := Lib.hid (few_of hfe).2
    clear hfe
    by_cases h0 : x0 = []
    · subst h0
      have hsp := split_any (S (jn [] a1)) (by rw [S_size]; exact Nat.zero_le _)
      rw [S_list, show split (jn [] a1) = ([], true) from rfl] at hsp
      have Hs : Hid (∀ w : World, Calls Tryd.prog 12 #[.string (S (jn [] a1))] w fun e w' => ∃ v, e = .returned (.tuple #[v, .bool true]) ∧ w'.ownsRow w.heap.size 9 1 v 0 (([] : List (List UInt8)).map encStr) ∧ Below w.heap.size w w') := Lib.hid hsp
      clear hsp hax
      have hz : ([] : List (List UInt8)).length = 0 := rfl
      rw [hz] at Hrd Hf ⊢
      go_enter Tryd.func5, Tryd.ntmps5
      go_wp2_with fail
      refine (awake_any _).mono ?_
      rintro e w1 ⟨rfl, hb⟩
      have B1 := Lib.hid hb
      clear hb
      go_wp2_with fail
      refine (Hf.out _ B1.out).mono ?_
      rintro e w2 ⟨rfl, rfl⟩
      go_wp2_with fail
      go_loop [18] (fun i => i = .int .i64 0) (fun i => 0)
      case atStart => rfl
      case round =>
        subst hrel
        go_wp2_with fail
        refine (join_any _ [] a1 _ (Hrd.out.below B1.out) Hfe.out).mono ?_
        rintro e w3 ⟨rfl, hb⟩
        have B3 := Lib.hid (B1.out.trans (hb.mono B1.out.size))
        clear hb
        go_wp2_with fail
        refine (Hs.out _).mono ?_
        rintro e w4 ⟨va, rfl, hown, hb⟩
        have RA := Lib.hid (Rd.of_own (xs := []) hown)
        have B4 := Lib.hid (B3.out.trans (hb.mono B3.out.size))
        clear hown hb
        cases a1 with
        | true =>
          go_wp2_with fail
          refine (same_any va _ [] [] _ RA.out (Hrd.out.below B4.out) (by decide) (by decide)).mono ?_
          rintro e w5 ⟨rfl, hb⟩
          rw [decide_eq_true rfl]
          have B5 := Lib.hid (B4.out.trans (hb.mono B4.out.size))
          clear hb
          go_wp2_with fail
          go_ret
          exact ⟨rfl, B5.out⟩
        | false =>
          go_wp2_with fail
          refine (same_any va _ [] [] _ RA.out (Hrd.out.below B4.out) (by decide) (by decide)).mono ?_
          rintro e w5 ⟨rfl, hb⟩
          rw [decide_eq_true rfl]
          have B5 := Lib.hid (B4.out.trans (hb.mono B4.out.size))
          clear hb
          go_wp2_with fail
          go_ret
          exact ⟨rfl, B5.out⟩
    · rcases hax with hax | ⟨b, o, rfl, hlt, hcell⟩
      · exact absurd hax h0
      have HC := Lib.hid hcell
      have hpos : 0 < x0.length := List.length_pos_iff.2 h0
      have HN := Lib.hid h0
      clear hcell h0
      go_enter Tryd.func5, Tryd.ntmps5
      go_wp2_with fail
      refine (awake_any _).mono ?_
      rintro e w1 ⟨rfl, hb⟩
      have B1 := Lib.hid hb
      clear hb
      go_wp2_with fail
      refine (Hf.out _ B1.out).mono ?_
      rintro e w2 ⟨rfl, rfl⟩
      go_wp2_with fail
      go_loopw [18] (fun i wr => ∃ k : Nat, k ≤ x0.length ∧ i = .int .i64 k ∧ Hid (Below w.heap.size w wr) ∧ Hid (∀ j (hj : j < x0.length), j < k → (10 : UInt8) ∉ x0[j] ∧ (13 : UInt8) ∉ x0[j])) (fun i _ => x0.length - (intOf i).toNat)
      case atStart => exact ⟨0, Nat.zero_le _, rfl, B1, Lib.hid (fun j _ h => absurd h (Nat.not_lt_zero _))⟩
      case round =>
        obtain ⟨k, hk, rfl, HB, HT⟩ := hrel
        by_cases hkl : k < x0.length
        · have k1 : wr.cell? ⟨b, o + k, none⟩ = some (.string (S x0[k])) := (HB.out.cell (by exact hlt)).trans (HC.out k _ (get_lt hkl))
          have hi : (k : Int) < (x0.length : Int) := by omega
          have hs1 : (S x0[k]).size ≤ 1000 := by rw [S_size]; exact H1000.out _ (List.getElem_mem hkl)
          have c10 := longestI (S x0[k]) (by omega)
          rw [S_list] at c10
          have hm1 : mxI 10 x0[k] ≤ x0[k].length := mx_le 10 x0[k]
          have hm2 : mxI 13 x0[k] ≤ x0[k].length := mx_le 13 x0[k]
          have hm3 : x0[k].length ≤ 1000 := H1000.out _ (List.getElem_mem hkl)
          have hz1 : mxI 10 x0[k] = 0 → (10 : UInt8) ∉ x0[k] := mx_zero 10 x0[k]
          have hz2 : mxI 13 x0[k] = 0 → (13 : UInt8) ∉ x0[k] := mx_zero 13 x0[k]
          have C10 := Lib.hid c10
          clear c10
          by_cases hsum : 0 < mxI 10 x0[k] + mxI 13 x0[k]
          · clear hz1 hz2 HT
            have d1 : 0 < (mxI 10 x0[k] : Int) + (mxI 13 x0[k] : Int) := by omega
            generalize S x0[k] = x at *
            generalize x0[k] = y at *
            go_wp2_with fail
            go_quiet (first | (go_at_call 22; refine Calls.quiet_of_same (C10.out _ (by decide) _)))
            go_wp2_with fail
            go_ret
            exact ⟨rfl, below_drewN HB.out _⟩
          · have HT2 : Hid (∀ j (hj : j < x0.length), j < k + 1 → (10 : UInt8) ∉ x0[j] ∧ (13 : UInt8) ∉ x0[j]) := Lib.hid (fun j hj h => by
              by_cases hjk : j = k
              · subst hjk; exact ⟨hz1 (by omega), hz2 (by omega)⟩
              · exact HT.out j hj (by omega))
            clear hz1 hz2 HT
            have d1 : ¬ 0 < (mxI 10 x0[k] : Int) + (mxI 13 x0[k] : Int) := by omega
            generalize S x0[k] = x at *
            generalize x0[k] = y at *
            go_wp2_with fail
            go_quiet (first | (go_at_call 22; refine Calls.quiet_of_same (C10.out _ (by decide) _)))
            go_wp2_with fail
            go_roundw
            case rel => exact ⟨k + 1, by omega, by go_num, Lib.hid (below_drewN HB.out _), HT2⟩
            case measure => simp [intOf]; omega
        · have hall : ∀ x ∈ x0, (10 : UInt8) ∉ x ∧ (13 : UInt8) ∉ x := fun x hx => by
            obtain ⟨j, hj, rfl⟩ := List.getElem_of_mem hx
            exact HT.out j hj (by omega)
          have hsp := split_any (S (jn x0 a1)) (jn_few a1 Hfe.out)
          rw [S_list] at hsp
          have hlx : x0.length ≤ 1000000 := by omega
          have dpos : decide (0 < (x0.length : Int)) = true := decide_eq_true (by omega)
          have dne : ((x0.length : Int) == 0) = false := beq_eq_false_iff_ne.2 (by omega)
          cases a1 with
          | true =>
            rw [split_jn_true x0 hall] at hsp
            have Hs := Lib.hid hsp
            clear hsp hall HT
            go_wp2_with fail
            refine (join_any _ x0 true _ (Hrd.out.below HB.out) Hfe.out).mono ?_
            rintro e w3 ⟨rfl, hb⟩
            have B3 := Lib.hid (HB.out.trans (hb.mono HB.out.size))
            clear hb
            go_wp2_with fail
            refine (Hs.out _).mono ?_
            rintro e w4 ⟨va, rfl, hown, hb⟩
            have RA := Lib.hid (Rd.of_own (xs := x0) hown)
            have B4 := Lib.hid (B3.out.trans (hb.mono B3.out.size))
            clear hown hb
            go_wp2_with fail
            refine (same_any va _ x0 x0 _ RA.out (Hrd.out.below B4.out) hlx hlx).mono ?_
            rintro e w5 ⟨rfl, hb⟩
            rw [decide_eq_true rfl]
            have B5 := Lib.hid (B4.out.trans (hb.mono B4.out.size))
            clear hb
            go_wp2_with fail
            go_ret
            exact ⟨rfl, B5.out⟩
          | false =>
            rw [split_jn_false x0 HN.out hall] at hsp
            have hn1 : x0.length - 1 < x0.length := by omega
            have hgl : x0.getLast? = some x0[x0.length - 1] := by rw [List.getLast?_eq_getElem?, get_lt hn1]
            by_cases hla : x0[x0.length - 1] = []
            · rw [if_pos (by rw [hgl, hla])] at hsp
              have Hs := Lib.hid hsp
              have HL := Lib.hid hla
              clear hsp hall HT hgl hla
              go_wp2_with fail
              refine (join_any _ x0 false _ (Hrd.out.below HB.out) Hfe.out).mono ?_
              rintro e w3 ⟨rfl, hb⟩
              have B3 := Lib.hid (HB.out.trans (hb.mono HB.out.size))
              clear hb
              go_wp2_with fail
              refine (Hs.out _).mono ?_
              rintro e w4 ⟨va, rfl, hown, hb⟩
              have RA := Lib.hid (Rd.of_own (xs := x0.dropLast) hown)
              have B4 := Lib.hid (B3.out.trans (hb.mono B3.out.size))
              clear hown hb
              have kl : w4.cell? ⟨b, o + (x0.length - 1), none⟩ = some (.string ⟨#[]⟩) := (B4.out.cell (by exact hlt)).trans ((HC.out _ _ (get_lt hn1)).trans (by rw [HL.out]; rfl))
              go_wp2_with fail
              refine (same_any va _ x0.dropLast x0.dropLast _ RA.out (Rd.front (n := 0) (Hrd.out.below B4.out) HN.out) (by rw [List.length_dropLast]; omega) (by rw [List.length_dropLast]; omega)).mono ?_
              rintro e w5 ⟨rfl, hb⟩
              rw [decide_eq_true rfl]
              have B5 := Lib.hid (B4.out.trans (hb.mono B4.out.size))
              clear hb
              go_wp2_with fail
              go_ret
              exact ⟨rfl, B5.out⟩
            · rw [if_neg (by rw [hgl]; exact fun h => hla (Option.some.inj h))] at hsp
              have Hs := Lib.hid hsp
              have e1 : ((S x0[x0.length - 1]).toList == ([] : List UInt8)) = false := by rw [S_toList]; simpa using hla
              clear hsp hall HT hgl hla
              go_wp2_with fail
              refine (join_any _ x0 false _ (Hrd.out.below HB.out) Hfe.out).mono ?_
              rintro e w3 ⟨rfl, hb⟩
              have B3 := Lib.hid (HB.out.trans (hb.mono HB.out.size))
              clear hb
              go_wp2_with fail
              refine (Hs.out _).mono ?_
              rintro e w4 ⟨va, rfl, hown, hb⟩
              have RA := Lib.hid (Rd.of_own (xs := x0) hown)
              have B4 := Lib.hid (B3.out.trans (hb.mono B3.out.size))
              clear hown hb
              have kl : w4.cell? ⟨b, o + (x0.length - 1), none⟩ = some (.string (S x0[x0.length - 1])) := (B4.out.cell (by exact hlt)).trans (HC.out _ _ (get_lt hn1))
              generalize S x0[x0.length - 1] = lst at *
              go_wp2_with fail
              refine (same_any va _ x0 x0 _ RA.out (Hrd.out.below B4.out) hlx hlx).mono ?_
              rintro e w5 ⟨rfl, hb⟩
              rw [decide_eq_true rfl]
              have B5 := Lib.hid (B4.out.trans (hb.mono B4.out.size))
              clear hb
              go_wp2_with fail
              go_ret
              exact ⟨rfl, B5.out⟩

set_option maxRecDepth 100000 in
theorem lifted (os : Os) (started : os.Started) (H : Type) (enc : TypeId × Value → H) :
    ReturnsInHanded {} Tryd.checked os 5 .any (fun w args => (Rows.linesBackSpec.pre enc Tryd.prog Tryd.f5 Rows.linesBackRow.domain false w args ∧ laidMetH Tryd.prog Rows.linesBackRow.laid w) ∧ sizedMet enc Tryd.prog Tryd.f5 (OpenSpec.ofChange Rows.linesBackSpec) false w args)
      (Rows.linesBackSpec.post enc Tryd.prog Tryd.f5 false true false false) := by
  refine returnsInHanded_of_change_and (C := Tryd.checked) (X := fun w _ => laidMetH Tryd.prog Rows.linesBackRow.laid w) (fun _ _ _ hh h => h.of_heap hh) own started (by kernel_rfl) Tryd.func5
    (ChangeSpec.witness_shaped (enc := enc) (C := Tryd.checked) (os := os) (X := fun w _ => laidMetH Tryd.prog Rows.linesBackRow.laid w) false (World.laidAll Tryd.prog os Rows.linesBackRow.laid) #[.slice none 0 0, .bool false] 8 (World.laidAll_os _ _ _)
      (World.shaped_of_ZipB (by kernel_rfl) (by kernel_rfl)) (by kernel_rfl) (by kernel_rfl) (by kernel_rfl)
      (by rw [MakeChecks.laidMetH_plain _ _ _ (by kernel_rfl)]; exact laidMet_laidAll _ (by kernel_rfl) (by kernel_rfl))) ?_
  intro W base args ds gs before hval0 hW hcnd hsz0 hL _
  have hval : ∀ (j : Nat) t v, Tryd.f5.params[j]? = some t → args[j]? = some v → Value.okWide Tryd.prog W .any base t v := hval0
  have hsz : (DataW.weightsEach Tryd.prog (Tryd.f5.params.toList ++ Rows.linesBackSpec.plain.varTypes Tryd.prog) (ds ++ gs)).all (· ≤ reachBytes) = true := hsz0
  have hW' := hW
  obtain ⟨p, q, hA0, hV, rfl, hfz, hnd⟩ := hW
  have hA : DataW.TrodAll enc Tryd.prog W 0 (fun _ => true) true Tryd.f5.params.toList args.toList ds p := hA0
  rw [Tryd.params5] at hA hval hsz
  obtain ⟨v0, vs0, d0, ds0, p0, q0, hargs, rfl, rfl, h0, r0⟩ := trodAll_cons hA
  obtain ⟨v1, vs1, d1, ds1, p1, q1, rfl, rfl, rfl, h1, r1⟩ := trodAll_cons r0
  obtain ⟨rfl, rfl, rfl⟩ := trodAll_nil r1
  obtain rfl : args = #[v0, v1] := by cases args; simp_all
  obtain ⟨rfl, rfl⟩ := trodVars_none hV
  obtain ⟨s0, l0, c0, rfl⟩ := okWide_slice Tryd.underlying22 (hval 0 22 v0 rfl rfl)
  have hlt0 : ∀ x ∈ p0, x.block < W.heap.size := fun x hx => hW'.lt x (by simp [hx])
  obtain ⟨x0, w0, n0⟩ := rd_of h0 hlt0
  obtain ⟨a1, rfl, rfl, rfl⟩ := open_bool Tryd.underlying4 (hval 1 4 v1 rfl rfl) h1
  clear hA0 hval0 hsz0
  simp only [List.append_nil] at hW'
  refine (walk W _ x0 w0 n0 a1).mono fun e W' ⟨he, bel⟩ => ?_
  subst he
  exact ⟨_, rfl, _, _, _, [], _, [], hW', trodAll_mk1 (shut_bool Tryd.underlying4 _), (trodAll_cons_mk (Below.trod laidOut (by kernel_rfl) (of_decide_eq_true (by kernel_rfl)) h0 bel hlt0) (trodAll_cons_mk (shut_bool Tryd.underlying4 _) trodAll_mk0)), rfl, bel.frame _, fun h => by cases h⟩

theorem over : Rows.linesBackRow.holds Tryd.pinned (OpenSpec.ofChange Rows.linesBackSpec) :=
  OpenClaim.holds_of_wide 5 Tryd.f5 rfl rfl rfl rfl rfl rfl rfl ⟨rfl, rfl, rfl, rfl, rfl⟩ rfl rfl rfl rfl rfl (by kernel_rfl) Tryd.func5 (by kernel_rfl)
    (of_decide_eq_true (by kernel_rfl)) (by unfold Func.isWrapper; first | (rw [if_pos (by decide +kernel)]; kernel_rfl) | (rw [if_neg (by decide +kernel)]; exact ⟨rfl, rfl⟩))
    (fun os started H enc _ => lifted os started H enc)

theorem card : Rows.LinesBackCardSaid :=
  Claim7.holds_tied_plain_at .later [] [.data, .pinned] true _ false over (fun _ h => by cases h) (by kernel_rfl) (fun _ h => by cases h) linesBack_row_tie rfl ⟨rfl, rfl⟩ (by kernel_rfl) rfl
    (fun f fn hf hfn => by
      obtain rfl : f = 5 := Option.some.inj ((show Tryd.prog.funcNamed Rows.linesBackRow.func = some 5 by kernel_rfl).symm.trans hf) |>.symm
      obtain rfl : fn = Tryd.f5 := (Option.some.inj (Tryd.func5.symm.trans hfn)).symm
      exact ⟨by kernel_rfl, fun j t ht => by
        rw [Tryd.params5] at ht
        have hm : t ∈ [22, 4] := by simpa using Array.mem_of_getElem? ht
        have hall : ([22, 4].all fun u => !Tryd.prog.wantsStandIn u) = true := by kernel_rfl
        exact (show Tryd.prog.wantsStandIn t = false by simpa using List.all_eq_true.1 hall t hm)⟩)
    (by kernel_rfl)
end Go.Proofs.YtkldndmmjgodbaaDoor.linesBack
